/-
 Plain functions: what the functions of the program come to.
-/
import Derived.Test.YtfihndcobnkiaaaGreatM18aSh0
import Derived.Test.YtfihndcobnkiaaaGreatM18aPwD
set_option linter.unusedVariables false
set_option linter.unusedSimpArgs false
set_option linter.unusedSectionVars false
namespace Go.Sh
set_option maxRecDepth 100000
noncomputable section
structure store_Obj where
 Serial:Int
 Strong:Int
 Weak:Int
 Prog:Int
 Started:Bool
 Fields:List Int
structure slab_Cell_store_Obj where
 State:Int
 Gen:Int
 Val:store_Obj
structure slab_Slab_store_Obj where
 Cells:List slab_Cell_store_Obj
 Last:Int
structure store_Store where
 S:slab_Slab_store_Obj
 Serial:Int
structure weak_Cell where
 Target:Int
 Intact:Bool
 Call:Int
structure hash_Place where
 State:Int
 Key:Int
 Val:Int
structure task_Task where
 Kind:Int
 At:Int
 Prog:Int
instance:BEq task_Task:=⟨λa b=>((a.Kind==b.Kind)&&((a.At==b.At)&&((a.Prog==b.Prog)&&true)))⟩
theorem task_Task.beq_eq(a b:task_Task)(h:(a==b)=true):a=b:=by
 have h:((a.Kind==b.Kind)&&((a.At==b.At)&&((a.Prog==b.Prog)&&true)))=true:=h
 simp only[Bool.and_eq_true,beq_iff_eq,and_true] at h
 obtain⟨h0,h1,h2⟩:=h
 cases a;cases b;simp_all
structure queue_Queue_task_Task where
 L:List task_Task
 Cap:Int
structure hold_Heap where
 S:store_Store
 Roots:List Int
 Cells:List weak_Cell
 T:List hash_Place
 Q:queue_Queue_task_Task
structure code_Op where
 Kind:Int
 A:Int
 B:Int
 C:Int
structure y4 where
 Serial:Int
 Strong:Int
 Weak:Int
 Prog:Int
 Started:Bool
 Fields:List Int
structure j1 where
 State:Int
 Gen:Int
 Val:y4
structure g8 where
 Target:Int
 Intact:Bool
 Call:Int
structure g5 where
 State:Int
 Key:Int
 Val:Int
structure l7 where
 Kind:Int
 At:Int
 Prog:Int
structure g6 where
 Cells:List j1
 Last:Int
 Serial:Int
structure p6 where
 L:List l7
 Cap:Int
structure c5 where
 S:g6
 Roots:List Int
 Cells:List g8
 T:List g5
 Q:p6
structure o9 where
 State:Int
 Gen:Int
 Val:Int
structure p9 where
 Cells:List o9
 Last:Int
structure B3 where
 Key:Int
 Val:Int
structure c9 where
 part:Fv
 least:Int
 most:Int
 e:Int
structure n7 where
 x:hold_Heap
 o:code_Op
structure F1 where
 r:Int
 h:Int
structure D8 where
 h:Int
 k:Int
 v:Int
structure F0 where
 t:List hash_Place
structure A6 where
 kept:Fv
structure j4 where
 Key:Int
 Val:Int
structure L8 where
 Kind:Int
 A:Int
 B:Int
 C:Int
def a7X(a0:store_Store):Option Bool:=
 jn (λ(_:Unit)=>
  some (decide ((a0.S.Cells.length:Int)≤30))) (λκ5=>
  (lp (S:=Int) (E:=Bool ⊕ Unit) (λ(s8:Int)=>
   if ((decide (s8<(a0.S.Cells.length:Int)))&&(decide (s8<30))) then
    (ix a0.S.Cells s8).bind λv10=>
    if (decide ((v10.Val.Fields.length:Int) > 10)) then
     some (.inr (.inl false))
    else
    some (.inl (s6 (s8+1)))
   else
   some (.inr (.inr ()))) 0).bind λe7=>
  match e7 with
  | .inl w=>some w
  | .inr w=>κ5 w)
def a5T(a0:hold_Heap):Option Bool:=
 (a7X a0.S).bind λv1=>
 some ((((v1&&(decide ((a0.Roots.length:Int)≤20)))&&(decide ((a0.Cells.length:Int)≤20)))&&(decide ((a0.T.length:Int)≤20)))&&(decide ((a0.Q.L.length:Int)≤60)))
def b2i(a0:store_Obj):Option y4:=
 some (⟨a0.Serial,a0.Strong,a0.Weak,a0.Prog,a0.Started,a0.Fields⟩:y4)
def b2h(a0:store_Store):Option g6:=
 jn (λ(j10:List j1)=>
  some (⟨j10,a0.S.Last,a0.Serial⟩:g6)) (λκ9=>
  (lp (S:=Int × (List j1)) (E:=(List j1)) (λ((s12,s13):Int × (List j1))=>
   if (decide (s12<(a0.S.Cells.length:Int))) then
    (ix a0.S.Cells s12).bind λv16=>
    (b2i v16.Val).bind λv17=>
    (app 80 s13 [(⟨v16.State,v16.Gen,v17⟩:j1)]).bind λv18=>
    some (.inl (s6 (s12+1),v18))
   else
   some (.inr s13)) (0,[])).bind λe11=>
  κ9 e11)
def a7W(a0:List weak_Cell):Option (List g8):=
 jn (λ(j9:List g8)=>
  some j9) (λκ8=>
  (lp (S:=Int × (List g8)) (E:=(List g8)) (λ((s11,s12):Int × (List g8))=>
   if (decide (s11<(a0.length:Int))) then
    (ix a0 s11).bind λv15=>
    (app 24 s12 [(⟨v15.Target,v15.Intact,v15.Call⟩:g8)]).bind λv16=>
    some (.inl (s6 (s11+1),v16))
   else
   some (.inr s12)) (0,[])).bind λe10=>
  κ8 e10)
def b2j(a0:List hash_Place):Option (List g5):=
 jn (λ(j9:List g5)=>
  some j9) (λκ8=>
  (lp (S:=Int × (List g5)) (E:=(List g5)) (λ((s11,s12):Int × (List g5))=>
   if (decide (s11<(a0.length:Int))) then
    (ix a0 s11).bind λv15=>
    (app 24 s12 [(⟨v15.State,v15.Key,v15.Val⟩:g5)]).bind λv16=>
    some (.inl (s6 (s11+1),v16))
   else
   some (.inr s12)) (0,[])).bind λe10=>
  κ8 e10)
def a7Z(a0:queue_Queue_task_Task):Option p6:=
 jn (λ(j9:List l7)=>
  some (⟨j9,a0.Cap⟩:p6)) (λκ8=>
  (lp (S:=Int × (List l7)) (E:=(List l7)) (λ((s11,s12):Int × (List l7))=>
   if (decide (s11<(a0.L.length:Int))) then
    (ix a0.L s11).bind λv15=>
    (app 24 s12 [(⟨v15.Kind,v15.At,v15.Prog⟩:l7)]).bind λv16=>
    some (.inl (s6 (s11+1),v16))
   else
   some (.inr s12)) (0,[])).bind λe10=>
  κ8 e10)
def W9(a0:hold_Heap):Option c5:=
 (b2h a0.S).bind λv1=>
 (a7W a0.Cells).bind λv2=>
 (b2j a0.T).bind λv3=>
 (a7Z a0.Q).bind λv4=>
 some (⟨v1,a0.Roots,v2,v3,v4⟩:c5)
def J3(a0:g6):Option p9:=
 jn (λ(j9:List o9)=>
  some (⟨j9,a0.Last⟩:p9)) (λκ8=>
  (lp (S:=Int × (List o9)) (E:=(List o9)) (λ((s11,s12):Int × (List o9))=>
   if (decide (s11<(a0.Cells.length:Int))) then
    (ix a0.Cells s11).bind λv15=>
    (app 24 s12 [(⟨v15.State,v15.Gen,s11⟩:o9)]).bind λv16=>
    some (.inl (s6 (s11+1),v16))
   else
   some (.inr s12)) (0,[])).bind λe10=>
  κ8 e10)
def a7w(a0:p9):Option Bool:=
 if (((decide ((a0.Cells.length:Int) > 24))||(decide (a0.Last<0)))||(decide (a0.Last > 9))) then
  some false
 else
 jn (λ(_:Unit)=>
  some true) (λκ5=>
  (lp (S:=Int) (E:=Bool ⊕ Unit) (λ(s8:Int)=>
   if (decide (s8<(a0.Cells.length:Int))) then
    (ix a0.Cells s8).bind λv10=>
    if ((((decide (v10.State<0))||(decide (v10.State > 3)))||(decide (v10.Gen<0)))||(decide (v10.Gen > a0.Last))) then
     some (.inr (.inl false))
    else
    some (.inl (s6 (s8+1)))
   else
   some (.inr (.inr ()))) 0).bind λe7=>
  match e7 with
  | .inl w=>some w
  | .inr w=>κ5 w)
def a2L(a0:j1):Option Bool:=
 some ((a0.State==1)||(a0.State==2))
def a7x(a0:g6):Option Bool:=
 (J3 a0).bind λv1=>
 (a7w v1).bind λv2=>
 if ((!v2)||(decide (a0.Serial<0))) then
  some false
 else
 jn (λ(_:Unit)=>
  some true) (λκ22=>
  (lp (S:=Int) (E:=Bool ⊕ Unit) (λ(s25:Int)=>
   if (decide (s25<(a0.Cells.length:Int))) then
    jn (λ(_:Unit)=>
     some (.inl (s6 (s25+1)))) (λκ34=>
     (ix a0.Cells s25).bind λv36=>
     (a2L v36).bind λv37=>
     if (!v37) then
      if ((((((v36.Val.Serial != 0)||(v36.Val.Strong != 0))||(v36.Val.Weak != 0))||(v36.Val.Prog != 0))||v36.Val.Started)||((v36.Val.Fields.length:Int) != 0)) then
       some (.inr (.inl false))
      else
      κ34 ()
     else
     if (((((((decide (v36.Val.Serial<1))||(decide (v36.Val.Serial > a0.Serial)))||(decide (v36.Val.Strong<0)))||(decide (v36.Val.Weak<0)))||(decide (v36.Val.Prog<(-1))))||(decide (v36.Val.Prog > 5)))||(decide ((v36.Val.Fields.length:Int) > 4))) then
      some (.inr (.inl false))
     else
     (lp (S:=Int) (E:=Bool ⊕ Unit) (λ(s39:Int)=>
      if (decide (s39<s25)) then
       (ix a0.Cells s39).bind λv41=>
       (a2L v41).bind λv42=>
       if (v42&&(v41.Val.Serial==v36.Val.Serial)) then
        some (.inr (.inl false))
       else
       some (.inl (s6 (s39+1)))
      else
      some (.inr (.inr ()))) 0).bind λe38=>
     match e38 with
     | .inl w=>some (.inr (.inl w))
     | .inr w=>κ34 w)
   else
   some (.inr (.inr ()))) 0).bind λe24=>
  match e24 with
  | .inl w=>some w
  | .inr w=>κ22 w)
def a0c(a0:List g5)(a1:Int):Option Int:=
 jn (λ(_:Unit)=>
  some (-1)) (λκ5=>
  (lp (S:=Int) (E:=Int ⊕ Unit) (λ(s8:Int)=>
   if (decide (s8<(a0.length:Int))) then
    (ix a0 s8).bind λv10=>
    if ((v10.State==1)&&(v10.Key==a1)) then
     some (.inr (.inl s8))
    else
    some (.inl (s6 (s8+1)))
   else
   some (.inr (.inr ()))) 0).bind λe7=>
  match e7 with
  | .inl w=>some w
  | .inr w=>κ5 w)
def a9U(a0:Int)(a1:Int):Option Int:=
 if (decide (a0<1)) then
  some 0
 else
 (rem (s6 ((s6 (5*a1))+1)) a0).bind λv1=>
 if (decide (v1<0)) then
  some (s6 (v1+a0))
 else
 some v1
def a7A(a0:List g5):Option Bool:=
 if ((decide ((a0.length:Int)<1))||(decide ((a0.length:Int) > 8))) then
  some false
 else
 jn (λ(_:Unit)=>
  some true) (λκ22=>
  (lp (S:=Int) (E:=Bool ⊕ Unit) (λ(s25:Int)=>
   if (decide (s25<(a0.length:Int))) then
    jn (λ(_:Unit)=>
     some (.inl (s6 (s25+1)))) (λκ35=>
     (ix a0 s25).bind λv37=>
     if (((decide (v37.State<0))||(decide (v37.State > 2)))||((v37.State != 1)&&((v37.Key != 0)||(v37.Val != 0)))) then
      some (.inr (.inl false))
     else
     if (v37.State != 1) then
      κ35 ()
     else
     (a0c a0 v37.Key).bind λv38=>
     if (v38 != s25) then
      some (.inr (.inl false))
     else
     (a9U (a0.length:Int) v37.Key).bind λv39=>
     (lp (S:=Int) (E:=Bool ⊕ Unit) (λ(s41:Int)=>
      if (s41 != s25) then
       (ix a0 s41).bind λv43=>
       if (v43.State==0) then
        some (.inr (.inl false))
       else
       (rem (s6 (s41+1)) (a0.length:Int)).bind λv44=>
       some (.inl v44)
      else
      some (.inr (.inr ()))) v39).bind λe40=>
     match e40 with
     | .inl w=>some (.inr (.inl w))
     | .inr w=>κ35 w)
   else
   some (.inr (.inr ()))) 0).bind λe24=>
  match e24 with
  | .inl w=>some w
  | .inr w=>κ22 w)
def a15(a0:Int)(a1:Int):Option Int:=
 if ((((decide (a0<0))||(decide (a0 > 23)))||(decide (a1<0)))||(decide (a1 > 9))) then
  some 0
 else
 some (s6 ((s6 (1+a0))+(s6 (32*a1))))
def a4G(a0:Int):Option Bool:=
 if ((decide (a0<1))||(decide (a0 > 400))) then
  some false
 else
 (rem (s6 (a0-1)) 32).bind λv1=>
 (quo .i64 (s6 (a0-1)) 32).bind λv2=>
 (a15 v1 v2).bind λv3=>
 some (v3==a0)
def a4F(a0:Int):Option Int:=
 (a4G a0).bind λv1=>
 if (!v1) then
  some (-1)
 else
 (rem (s6 (a0-1)) 32).bind λv2=>
 some v2
def b13(a0:Int):Option Int:=
 (a4G a0).bind λv1=>
 if (!v1) then
  some (-1)
 else
 (quo .i64 (s6 (a0-1)) 32).bind λv2=>
 some v2
def K1(a0:p9)(a1:Int):Option (Int × Int):=
 if (a1==0) then
  some ((-1),2)
 else
 (a4F a1).bind λv1=>
 if ((decide (v1<0))||(decide (v1≥(a0.Cells.length:Int)))) then
  some ((-1),3)
 else
 (ix a0.Cells v1).bind λv2=>
 (b13 a1).bind λv3=>
 if ((v2.Gen != v3)||((v2.State != 1)&&(v2.State != 2))) then
  some ((-1),3)
 else
 some (v1,0)
def a9L(a0:p9)(a1:Int):Option (Int × Int):=
 (K1 a0 a1).bind λv1=>
 if (v1.2 != 0) then
  some (0,v1.2)
 else
 (ix a0.Cells v1.1).bind λv2=>
 if (v2.State==2) then
  some (0,3)
 else
 some (v2.Val,0)
def D3(a0:g6)(a1:Int):Option (y4 × Int):=
 (J3 a0).bind λv1=>
 (a9L v1 a1).bind λv2=>
 if (v2.2 != 0) then
  some ((⟨0,0,0,0,false,[]⟩:y4),v2.2)
 else
 (ix a0.Cells v2.1).bind λv3=>
 some (v3.Val,0)
def a7H(a0:c5):Option Bool:=
 jn (λ(_:Unit)=>
  some ((a0.Q.Cap==30)&&(decide ((a0.Q.L.length:Int)≤30)))) (λκ30=>
  (lp (S:=Int) (E:=Bool ⊕ Unit) (λ(s33:Int)=>
   if (decide (s33<(a0.Q.L.length:Int))) then
    jn (λ(_:Unit)=>
     some (.inl (s6 (s33+1)))) (λκ47=>
     (ix a0.Q.L s33).bind λv49=>
     if ((((v49.Kind != 1)&&(v49.Kind != 2))||(decide (v49.Prog<0)))||(decide (v49.Prog > 5))) then
      some (.inr (.inl false))
     else
     jn (λ(_:Unit)=>
      (D3 a0.S v49.At).bind λv56=>
      if (((v49.Kind==1)&&((v56.2 != 0)||(!v56.1.Started)))||((v49.Kind==2)&&((decide (v49.At<0))||(decide (v49.At > 5))))) then
       some (.inr (.inl false))
      else
      κ47 ()) (λκ54=>
      (lp (S:=Int) (E:=Bool ⊕ Unit) (λ(s58:Int)=>
       if (decide (s58<s33)) then
        (ix a0.Q.L s58).bind λv60=>
        if ((v60.Kind==v49.Kind)&&(v60.At==v49.At)) then
         some (.inr (.inl false))
        else
        some (.inl (s6 (s58+1)))
       else
       some (.inr (.inr ()))) 0).bind λe57=>
      match e57 with
      | .inl w=>some (.inr (.inl w))
      | .inr w=>κ54 w))
   else
   some (.inr (.inr ()))) 0).bind λe32=>
  match e32 with
  | .inl w=>some w
  | .inr w=>κ30 w)
def T4(a0:c5)(a1:Int):Option Bool:=
 (D3 a0.S a1).bind λv1=>
 some (v1.2==0)
def T5(a0:c5)(a1:Int):Option Bool:=
 (l6 ((a1==0)==false) false (T4 a0 a1)).bind λv1=>
 some ((a1==0)||v1)
def a3c(a0:g6)(a1:List Int):Option (List Int):=
 (app 8 [] a1).bind λv1=>
 jn (λ(j36:List Int)=>
  some j36) (λκ35=>
  (lp (S:=Int × (List Int)) (E:=(List Int)) (λ((s38,s39):Int × (List Int))=>
   if (decide (s38<(s39.length:Int))) then
    jn (λ(j56:List Int)=>
     some (.inl (s6 (s38+1),j56))) (λκ55=>
     (lp (S:=Int × (List Int)) (E:=(List Int)) (λ((s58,s59):Int × (List Int))=>
      if (decide (s58 > 0)) then
       (J3 a0).bind λv62=>
       (ix s59 (s6 (s58-1))).bind λv63=>
       (K1 v62 v63).bind λv64=>
       (ix s59 s58).bind λv65=>
       (K1 v62 v65).bind λv66=>
       (l6 (((decide (v64.1<0))||(decide (v66.1<0)))==false) (⟨0,0,⟨0,0,0,0,false,[]⟩⟩:j1) (ix a0.Cells v64.1)).bind λv67=>
       (l6 (((decide (v64.1<0))||(decide (v66.1<0)))==false) (⟨0,0,⟨0,0,0,0,false,[]⟩⟩:j1) (ix a0.Cells v66.1)).bind λv68=>
       if (((decide (v64.1<0))||(decide (v66.1<0)))||(decide (v67.Val.Serial≤v68.Val.Serial))) then
        some (.inr s59)
       else
       (ix (s59.set (s58).toNat v63) (s6 (s58-1))).bind λv69=>
       some (.inl (s6 (s58-1),((s59.set (s58).toNat v63).set (s6 (s58-1)).toNat v65)))
      else
      some (.inr s59)) (s38,s39)).bind λe57=>
     κ55 e57)
   else
   some (.inr s39)) (1,v1)).bind λe37=>
  κ35 e37)
def a16(a0:g6):Option (List Int):=
 jn (λ(j15:List Int)=>
  (a3c a0 j15).bind λv16=>
  some v16) (λκ14=>
  (lp (S:=Int × (List Int)) (E:=(List Int)) (λ((s18,s19):Int × (List Int))=>
   if (decide (s18<(a0.Cells.length:Int))) then
    jn (λ(j26:List Int)=>
     some (.inl (s6 (s18+1),j26))) (λκ25=>
     (ix a0.Cells s18).bind λv27=>
     if (v27.State==1) then
      (a15 s18 v27.Gen).bind λv28=>
      (app 8 s19 [v28]).bind λv29=>
      κ25 v29
     else
     κ25 s19)
   else
   some (.inr s19)) (0,[])).bind λe17=>
  κ14 e17)
def a9V(a0:List g5):Option (List Int):=
 jn (λ(j13:List Int)=>
  some j13) (λκ12=>
  (lp (S:=Int × (List Int)) (E:=(List Int)) (λ((s15,s16):Int × (List Int))=>
   if (decide (s15<(a0.length:Int))) then
    jn (λ(j22:List Int)=>
     some (.inl (s6 (s15+1),j22))) (λκ21=>
     (ix a0 s15).bind λv23=>
     if (v23.State==1) then
      (app 8 s16 [v23.Key]).bind λv24=>
      κ21 v24
     else
     κ21 s16)
   else
   some (.inr s16)) (0,[])).bind λe14=>
  κ12 e14)
def a7z(a0:List g5)(a1:Int):Option (Int × Int):=
 (a0c a0 a1).bind λv1=>
 if (decide (v1<0)) then
  some (0,9)
 else
 (ix a0 v1).bind λv2=>
 some (v2.Val,0)
def a4K(a0:List g5):Option (List B3):=
 (a9V a0).bind λv1=>
 jn (λ(j11:List B3)=>
  some j11) (λκ10=>
  (lp (S:=Int × (List B3)) (E:=(List B3)) (λ((s13,s14):Int × (List B3))=>
   if (decide (s13<(v1.length:Int))) then
    (ix v1 s13).bind λv17=>
    (a7z a0 v17).bind λv18=>
    (app 16 s14 [(⟨v17,v18.1⟩:B3)]).bind λv19=>
    some (.inl (s6 (s13+1),v19))
   else
   some (.inr s14)) (0,[])).bind λe12=>
  κ10 e12)
def a7G(a0:c5):Option Bool:=
 jn (λ(_:Unit)=>
  (a16 a0.S).bind λv8=>
  jn (λ(_:Unit)=>
   (a4K a0.T).bind λv30=>
   jn (λ(_:Unit)=>
    some true) (λκ37=>
    (lp (S:=Int) (E:=Bool ⊕ Unit) (λ(s40:Int)=>
     if (decide (s40<(v30.length:Int))) then
      (ix v30 s40).bind λv42=>
      (T4 a0 v42.Key).bind λv43=>
      (l6 ((!v43)==false) false (T4 a0 v42.Val)).bind λv44=>
      if ((!v43)||(!v44)) then
       some (.inr (.inl false))
      else
      some (.inl (s6 (s40+1)))
     else
     some (.inr (.inr ()))) 0).bind λe39=>
    match e39 with
    | .inl w=>some w
    | .inr w=>κ37 w)) (λκ28=>
   (lp (S:=Int) (E:=Bool ⊕ Unit) (λ(s46:Int)=>
    if (decide (s46<(v8.length:Int))) then
     jn (λ(_:Unit)=>
      some (.inl (s6 (s46+1)))) (λκ55=>
      (ix v8 s46).bind λv57=>
      (D3 a0.S v57).bind λv58=>
      (lp (S:=Int) (E:=Bool ⊕ Unit) (λ(s60:Int)=>
       if (decide (s60<(v58.1.Fields.length:Int))) then
        (ix v58.1.Fields s60).bind λv62=>
        (T5 a0 v62).bind λv63=>
        if (!v63) then
         some (.inr (.inl false))
        else
        some (.inl (s6 (s60+1)))
       else
       some (.inr (.inr ()))) 0).bind λe59=>
      match e59 with
      | .inl w=>some (.inr (.inl w))
      | .inr w=>κ55 w)
    else
    some (.inr (.inr ()))) 0).bind λe45=>
   match e45 with
   | .inl w=>some w
   | .inr w=>κ28 w)) (λκ6=>
  (lp (S:=Int) (E:=Bool ⊕ Unit) (λ(s65:Int)=>
   if (decide (s65<(a0.Roots.length:Int))) then
    (ix a0.Roots s65).bind λv67=>
    (T5 a0 v67).bind λv68=>
    if (!v68) then
     some (.inr (.inl false))
    else
    some (.inl (s6 (s65+1)))
   else
   some (.inr (.inr ()))) 0).bind λe64=>
  match e64 with
  | .inl w=>some w
  | .inr w=>κ6 w)
def a1A(a0:p6)(a1:Int):Option Bool:=
 jn (λ(_:Unit)=>
  some false) (λκ5=>
  (lp (S:=Int) (E:=Bool ⊕ Unit) (λ(s8:Int)=>
   if (decide (s8<(a0.L.length:Int))) then
    (ix a0.L s8).bind λv10=>
    if ((v10.Kind==2)&&(v10.At==a1)) then
     some (.inr (.inl true))
    else
    some (.inl (s6 (s8+1)))
   else
   some (.inr (.inr ()))) 0).bind λe7=>
  match e7 with
  | .inl w=>some w
  | .inr w=>κ5 w)
def a7F(a0:c5):Option Bool:=
 jn (λ(_:Unit)=>
  some true) (λκ9=>
  (lp (S:=Int) (E:=Bool ⊕ Unit) (λ(s12:Int)=>
   if (decide (s12<(a0.Cells.length:Int))) then
    (ix a0.Cells s12).bind λv14=>
    (J3 a0.S).bind λv15=>
    (K1 v15 v14.Target).bind λv16=>
    (l6 ((((((decide (v14.Call<(-1)))||(decide (v14.Call > 5)))||((v14.Target==0)&&v14.Intact))||((v14.Target != 0)&&(v16.2 != 0)))==false)&&(v14.Intact==true)) false (T4 a0 v14.Target)).bind λv17=>
    (l6 (((((((decide (v14.Call<(-1)))||(decide (v14.Call > 5)))||((v14.Target==0)&&v14.Intact))||((v14.Target != 0)&&(v16.2 != 0)))==false)&&(v14.Intact==true))&&((!v17)==false)) false (a1A a0.Q s12)).bind λv18=>
    if (((((decide (v14.Call<(-1)))||(decide (v14.Call > 5)))||((v14.Target==0)&&v14.Intact))||((v14.Target != 0)&&(v16.2 != 0)))||(v14.Intact&&((!v17)||v18))) then
     some (.inr (.inl false))
    else
    some (.inl (s6 (s12+1)))
   else
   some (.inr (.inr ()))) 0).bind λe11=>
  match e11 with
  | .inl w=>some w
  | .inr w=>κ9 w)
def a8Q(a0:Int)(a1:Int):Option Int:=
 (a15 a0 a1).bind λv1=>
 some v1
def a5y(a0:List g8)(a1:Int):Option Int:=
 jn (λ(j11:Int)=>
  some j11) (λκ10=>
  (lp (S:=Int × Int) (E:=Int) (λ((s13,s14):Int × Int)=>
   if (decide (s14<(a0.length:Int))) then
    jn (λ(j19:Int)=>
     some (.inl (j19,s6 (s14+1)))) (λκ18=>
     (ix a0 s14).bind λv20=>
     if ((v20.Target==a1)&&(a1 != 0)) then
      κ18 (s6 (s13+1))
     else
     κ18 s13)
   else
   some (.inr s13)) (0,0)).bind λe12=>
  κ10 e12)
def a7I(a0:c5):Option Bool:=
 jn (λ(_:Unit)=>
  some true) (λκ12=>
  (lp (S:=Int) (E:=Bool ⊕ Unit) (λ(s15:Int)=>
   if (decide (s15<(a0.S.Cells.length:Int))) then
    jn (λ(_:Unit)=>
     some (.inl (s6 (s15+1)))) (λκ20=>
     (ix a0.S.Cells s15).bind λv22=>
     if ((v22.State != 1)&&(v22.State != 2)) then
      κ20 ()
     else
     (a8Q s15 v22.Gen).bind λv23=>
     (a5y a0.Cells v23).bind λv24=>
     if ((v22.Val.Weak != v24)||((v22.State==2)&&(((decide (v22.Val.Weak<1))||(decide ((v22.Val.Fields.length:Int) > 0)))||(v22.Val.Strong != 0)))) then
      some (.inr (.inl false))
     else
     κ20 ())
   else
   some (.inr (.inr ()))) 0).bind λe14=>
  match e14 with
  | .inl w=>some w
  | .inr w=>κ12 w)
def a6P(a0:p6):Option (List Int):=
 jn (λ(j13:List Int)=>
  some j13) (λκ12=>
  (lp (S:=Int × (List Int)) (E:=(List Int)) (λ((s15,s16):Int × (List Int))=>
   if (decide (s15<(a0.L.length:Int))) then
    jn (λ(j22:List Int)=>
     some (.inl (s6 (s15+1),j22))) (λκ21=>
     (ix a0.L s15).bind λv23=>
     if (v23.Kind==1) then
      (app 8 s16 [v23.At]).bind λv24=>
      κ21 v24
     else
     κ21 s16)
   else
   some (.inr s16)) (0,[])).bind λe14=>
  κ12 e14)
def a7E(a0:c5):Option (List Int):=
 jn (λ(j13:List Int)=>
  (a6P a0.Q).bind λv14=>
  (app 8 j13 v14).bind λv15=>
  some v15) (λκ12=>
  (lp (S:=Int × (List Int)) (E:=(List Int)) (λ((s17,s18):Int × (List Int))=>
   if (decide (s17<(a0.Roots.length:Int))) then
    jn (λ(j24:List Int)=>
     some (.inl (s6 (s17+1),j24))) (λκ23=>
     (ix a0.Roots s17).bind λv25=>
     if (v25 != 0) then
      (app 8 s18 [v25]).bind λv26=>
      κ23 v26
     else
     κ23 s18)
   else
   some (.inr s18)) (0,[])).bind λe16=>
  κ12 e16)
def Y2(a0:Int):Option Bool:=
 some (decide (a0≥12))
def a7D(a0:g6)(a1:Int):Option Bool:=
 (D3 a0 a1).bind λv1=>
 (Y2 v1.1.Strong).bind λv2=>
 some v2
def a1x(a0:List Int):Option (List Int):=
 jn (λ(j13:List Int)=>
  some j13) (λκ12=>
  (lp (S:=Int × (List Int)) (E:=(List Int)) (λ((s15,s16):Int × (List Int))=>
   if (decide (s15<(a0.length:Int))) then
    jn (λ(j22:List Int)=>
     some (.inl (s6 (s15+1),j22))) (λκ21=>
     (ix a0 s15).bind λv23=>
     if (v23 != 0) then
      (app 8 s16 [v23]).bind λv24=>
      κ21 v24
     else
     κ21 s16)
   else
   some (.inr s16)) (0,[])).bind λe14=>
  κ12 e14)
def b16(a0:g6)(a1:Int):Option (List Int):=
 (D3 a0 a1).bind λv1=>
 if (v1.2 != 0) then
  some []
 else
 (a1x v1.1.Fields).bind λv2=>
 some v2
def a0A(a0:List Int)(a1:Int):Option Int:=
 jn (λ(j11:Int)=>
  some j11) (λκ10=>
  (lp (S:=Int × Int) (E:=Int) (λ((s13,s14):Int × Int)=>
   if (decide (s14<(a0.length:Int))) then
    jn (λ(j19:Int)=>
     some (.inl (j19,s6 (s14+1)))) (λκ18=>
     (ix a0 s14).bind λv20=>
     if ((v20==a1)&&(a1 != 0)) then
      κ18 (s6 (s13+1))
     else
     κ18 s13)
   else
   some (.inr s13)) (0,0)).bind λe12=>
  κ10 e12)
def b5H(a0:g6)(a1:Int):Option Int:=
 (a16 a0).bind λv1=>
 jn (λ(j11:Int)=>
  some j11) (λκ10=>
  (lp (S:=Int × Int) (E:=Int) (λ((s13,s14):Int × Int)=>
   if (decide (s14<(v1.length:Int))) then
    (ix v1 s14).bind λv17=>
    (b16 a0 v17).bind λv18=>
    (a0A v18 a1).bind λv19=>
    some (.inl (s6 (s13+v19),s6 (s14+1)))
   else
   some (.inr s13)) (0,0)).bind λe12=>
  κ10 e12)
def a7B(a0:List g5)(a1:Int):Option Int:=
 (a4K a0).bind λv1=>
 jn (λ(j12:Int)=>
  some j12) (λκ11=>
  (lp (S:=Int × Int) (E:=Int) (λ((s14,s15):Int × Int)=>
   if (decide (s15<(v1.length:Int))) then
    jn (λ(j20:Int)=>
     some (.inl (j20,s6 (s15+1)))) (λκ19=>
     (ix v1 s15).bind λv21=>
     if ((v21.Val==a1)&&(a1 != 0)) then
      κ19 (s6 (s14+1))
     else
     κ19 s14)
   else
   some (.inr s14)) (0,0)).bind λe13=>
  κ11 e13)
def a7C(a0:g6)(a1:List g5)(a2:Int):Option Int:=
 (b5H a0 a2).bind λv1=>
 (a7B a1 a2).bind λv2=>
 some (s6 (v1+v2))
def a90(a0:g6)(a1:List g5)(a2:Int):Option Int:=
 (D3 a0 a2).bind λv1=>
 if (v1.2 != 0) then
  some 0
 else
 (a7C a0 a1 a2).bind λv2=>
 some (s6 (v1.1.Strong-v2))
def a9Z(a0:g6)(a1:List g5)(a2:List Int):Option Bool:=
 (a16 a0).bind λv1=>
 jn (λ(_:Unit)=>
  some true) (λκ9=>
  (lp (S:=Int) (E:=Bool ⊕ Unit) (λ(s12:Int)=>
   if (decide (s12<(v1.length:Int))) then
    (ix v1 s12).bind λv14=>
    (a7D a0 v14).bind λv15=>
    (l6 ((!v15)==true) 0 (a90 a0 a1 v14)).bind λv16=>
    (l6 ((!v15)==true) 0 (a0A a2 v14)).bind λv17=>
    if ((!v15)&&(v16 != v17)) then
     some (.inr (.inl false))
    else
    some (.inl (s6 (s12+1)))
   else
   some (.inr (.inr ()))) 0).bind λe11=>
  match e11 with
  | .inl w=>some w
  | .inr w=>κ9 w)
def a1B(a0:c5):Option Bool:=
 (a7x a0.S).bind λv1=>
 (l6 ((!v1)==false) false (a7A a0.T)).bind λv2=>
 if ((((!v1)||(!v2))||((a0.Roots.length:Int) != 6))||((a0.Cells.length:Int) != 6)) then
  some false
 else
 (a7H a0).bind λv3=>
 (l6 (v3==true) false (a7G a0)).bind λv4=>
 (l6 ((v3&&v4)==true) false (a7F a0)).bind λv5=>
 (l6 (((v3&&v4)&&v5)==true) false (a7I a0)).bind λv6=>
 (l6 ((((v3&&v4)&&v5)&&v6)==true) [] (a7E a0)).bind λv7=>
 (l6 ((((v3&&v4)&&v5)&&v6)==true) false (a9Z a0.S a0.T v7)).bind λv8=>
 some ((((v3&&v4)&&v5)&&v6)&&v8)
def a7Y(a0:hold_Heap):Option Bool:=
 (a5T a0).bind λv1=>
 (l6 ((v1&&(decide (a0.S.Serial<1000000000)))==true) ⟨⟨[],0,0⟩,[],[],[],⟨[],0⟩⟩ (W9 a0)).bind λv2=>
 (l6 ((v1&&(decide (a0.S.Serial<1000000000)))==true) false (a1B v2)).bind λv3=>
 some ((v1&&(decide (a0.S.Serial<1000000000)))&&v3)
def a3f(a0:c5):Option (List Int):=
 (a16 a0.S).bind λv1=>
 jn (λ(j16:List Int)=>
  some j16) (λκ15=>
  (lp (S:=Int × (List Int)) (E:=(List Int)) (λ((s18,s19):Int × (List Int))=>
   if (decide (s18<(v1.length:Int))) then
    jn (λ(j26:List Int)=>
     some (.inl (s6 (s18+1),j26))) (λκ25=>
     (ix v1 s18).bind λv27=>
     (D3 a0.S v27).bind λv28=>
     if (v28.1.Strong==0) then
      (app 8 s19 [v27]).bind λv29=>
      κ25 v29
     else
     κ25 s19)
   else
   some (.inr s19)) (0,[])).bind λe17=>
  κ15 e17)
def a19(a0:c5):Option Bool:=
 (a3f a0).bind λv1=>
 some ((v1.length:Int)==0)
def a3p(a0:hold_Heap):Option Bool:=
 (a7Y a0).bind λv1=>
 (l6 (v1==true) ⟨⟨[],0,0⟩,[],[],[],⟨[],0⟩⟩ (W9 a0)).bind λv2=>
 (l6 (v1==true) false (a19 v2)).bind λv3=>
 some (v1&&v3)
def a3l(a0:Int)(a1:Int):Option slab_Slab_store_Obj:=
 if ((((decide (a0<0))||(decide (a0 > 24)))||(decide (a1<0)))||(decide (a1 > 9))) then
  some (⟨[],0⟩:slab_Slab_store_Obj)
 else
 (mk 80 a0 (⟨0,0,⟨0,0,0,0,false,[]⟩⟩:slab_Cell_store_Obj)).bind λv1=>
 some (⟨v1,a1⟩:slab_Slab_store_Obj)
def b4U(a0:Int)(a1:Int):Option store_Store:=
 (a3l a0 a1).bind λv1=>
 some (⟨v1,0⟩:store_Store)
def b74(a0:Int):Option (List weak_Cell):=
 if ((decide (a0<0))||(decide (a0 > 6))) then
  some []
 else
 (mk 24 a0 (⟨0,false,0⟩:weak_Cell)).bind λv1=>
 jn (λ(j9:List weak_Cell)=>
  some j9) (λκ8=>
  (lp (S:=Int × (List weak_Cell)) (E:=(List weak_Cell)) (λ((s11,s12):Int × (List weak_Cell))=>
   if (decide (s11<(v1.length:Int))) then
    (ix s12 s11).bind λv15=>
    some (.inl (s6 (s11+1),(s12.set (s11).toNat (⟨v15.Target,v15.Intact,(-1)⟩:weak_Cell))))
   else
   some (.inr s12)) (0,v1)).bind λe10=>
  κ8 e10)
def b64(a0:Int):Option (List hash_Place):=
 if ((decide (a0<1))||(decide (a0 > 8))) then
  some []
 else
 (mk 24 a0 (⟨0,0,0⟩:hash_Place)).bind λv1=>
 some v1
def Z3(a0:Int):Option queue_Queue_task_Task:=
 some (⟨[],a0⟩:queue_Queue_task_Task)
def b0h:Option queue_Queue_task_Task:=
 (Z3 30).bind λv1=>
 some v1
def b2K(a0:Int)(a1:Int)(a2:Int):Option hold_Heap:=
 if ((((((decide (a0<1))||(decide (a0 > 24)))||(decide (a1<0)))||(decide (a1 > 9)))||(decide (a2<1)))||(decide (a2 > 8))) then
  some (⟨⟨⟨[],0⟩,0⟩,[],[],[],⟨[],0⟩⟩:hold_Heap)
 else
 (b4U a0 a1).bind λv1=>
 (mk 8 6 (0:Int)).bind λv2=>
 (b74 6).bind λv3=>
 (b64 a2).bind λv4=>
 (b0h).bind λv5=>
 some (⟨v1,v2,v3,v4,v5⟩:hold_Heap)
def U2:Option c9:=
 some (⟨(some 178),0,5,6⟩:c9)
def M7:Option c9:=
 some (⟨(some 181),(-1),5,13⟩:c9)
def G4(a0:List c9):Option (List c9):=
 some a0
def U3:Option c9:=
 some (⟨(some 179),0,5,6⟩:c9)
def Q3:Option c9:=
 some (⟨(some 181),0,3,5⟩:c9)
def Q2:Option c9:=
 some (⟨(some 179),0,3,5⟩:c9)
def K7:Option c9:=
 some (⟨(some 181),(-1),5,6⟩:c9)
def U0:Option c9:=
 some (⟨(some 178),0,5,7⟩:c9)
def K6:Option c9:=
 some (⟨(some 179),(-1),5,6⟩:c9)
def U1:Option c9:=
 some (⟨(some 179),0,5,7⟩:c9)
def a5c:Option (List (Int × (List c9))):=
 (U2).bind λv1=>
 (M7).bind λv2=>
 (G4 [v1,(⟨(some 179),0,4,1⟩:c9),v2]).bind λv3=>
 (U3).bind λv4=>
 (G4 [v1,v4]).bind λv5=>
 (G4 [v1]).bind λv6=>
 (Q3).bind λv7=>
 (G4 [v1,v4,v7]).bind λv8=>
 (Q2).bind λv9=>
 (K7).bind λv10=>
 (G4 [v1,v9,v10]).bind λv11=>
 (U0).bind λv12=>
 (K6).bind λv13=>
 (G4 [v12,v13,v2]).bind λv14=>
 (U1).bind λv15=>
 (G4 [v1,v15]).bind λv16=>
 (G4 [v1,v13]).bind λv17=>
 (G4 []).bind λv18=>
 (G4 [(⟨(some 178),0,200,12⟩:c9)]).bind λv19=>
 some (m7 (m7 (m7 (m7 (m7 (m7 (m7 (m7 (m7 (m7 (m7 (m7 [] 1 v3) 2 v5) 3 v6) 4 v8) 5 v11) 6 v14) 7 v16) 8 v17) 9 v5) 10 v5) 11 v18) 12 v19)
def a8C(a0:code_Op):Option Int:=
 some a0.A
def a8D(a0:code_Op):Option Int:=
 some a0.B
def a8E(a0:code_Op):Option Int:=
 some a0.C
def a9l(f:Fv)(a0:code_Op):Option Int:=
 if f=some 178 then a8C a0 else
 if f=some 179 then a8D a0 else
 if f=some 181 then a8E a0 else
 none
def a2S(a0:code_Op):Option Int:=
 (a5c).bind λv1=>
 if (!((y7 v1 a0.Kind).isSome)) then
  some 14
 else
 jn (λ(_:Unit)=>
  some 0) (λκ8=>
  (lp (S:=Int) (E:=Int ⊕ Unit) (λ(s11:Int)=>
   if (decide (s11<(((y7 v1 a0.Kind).getD ([]:List c9)).length:Int))) then
    (ix ((y7 v1 a0.Kind).getD ([]:List c9)) s11).bind λv13=>
    (a9l v13.part a0).bind λv14=>
    if ((decide (v14<v13.least))||(decide (v14 > v13.most))) then
     some (.inr (.inl v13.e))
    else
    some (.inl (s6 (s11+1)))
   else
   some (.inr (.inr ()))) 0).bind λe10=>
  match e10 with
  | .inl w=>some w
  | .inr w=>κ8 w)
def a1R:Option (List (Int × Fv)):=
 some (m7 (m7 (m7 (m7 (m7 (m7 (m7 (m7 (m7 (m7 [] 1 (some 96)) 2 (some 97)) 3 (some 98)) 4 (some 99)) 5 (some 100)) 6 (some 101)) 7 (some 102)) 8 (some 103)) 9 (some 104)) 10 (some 105))
def b6n(a0:Int):Option ((List Int) × Int):=
 if ((decide (a0<0))||(decide (a0 > 4))) then
  some ([],1)
 else
 (mk 8 a0 (0:Int)).bind λv1=>
 some (v1,0)
def G0(a0:Int):Option Bool:=
 some ((decide (a0≥(-1)))&&(decide (a0<6)))
def K3(a0:slab_Slab_store_Obj):Option slab_Slab_store_Obj:=
 some a0
def r8(a0:List slab_Cell_store_Obj):Option (List slab_Cell_store_Obj):=
 app 80 [] a0
def B0(a0:slab_Slab_store_Obj)(a1:Int)(a2:slab_Cell_store_Obj):Option slab_Slab_store_Obj:=
 (r8 a0.Cells).bind λv1=>
 (ix v1 a1).bind λv2=>
 some (⟨(v1.set (a1).toNat a2),a0.Last⟩:slab_Slab_store_Obj)
def V3(a0:Int)(a1:Int):Option Int:=
 if ((((decide (a0<0))||(decide (a0≥24)))||(decide (a1<0)))||(decide (a1 > 9))) then
  some 0
 else
 some (s6 ((s6 (1+(s6 (a0*1))))+(s6 (a1*32))))
def G1(a0:slab_Slab_store_Obj)(a1:store_Obj):Option (slab_Slab_store_Obj × Int × Int):=
 jn (λ(_:Unit)=>
  some (a0,0,4)) (λκ9=>
  (K3 a0).bind λv11=>
  (lp (S:=Int) (E:=(slab_Slab_store_Obj × Int × Int) ⊕ Unit) (λ(s13:Int)=>
   if (decide (s13<(v11.Cells.length:Int))) then
    (ix v11.Cells s13).bind λv15=>
    if ((v15.State==0)==true) then
     (ix a0.Cells s13).bind λv16=>
     (B0 a0 s13 (⟨1,v16.Gen,a1⟩:slab_Cell_store_Obj)).bind λv17=>
     (V3 s13 v16.Gen).bind λv18=>
     some (.inr (.inl (v17,v18,0)))
    else
    some (.inl (s6 (s13+1)))
   else
   some (.inr (.inr ()))) 0).bind λe12=>
  match e12 with
  | .inl w=>some w
  | .inr w=>κ9 w)
def N2(a0:store_Store)(a1:Int)(a2:Int):Option (store_Store × Int × Int):=
 (b6n a1).bind λv1=>
 if (v1.2 != 0) then
  some (a0,0,v1.2)
 else
 (G0 a2).bind λv2=>
 if (!v2) then
  some (a0,0,13)
 else
 (G1 a0.S (⟨s6 (a0.Serial+1),0,0,a2,false,v1.1⟩:store_Obj)).bind λv3=>
 if (v3.2.2 != 0) then
  some (a0,0,v3.2.2)
 else
 some ((⟨v3.1,s6 (a0.Serial+1)⟩:store_Store),v3.2.1,0)
def a0O(a0:Int):Option (Int × Int × Bool):=
 if (decide (a0<1)) then
  some ((-1),(-1),false)
 else
 (rem (s6 (a0-1)) 32).bind λv1=>
 (quo .i64 v1 1).bind λv2=>
 (quo .i64 (s6 (a0-1)) 32).bind λv3=>
 if ((decide (v2≥24))||(decide (v3 > 9))) then
  some ((-1),(-1),false)
 else
 some (v2,v3,true)
def a1Y(a0:Int):Option Int:=
 (a0O a0).bind λv1=>
 some v1.1
def a2W(a0:Int):Option Int:=
 (a0O a0).bind λv1=>
 some v1.2.1
def o8(a0:slab_Slab_store_Obj)(a1:Int):Option (Int × Int):=
 if (a1==0) then
  some ((-1),2)
 else
 (a1Y a1).bind λv1=>
 if ((decide (v1<0))||(decide (v1≥(a0.Cells.length:Int)))) then
  some ((-1),3)
 else
 (ix a0.Cells v1).bind λv2=>
 (a2W a1).bind λv3=>
 if ((v2.Gen != v3)||((v2.State != 1)&&(v2.State != 2))) then
  some ((-1),3)
 else
 some (v1,0)
def B9(a0:slab_Slab_store_Obj)(a1:Int):Option (store_Obj × Int):=
 (o8 a0 a1).bind λv1=>
 if (v1.2 != 0) then
  some ((⟨0,0,0,0,false,[]⟩:store_Obj),v1.2)
 else
 (ix a0.Cells v1.1).bind λv2=>
 if (v2.State==2) then
  some ((⟨0,0,0,0,false,[]⟩:store_Obj),3)
 else
 some (v2.Val,0)
def r7(a0:store_Store)(a1:Int):Option (store_Obj × Int):=
 (B9 a0.S a1).bind λv1=>
 some (v1.1,v1.2)
def V6(a0:hold_Heap)(a1:Int):Option Bool:=
 (r7 a0.S a1).bind λv1=>
 some (v1.2==0)
def E6(a0:hold_Heap)(a1:Int):Option Bool:=
 (l6 ((a1==0)==false) false (V6 a0 a1)).bind λv1=>
 some ((a1==0)||v1)
def D7(a0:Int):Option Bool:=
 some (decide (a0≥12))
def a2T(a0:Int):Option (Int × Int):=
 (D7 a0).bind λv1=>
 if v1 then
  some (12,0)
 else
 some (s6 ((if 0 > a0 then 0 else a0)+1),0)
def a7g(a0:Int):Option Int:=
 (a2T a0).bind λv1=>
 some v1.1
def H5(a0:slab_Slab_store_Obj)(a1:Int)(a2:store_Obj):Option (slab_Slab_store_Obj × Int):=
 (o8 a0 a1).bind λv1=>
 if (v1.2 != 0) then
  some (a0,v1.2)
 else
 (ix a0.Cells v1.1).bind λv2=>
 (B0 a0 v1.1 (⟨v2.State,v2.Gen,a2⟩:slab_Cell_store_Obj)).bind λv3=>
 some (v3,0)
def H6(a0:store_Store)(a1:Int)(a2:store_Obj):Option (store_Store × Int):=
 (H5 a0.S a1 a2).bind λv1=>
 some ((⟨v1.1,a0.Serial⟩:store_Store),v1.2)
def O5(a0:hold_Heap)(a1:Int):Option hold_Heap:=
 (r7 a0.S a1).bind λv1=>
 if (v1.2==0) then
  (a7g v1.1.Strong).bind λv2=>
  (H6 a0.S a1 (⟨v1.1.Serial,v2,v1.1.Weak,v1.1.Prog,v1.1.Started,v1.1.Fields⟩:store_Obj)).bind λv3=>
  some (⟨v3.1,a0.Roots,a0.Cells,a0.T,a0.Q⟩:hold_Heap)
 else
 some a0
def V4(a0:hold_Heap)(a1:Int):Option hold_Heap:=
 (O5 a0 a1).bind λv1=>
 some v1
def E5(a0:List Int):Option (List Int):=
 app 8 [] a0
def Q6(a0:F1)(a1:hold_Heap):Option hold_Heap:=
 (E5 a1.Roots).bind λv1=>
 (ix v1 a0.r).bind λv2=>
 some (⟨a1.S,(v1.set (a0.r).toNat a0.h),a1.Cells,a1.T,a1.Q⟩:hold_Heap)
def a1n(a0:Int):Option (Int × Int):=
 (D7 a0).bind λv1=>
 if v1 then
  some (12,0)
 else
 if (decide (a0<1)) then
  some (0,11)
 else
 some (s6 (a0-1),0)
def b0z(a0:Int):Option (Int × Int):=
 (a1n a0).bind λv1=>
 some (v1.1,v1.2)
def a0P(a0:Int):Option Int:=
 (b0z a0).bind λv1=>
 if (v1.2 != 0) then
  some a0
 else
 some v1.1
def J7(a0:hold_Heap)(a1:Int):Option hold_Heap:=
 (r7 a0.S a1).bind λv1=>
 if (v1.2==0) then
  (a0P v1.1.Strong).bind λv2=>
  (H6 a0.S a1 (⟨v1.1.Serial,v2,v1.1.Weak,v1.1.Prog,v1.1.Started,v1.1.Fields⟩:store_Obj)).bind λv3=>
  some (⟨v3.1,a0.Roots,a0.Cells,a0.T,a0.Q⟩:hold_Heap)
 else
 some a0
def D1(a0:hold_Heap)(a1:Int):Option hold_Heap:=
 (J7 a0 a1).bind λv1=>
 some v1
def G6(a0:hold_Heap)(a1:Int)(a2:Int)(a3:F1):Option hold_Heap:=
 (V4 a0 a2).bind λv1=>
 (Q6 a3 v1).bind λv2=>
 (D1 v2 a1).bind λv3=>
 some v3
def a7q(a0:hold_Heap)(a1:Int)(a2:Int):Option (hold_Heap × Int):=
 if ((decide (a1<0))||(decide (a1≥(a0.Roots.length:Int)))) then
  some (a0,6)
 else
 (E6 a0 a2).bind λv1=>
 if (!v1) then
  some (a0,3)
 else
 (ix a0.Roots a1).bind λv2=>
 (G6 a0 v2 a2 (⟨a1,a2⟩:F1)).bind λv3=>
 some (v3,0)
def y9(a0:n7)(a1:Int)(a2:Int):Option (hold_Heap × Int):=
 if (a2 != 0) then
  some (a0.x,a2)
 else
 (a7q a0.x a0.o.A a1).bind λv1=>
 some (v1.1,v1.2)
def N5(a0:n7):Option (hold_Heap × Int):=
 (N2 a0.x.S a0.o.B a0.o.C).bind λv1=>
 if (v1.2.2 != 0) then
  some (a0.x,v1.2.2)
 else
 (y9 (⟨⟨v1.1,a0.x.Roots,a0.x.Cells,a0.x.T,a0.x.Q⟩,a0.o⟩:n7) v1.2.1 0).bind λv2=>
 some (v2.1,v2.2)
def I0(a0:hold_Heap)(a1:Int):Option Int:=
 if ((decide (a1<0))||(decide (a1≥(a0.Roots.length:Int)))) then
  some 0
 else
 (ix a0.Roots a1).bind λv1=>
 some v1
def F3(a0:n7):Option (hold_Heap × Int):=
 (I0 a0.x a0.o.B).bind λv1=>
 (y9 a0 v1 0).bind λv2=>
 some (v2.1,v2.2)
def U7(a0:n7):Option (hold_Heap × Int):=
 (y9 a0 0 0).bind λv1=>
 some (v1.1,v1.2)
def I5(a0:hold_Heap)(a1:Int):Option (Int × Int):=
 (I0 a0 a1).bind λv1=>
 if (v1==0) then
  some (0,2)
 else
 some (v1,0)
def a5S(a0:List Int)(a1:Int):Option Bool:=
 some ((decide (a1≥0))&&(decide (a1<(a0.length:Int))))
def b09(a0:List Int)(a1:Int):Option (Int × Int):=
 (a5S a0 a1).bind λv1=>
 if (!v1) then
  some (0,5)
 else
 (ix a0 a1).bind λv2=>
 some (v2,0)
def W7(a0:store_Store)(a1:Int)(a2:Int):Option (Int × Int):=
 (r7 a0 a1).bind λv1=>
 if (v1.2 != 0) then
  some (0,v1.2)
 else
 (b09 v1.1.Fields a2).bind λv2=>
 some (v2.1,v2.2)
def U8(a0:n7):Option (hold_Heap × Int):=
 (I5 a0.x a0.o.B).bind λv1=>
 if (v1.2 != 0) then
  some (a0.x,v1.2)
 else
 (W7 a0.x.S v1.1 a0.o.C).bind λv2=>
 (y9 a0 v2.1 v2.2).bind λv3=>
 some (v3.1,v3.2)
def b3J(a0:List Int)(a1:Int)(a2:Int):Option ((List Int) × Int):=
 (a5S a0 a1).bind λv1=>
 if (!v1) then
  some (a0,5)
 else
 (mk 8 (a0.length:Int) (0:Int)).bind λv2=>
 (cpy v2 a0).bind λv3=>
 (ix v3 a1).bind λv4=>
 some ((v3.set (a1).toNat a2),0)
def a7P(a0:store_Store)(a1:Int)(a2:Int)(a3:Int):Option (store_Store × Int):=
 (r7 a0 a1).bind λv1=>
 if (v1.2 != 0) then
  some (a0,v1.2)
 else
 (b3J v1.1.Fields a2 a3).bind λv2=>
 if (v2.2 != 0) then
  some (a0,v2.2)
 else
 (H6 a0 a1 (⟨v1.1.Serial,v1.1.Strong,v1.1.Weak,v1.1.Prog,v1.1.Started,v2.1⟩:store_Obj)).bind λv3=>
 some (v3.1,v3.2)
def Z2(a0:D8)(a1:hold_Heap):Option hold_Heap:=
 (a7P a1.S a0.h a0.k a0.v).bind λv1=>
 some (⟨v1.1,a1.Roots,a1.Cells,a1.T,a1.Q⟩:hold_Heap)
def F2(a0:hold_Heap)(a1:Int)(a2:Int)(a3:D8):Option hold_Heap:=
 (V4 a0 a2).bind λv1=>
 (Z2 a3 v1).bind λv2=>
 (D1 v2 a1).bind λv3=>
 some v3
def a1p(a0:hold_Heap)(a1:Int)(a2:Int)(a3:Int):Option (hold_Heap × Int):=
 (W7 a0.S a1 a2).bind λv1=>
 if (v1.2 != 0) then
  some (a0,v1.2)
 else
 (E6 a0 a3).bind λv2=>
 if (!v2) then
  some (a0,3)
 else
 (F2 a0 v1.1 a3 (⟨a1,a2,a3⟩:D8)).bind λv3=>
 some (v3,0)
def Q8(a0:n7):Option (hold_Heap × Int):=
 (I5 a0.x a0.o.A).bind λv1=>
 if (v1.2 != 0) then
  some (a0.x,v1.2)
 else
 (I0 a0.x a0.o.C).bind λv2=>
 (a1p a0.x v1.1 a0.o.B v2).bind λv3=>
 some (v3.1,v3.2)
def a7Q(a0:queue_Queue_task_Task)(a1:Int):Option (queue_Queue_task_Task × Int):=
 some (a0,a1)
def a3o(a0:queue_Queue_task_Task)(a1:Int):Option Bool:=
 jn (λ(_:Unit)=>
  some false) (λκ6=>
  (a7Q a0 2).bind λv8=>
  (lp (S:=Int) (E:=Bool ⊕ Unit) (λ(s10:Int)=>
   if (decide (s10<(v8.1.L.length:Int))) then
    (ix v8.1.L s10).bind λv12=>
    if ((v12.Kind==v8.2)==true) then
     if (v12.At==a1) then
      some (.inr (.inl true))
     else
     some (.inl (s6 (s10+1)))
    else
    some (.inl (s6 (s10+1)))
   else
   some (.inr (.inr ()))) 0).bind λe9=>
  match e9 with
  | .inl w=>some w
  | .inr w=>κ6 w)
def a4Y(a0:List weak_Cell)(a1:Int):Option Bool:=
 some ((decide (a1≥0))&&(decide (a1<(a0.length:Int))))
def X0(a0:List weak_Cell):Option (List weak_Cell):=
 (mk 24 (a0.length:Int) (⟨0,false,0⟩:weak_Cell)).bind λv1=>
 (cpy v1 a0).bind λv2=>
 some v2
def b0q(a0:List weak_Cell)(a1:Int)(a2:Int)(a3:Int):Option ((List weak_Cell) × Int × Int):=
 (a4Y a0 a1).bind λv1=>
 if (!v1) then
  some (a0,0,7)
 else
 (X0 a0).bind λv2=>
 (ix v2 a1).bind λv3=>
 (ix a0 a1).bind λv4=>
 some ((v2.set (a1).toNat (⟨a2,(a2 != 0),a3⟩:weak_Cell)),v4.Target,0)
def a0z(a0:hold_Heap)(a1:Int)(a2:Int):Option hold_Heap:=
 (o8 a0.S.S a1).bind λv1=>
 if (v1.2==0) then
  (ix a0.S.S.Cells v1.1).bind λv2=>
  (H6 a0.S a1 (⟨v2.Val.Serial,v2.Val.Strong,s6 (v2.Val.Weak+a2),v2.Val.Prog,v2.Val.Started,v2.Val.Fields⟩:store_Obj)).bind λv3=>
  some (⟨v3.1,a0.Roots,a0.Cells,a0.T,a0.Q⟩:hold_Heap)
 else
 some a0
def K2(a0:slab_Slab_store_Obj)(a1:Int):Option (slab_Slab_store_Obj × Int):=
 (o8 a0 a1).bind λv1=>
 if (v1.2 != 0) then
  some (a0,v1.2)
 else
 (ix a0.Cells v1.1).bind λv2=>
 if (v2.Gen==a0.Last) then
  (B0 a0 v1.1 (⟨3,v2.Gen,⟨0,0,0,0,false,[]⟩⟩:slab_Cell_store_Obj)).bind λv3=>
  some (v3,0)
 else
 (B0 a0 v1.1 (⟨0,s6 (v2.Gen+1),⟨0,0,0,0,false,[]⟩⟩:slab_Cell_store_Obj)).bind λv4=>
 some (v4,0)
def a1P(a0:hold_Heap)(a1:Int):Option hold_Heap:=
 (a0z a0 a1 (-1)).bind λv1=>
 (o8 v1.S.S a1).bind λv2=>
 if (v2.2 != 0) then
  some v1
 else
 (ix v1.S.S.Cells v2.1).bind λv3=>
 if ((v3.State==2)&&(v3.Val.Weak==0)) then
  (K2 v1.S.S a1).bind λv4=>
  some (⟨⟨v4.1,v1.S.Serial⟩,v1.Roots,v1.Cells,v1.T,v1.Q⟩:hold_Heap)
 else
 some v1
def X8(a0:hold_Heap)(a1:Int)(a2:Int)(a3:Int):Option (hold_Heap × Int):=
 (l6 (((decide (a1<0))||(decide (a1≥(a0.Cells.length:Int))))==false) false (a3o a0.Q a1)).bind λv1=>
 if (((decide (a1<0))||(decide (a1≥(a0.Cells.length:Int))))||v1) then
  some (a0,7)
 else
 (E6 a0 a2).bind λv2=>
 if (!v2) then
  some (a0,3)
 else
 (b0q a0.Cells a1 a2 a3).bind λv3=>
 (a0z (⟨a0.S,a0.Roots,v3.1,a0.T,a0.Q⟩:hold_Heap) a2 1).bind λv4=>
 (a1P v4 v3.2.1).bind λv5=>
 some (v5,0)
def N6(a0:n7):Option (hold_Heap × Int):=
 if (a0.o.B==(-1)) then
  (X8 a0.x a0.o.A 0 a0.o.C).bind λv1=>
  some (v1.1,v1.2)
 else
 (I5 a0.x a0.o.B).bind λv2=>
 if (v2.2 != 0) then
  some (a0.x,v2.2)
 else
 (X8 a0.x a0.o.A v2.1 a0.o.C).bind λv3=>
 some (v3.1,v3.2)
def a4X(a0:List weak_Cell)(a1:Int):Option (Int × Int):=
 (a4Y a0 a1).bind λv1=>
 if (!v1) then
  some (0,7)
 else
 (ix a0 a1).bind λv2=>
 if ((v2.Target==0)||(!v2.Intact)) then
  some (0,9)
 else
 some (v2.Target,0)
def R9(a0:n7):Option (hold_Heap × Int):=
 (a4X a0.x.Cells a0.o.B).bind λv1=>
 (y9 a0 v1.1 v1.2).bind λv2=>
 some (v2.1,v2.2)
def a2I(a0:Int)(a1:Int):Option (Int × Int):=
 some (a0,a1)
def X7(a0:Int)(a1:Int):Option Int:=
 if (decide (a0<1)) then
  some 0
 else
 (rem (s6 ((s6 (5*a1))+1)) a0).bind λv1=>
 if (decide (v1<0)) then
  some (s6 (v1+a0))
 else
 some v1
def J2(a0:List hash_Place)(a1:Int):Option Int:=
 jn (λ(_:Unit)=>
  some (-1)) (λκ8=>
  (a2I (a0.length:Int) a1).bind λv10=>
  (lp (S:=Int) (E:=Int ⊕ Unit) (λ(s12:Int)=>
   if (decide (s12<v10.1)) then
    (X7 v10.1 v10.2).bind λv14=>
    (rem (s6 (v14+s12)) v10.1).bind λv15=>
    (ix a0 v15).bind λv16=>
    if (v16.State==0) then
     some (.inr (.inr ()))
    else
    if ((v16.State==1)&&(v16.Key==a1)) then
     some (.inr (.inl v15))
    else
    some (.inl (s6 (s12+1)))
   else
   some (.inr (.inr ()))) 0).bind λe11=>
  match e11 with
  | .inl w=>some w
  | .inr w=>κ8 w)
def I4(a0:List hash_Place)(a1:Int):Option (Int × Int):=
 (J2 a0 a1).bind λv1=>
 if (decide (v1<0)) then
  some (0,9)
 else
 (ix a0 v1).bind λv2=>
 some (v2.Val,0)
def C0(a0:List hash_Place):Option (List hash_Place):=
 app 24 [] a0
def a0y(a0:List hash_Place)(a1:Int)(a2:hash_Place):Option (List hash_Place):=
 (C0 a0).bind λv1=>
 (ix v1 a1).bind λv2=>
 some (v1.set (a1).toNat a2)
def T3(a0:List hash_Place)(a1:Int):Option ((List hash_Place) × Int × Int):=
 (J2 a0 a1).bind λv1=>
 if (decide (v1<0)) then
  some (a0,0,9)
 else
 (a0y a0 v1 (⟨2,0,0⟩:hash_Place)).bind λv2=>
 (ix a0 v1).bind λv3=>
 some (v2,v3.Val,0)
def a6z(a0:List hash_Place)(a1:Int)(a2:Int):Option ((List hash_Place) × Int):=
 (J2 a0 a1).bind λv1=>
 if (decide (v1≥0)) then
  (a0y a0 v1 (⟨1,a1,a2⟩:hash_Place)).bind λv2=>
  some (v2,0)
 else
 jn (λ(_:Unit)=>
  some (a0,8)) (λκ11=>
  (a2I (a0.length:Int) a1).bind λv13=>
  (lp (S:=Int) (E:=((List hash_Place) × Int) ⊕ Unit) (λ(s15:Int)=>
   if (decide (s15<v13.1)) then
    (X7 v13.1 v13.2).bind λv17=>
    (rem (s6 (v17+s15)) v13.1).bind λv18=>
    (ix a0 v18).bind λv19=>
    if (v19.State != 1) then
     (a0y a0 v18 (⟨1,a1,a2⟩:hash_Place)).bind λv20=>
     some (.inr (.inl (v20,0)))
    else
    some (.inl (s6 (s15+1)))
   else
   some (.inr (.inr ()))) 0).bind λe14=>
  match e14 with
  | .inl w=>some w
  | .inr w=>κ11 w)
def T1(a0:List hash_Place)(a1:Int)(a2:Int):Option ((List hash_Place) × Int × Int):=
 if (a1==0) then
  some (a0,0,2)
 else
 (I4 a0 a1).bind λv1=>
 if (a2==0) then
  (T3 a0 a1).bind λv2=>
  some (v2.1,v1.1,0)
 else
 (a6z a0 a1 a2).bind λv3=>
 if (v3.2 != 0) then
  some (a0,0,v3.2)
 else
 some (v3.1,v1.1,0)
def Q5(a0:F0)(a1:hold_Heap):Option hold_Heap:=
 some (⟨a1.S,a1.Roots,a1.Cells,a0.t,a1.Q⟩:hold_Heap)
def G5(a0:hold_Heap)(a1:Int)(a2:Int)(a3:F0):Option hold_Heap:=
 (V4 a0 a2).bind λv1=>
 (Q5 a3 v1).bind λv2=>
 (D1 v2 a1).bind λv3=>
 some v3
def a2J(a0:hold_Heap)(a1:Int)(a2:Int):Option (hold_Heap × Int):=
 if (a1==0) then
  some (a0,2)
 else
 (E6 a0 a1).bind λv1=>
 (l6 ((!v1)==false) false (E6 a0 a2)).bind λv2=>
 if ((!v1)||(!v2)) then
  some (a0,3)
 else
 (T1 a0.T a1 a2).bind λv3=>
 if (v3.2.2 != 0) then
  some (a0,v3.2.2)
 else
 (G5 a0 v3.2.1 a2 (⟨v3.1⟩:F0)).bind λv4=>
 some (v4,0)
def U9(a0:n7):Option (hold_Heap × Int):=
 (I5 a0.x a0.o.A).bind λv1=>
 if (v1.2 != 0) then
  some (a0.x,v1.2)
 else
 (I0 a0.x a0.o.B).bind λv2=>
 (a2J a0.x v1.1 v2).bind λv3=>
 some (v3.1,v3.2)
def b0B(a0:List hash_Place)(a1:Int):Option (Int × Int):=
 (I4 a0 a1).bind λv1=>
 some (v1.1,v1.2)
def Y0(a0:n7):Option (hold_Heap × Int):=
 (I5 a0.x a0.o.B).bind λv1=>
 if (v1.2 != 0) then
  some (a0.x,v1.2)
 else
 (b0B a0.x.T v1.1).bind λv2=>
 (y9 a0 v2.1 v2.2).bind λv3=>
 some (v3.1,v3.2)
def L7(a0:n7):Option (hold_Heap × Int):=
 some (a0.x,0)
def b1V(f:Fv)(a0:n7):Option (hold_Heap × Int):=
 if f=some 96 then N5 a0 else
 if f=some 97 then F3 a0 else
 if f=some 98 then U7 a0 else
 if f=some 99 then U8 a0 else
 if f=some 100 then Q8 a0 else
 if f=some 101 then N6 a0 else
 if f=some 102 then R9 a0 else
 if f=some 103 then U9 a0 else
 if f=some 104 then Y0 a0 else
 if f=some 105 then L7 a0 else
 none
def Z7(a0:Int):Option Bool:=
 some (a0 != a0)
def a2h(a0:Int)(a1:Int):Option Int:=
 (Z7 a0).bind λv1=>
 (Z7 a1).bind λv2=>
 if v1 then
  if v2 then
   some 0
  else
  some (-1)
 else
 if v2 then
  some 1
 else
 if (decide (a0<a1)) then
  some (-1)
 else
 if (decide (a0 > a1)) then
  some 1
 else
 some 0
def a2F(a0:Int)(a1:Int)(a2:List (Int × Int)):Option Int:=
 (a2h ((y7 a2 a0).getD (0:Int)) ((y7 a2 a1).getD (0:Int))).bind λv1=>
 some v1
def D6(a0:store_Store):Option (List Int):=
 jn (λ((j18,j19):(List (Int × Int)) × (List Int))=>
  (b06 (λp q=>a2F p q j18) j19).bind λv21=>
  some v21) (λκ17=>
  (lp (S:=Int × (List (Int × Int)) × (List Int)) (E:=((List (Int × Int)) × (List Int))) (λ((s23,s24,s25):Int × (List (Int × Int)) × (List Int))=>
   if (decide (s23<(a0.S.Cells.length:Int))) then
    jn (λ((j32,j33):(List (Int × Int)) × (List Int))=>
     some (.inl (s6 (s23+1),j32,j33))) (λκ31=>
     (ix a0.S.Cells s23).bind λv35=>
     if (v35.State==1) then
      (V3 s23 v35.Gen).bind λv36=>
      (app 8 s25 [v36]).bind λv37=>
      κ31 ((m7 s24 v36 v35.Val.Serial),v37)
     else
     κ31 (s24,s25))
   else
   some (.inr (s24,s25))) (0,[],[])).bind λe22=>
  κ17 e22)
def a0E(a0:hold_Heap):Option (List Int):=
 jn (λ(j16:List Int)=>
  some j16) (λκ15=>
  (D6 a0.S).bind λv17=>
  (lp (S:=Int × (List Int)) (E:=(List Int)) (λ((s19,s20):Int × (List Int))=>
   if (decide (s19<(v17.length:Int))) then
    jn (λ(j27:List Int)=>
     some (.inl (s6 (s19+1),j27))) (λκ26=>
     (ix v17 s19).bind λv28=>
     (r7 a0.S v28).bind λv29=>
     if (v29.1.Strong==0) then
      (app 8 s20 [v28]).bind λv30=>
      κ26 v30
     else
     κ26 s20)
   else
   some (.inr s20)) (0,[])).bind λe18=>
  κ15 e18)
def I6(a0:store_Obj):Option Bool:=
 some ((decide (a0.Prog≥0))&&(!a0.Started))
def N7(a0:queue_Queue_task_Task):Option Int:=
 some (a0.L.length:Int)
def M3(a0:List task_Task)(a1:Int)(a2:Int):Option (List task_Task):=
 (cut a0 a1 a2).bind λv1=>
 some v1
def M2(a0:queue_Queue_task_Task)(a1:task_Task):Option (queue_Queue_task_Task × Int):=
 (N7 a0).bind λv1=>
 if (decide (v1≥a0.Cap)) then
  some (a0,4)
 else
 (M3 a0.L 0 v1).bind λv2=>
 (app 24 v2 [a1]).bind λv3=>
 some ((⟨v3,a0.Cap⟩:queue_Queue_task_Task),0)
def a7b(a0:queue_Queue_task_Task)(a1:task_Task):Option (queue_Queue_task_Task × Int):=
 (M2 a0 a1).bind λv1=>
 some (v1.1,v1.2)
def T7(a0:hold_Heap)(a1:Int):Option hold_Heap:=
 (r7 a0.S a1).bind λv1=>
 (l6 ((v1.2 != 0)==false) false (I6 v1.1)).bind λv2=>
 if ((v1.2 != 0)||(!v2)) then
  some a0
 else
 (H6 a0.S a1 (⟨v1.1.Serial,v1.1.Strong,v1.1.Weak,v1.1.Prog,true,v1.1.Fields⟩:store_Obj)).bind λv3=>
 (a7b a0.Q (⟨1,a1,v1.1.Prog⟩:task_Task)).bind λv4=>
 (V4 (⟨v3.1,a0.Roots,a0.Cells,a0.T,v4.1⟩:hold_Heap) a1).bind λv5=>
 some v5
def P0(a0:hold_Heap)(a1:List Int):Option (List Int):=
 jn (λ(j18:List Int)=>
  some j18) (λκ17=>
  (lp (S:=Int × (List (Int × Bool)) × (List Int)) (E:=(List Int)) (λ((s20,s21,s22):Int × (List (Int × Bool)) × (List Int))=>
   if (decide (s20<(a1.length:Int))) then
    jn (λ((j29,j30):(List Int) × (List (Int × Bool)))=>
     some (.inl (s6 (s20+1),j30,j29))) (λκ28=>
     (ix a1 s20).bind λv32=>
     (r7 a0.S v32).bind λv33=>
     if ((v33.2==0)==true) then
      if (!((y7 s21 v32).getD (false:Bool))) then
       (app 8 s22 [v32]).bind λv34=>
       κ28 (v34,(m7 s21 v32 true))
      else
      κ28 (s22,s21)
     else
     κ28 (s22,s21))
   else
   some (.inr s22)) (0,[],[])).bind λe19=>
  κ17 e19)
def M5(a0:List Int)(a1:Int):Option Int:=
 jn (λ(_:Unit)=>
  some (-1)) (λκ5=>
  (lp (S:=Int) (E:=Int ⊕ Unit) (λ(s8:Int)=>
   if (decide (s8<(a0.length:Int))) then
    (ix a0 s8).bind λv10=>
    if (a1==v10) then
     some (.inr (.inl s8))
    else
    some (.inl (s6 (s8+1)))
   else
   some (.inr (.inr ()))) 0).bind λe7=>
  match e7 with
  | .inl w=>some w
  | .inr w=>κ5 w)
def J5(a0:List Int)(a1:Int):Option Bool:=
 (M5 a0 a1).bind λv1=>
 some (decide (v1≥0))
def Y7(a0:weak_Cell)(a1:List Int):Option Bool:=
 (l6 ((a0.Intact&&(a0.Target != 0))==true) false (J5 a1 a0.Target)).bind λv1=>
 some ((a0.Intact&&(a0.Target != 0))&&v1)
def G8(a0:List weak_Cell)(a1:List Int):Option (List Int):=
 jn (λ(j15:List Int)=>
  some j15) (λκ14=>
  (lp (S:=Int × (List Int)) (E:=(List Int)) (λ((s17,s18):Int × (List Int))=>
   if (decide (s17<(a0.length:Int))) then
    jn (λ(j25:List Int)=>
     some (.inl (s6 (s17+1),j25))) (λκ24=>
     (ix a0 s17).bind λv26=>
     (Y7 v26 a1).bind λv27=>
     if v27 then
      (app 8 s18 [s17]).bind λv28=>
      κ24 v28
     else
     κ24 s18)
   else
   some (.inr s18)) (0,[])).bind λe16=>
  κ14 e16)
def a3r(a0:List weak_Cell)(a1:List Int):Option ((List weak_Cell) × (List Int)):=
 (G8 a0 a1).bind λv1=>
 (X0 a0).bind λv2=>
 jn (λ((j22,j23):(List Int) × (List weak_Cell))=>
  some (j23,j22)) (λκ21=>
  (lp (S:=Int × (List weak_Cell) × (List Int)) (E:=((List Int) × (List weak_Cell))) (λ((s26,s27,s28):Int × (List weak_Cell) × (List Int))=>
   if (decide (s26<(v1.length:Int))) then
    jn (λ((j36,j37):(List Int) × (List weak_Cell))=>
     some (.inl (s6 (s26+1),j37,j36))) (λκ35=>
     (ix v1 s26).bind λv39=>
     (ix s27 v39).bind λv40=>
     (ix (s27.set (v39).toNat (⟨v40.Target,false,v40.Call⟩:weak_Cell)) v39).bind λv41=>
     if (decide (v41.Call≥0)) then
      (app 8 s28 [v39]).bind λv42=>
      κ35 (v42,(s27.set (v39).toNat (⟨v40.Target,false,v40.Call⟩:weak_Cell)))
     else
     κ35 (s28,(s27.set (v39).toNat (⟨v40.Target,false,v40.Call⟩:weak_Cell))))
   else
   some (.inr (s28,s27))) (0,v2,[])).bind λe25=>
  κ21 e25)
def a06(a0:hold_Heap)(a1:List Int):Option hold_Heap:=
 (a3r a0.Cells a1).bind λv1=>
 jn (λ(j11:queue_Queue_task_Task)=>
  some (⟨a0.S,a0.Roots,v1.1,a0.T,j11⟩:hold_Heap)) (λκ10=>
  (lp (S:=Int × queue_Queue_task_Task) (E:=queue_Queue_task_Task) (λ((s13,s14):Int × queue_Queue_task_Task)=>
   if (decide (s13<(v1.2.length:Int))) then
    (ix v1.2 s13).bind λv17=>
    (ix v1.1 v17).bind λv18=>
    (a7b s14 (⟨2,v17,v18.Call⟩:task_Task)).bind λv19=>
    some (.inl (s6 (s13+1),v19.1))
   else
   some (.inr s14)) (0,a0.Q)).bind λe12=>
  κ10 e12)
def a2P(a0:List Int):Option (List Int):=
 some a0
def a2O(a0:List Int):Option (List Int):=
 jn (λ(j10:List Int)=>
  some j10) (λκ9=>
  (a2P a0).bind λv11=>
  (lp (S:=Int × (List Int)) (E:=(List Int)) (λ((s13,s14):Int × (List Int))=>
   if (decide (s13<(v11.length:Int))) then
    (ix v11 s13).bind λv17=>
    if ((v17 != 0)==true) then
     (app 8 s14 [v17]).bind λv18=>
     some (.inl (s6 (s13+1),v18))
    else
    some (.inl (s6 (s13+1),s14))
   else
   some (.inr s14)) (0,[])).bind λe12=>
  κ9 e12)
def T2(a0:List hash_Place)(a1:List Int):Option ((List hash_Place) × (List Int)):=
 jn (λ((j18,j19):(List hash_Place) × (List Int))=>
  some (j18,j19)) (λκ17=>
  (lp (S:=(List hash_Place) × Int × (List Int)) (E:=((List hash_Place) × (List Int))) (λ((s22,s23,s24):(List hash_Place) × Int × (List Int))=>
   if (decide (s23<(a1.length:Int))) then
    jn (λ((j31,j32):(List hash_Place) × (List Int))=>
     some (.inl (j31,s6 (s23+1),j32))) (λκ30=>
     (ix a1 s23).bind λv34=>
     (T3 s22 v34).bind λv35=>
     if (v35.2.2==0) then
      (app 8 s24 [v35.2.1]).bind λv36=>
      κ30 (v35.1,v36)
     else
     κ30 (s22,s24))
   else
   some (.inr (s22,s24))) (a0,0,[])).bind λe21=>
  κ17 e21)
def N8(a0:slab_Slab_store_Obj)(a1:Int):Option (slab_Slab_store_Obj × Int):=
 (B9 a0 a1).bind λv1=>
 if (v1.2 != 0) then
  some (a0,v1.2)
 else
 (a1Y a1).bind λv2=>
 (a2W a1).bind λv3=>
 (B0 a0 v2 (⟨2,v3,v1.1⟩:slab_Cell_store_Obj)).bind λv4=>
 some (v4,0)
def T8(a0:hold_Heap)(a1:Int):Option hold_Heap:=
 (r7 a0.S a1).bind λv1=>
 (H6 a0.S a1 (⟨v1.1.Serial,0,v1.1.Weak,v1.1.Prog,v1.1.Started,[]⟩:store_Obj)).bind λv2=>
 (N8 v2.1.S a1).bind λv3=>
 if (v1.1.Weak==0) then
  (K2 v3.1 a1).bind λv4=>
  some (⟨⟨v4.1,v2.1.Serial⟩,a0.Roots,a0.Cells,a0.T,a0.Q⟩:hold_Heap)
 else
 some (⟨⟨v3.1,v2.1.Serial⟩,a0.Roots,a0.Cells,a0.T,a0.Q⟩:hold_Heap)
def a0D(a0:hold_Heap)(a1:List Int):Option hold_Heap:=
 (P0 a0 a1).bind λv1=>
 (a06 a0 v1).bind λv2=>
 jn (λ(j13:List Int)=>
  (T2 v2.T v1).bind λv14=>
  (app 8 j13 v14.2).bind λv15=>
  jn (λ(j24:hold_Heap)=>
   jn (λ(j33:hold_Heap)=>
    some j33) (λκ32=>
    (lp (S:=Int × hold_Heap) (E:=hold_Heap) (λ((s35,s36):Int × hold_Heap)=>
     if (decide (s35<(v15.length:Int))) then
      (ix v15 s35).bind λv39=>
      (D1 s36 v39).bind λv40=>
      some (.inl (s6 (s35+1),v40))
     else
     some (.inr s36)) (0,j24)).bind λe34=>
    κ32 e34)) (λκ23=>
   (lp (S:=Int × hold_Heap) (E:=hold_Heap) (λ((s42,s43):Int × hold_Heap)=>
    if (decide (s42<(v1.length:Int))) then
     (ix v1 s42).bind λv46=>
     (T8 s43 v46).bind λv47=>
     some (.inl (s6 (s42+1),v47))
    else
    some (.inr s43)) (0,(⟨v2.S,v2.Roots,v2.Cells,v14.1,v2.Q⟩:hold_Heap))).bind λe41=>
   κ23 e41)) (λκ12=>
  (lp (S:=Int × (List Int)) (E:=(List Int)) (λ((s49,s50):Int × (List Int))=>
   if (decide (s49<(v1.length:Int))) then
    (ix v1 s49).bind λv53=>
    (r7 v2.S v53).bind λv54=>
    (a2O v54.1.Fields).bind λv55=>
    (app 8 s50 v55).bind λv56=>
    some (.inl (s6 (s49+1),v56))
   else
   some (.inr s50)) (0,[])).bind λe48=>
  κ12 e48)
def a0f(a0:hold_Heap):Option hold_Heap:=
 (lp (S:=hold_Heap) (E:=hold_Heap) (λ(s2:hold_Heap)=>
  (a0E s2).bind λv4=>
  if ((v4.length:Int)==0) then
   some (.inr s2)
  else
  (ix v4 0).bind λv5=>
  (r7 s2.S v5).bind λv6=>
  (I6 v6.1).bind λv7=>
  if v7 then
   (T7 s2 v5).bind λv8=>
   some (.inl v8)
  else
  (cut v4 0 1).bind λv9=>
  (a0D s2 v9).bind λv10=>
  some (.inl v10)) a0).bind λe1=>
 some e1
def V8(a0:hold_Heap)(a1:Int):Option Int:=
 (r7 a0.S a1).bind λv1=>
 some v1.1.Serial
def Q7(a0:hold_Heap)(a1:Int):Option Int:=
 (I0 a0 a1).bind λv1=>
 (V8 a0 v1).bind λv2=>
 some v2
def O6(a0:hold_Heap)(a1:hold_Heap)(a2:code_Op):Option Int:=
 if (a2.Kind==5) then
  (Q7 a0 a2.C).bind λv1=>
  some v1
 else
 jn (λ(j3:Bool)=>
  if j3 then
   (Q7 a0 a2.B).bind λv4=>
   some v4
  else
  if (a2.Kind==10) then
   (I0 a0 a2.A).bind λv5=>
   (I0 a0 a2.B).bind λv6=>
   if (v5==v6) then
    some 1
   else
   some 0
  else
  (Q7 a1 a2.A).bind λv7=>
  some v7) (λκ2=>
  if (a2.Kind==6) then
   κ2 (a2.Kind==6)
  else
  κ2 (a2.Kind==8))
def m9(a0:hold_Heap)(a1:code_Op):Option (hold_Heap × Int × Int):=
 (a2S a1).bind λv1=>
 if (v1 != 0) then
  some (a0,0,v1)
 else
 (a1R).bind λv2=>
 if (!((y7 v2 a1.Kind).isSome)) then
  some (a0,0,14)
 else
 (b1V ((y7 v2 a1.Kind).getD (none:Fv)) (⟨a0,a1⟩:n7)).bind λv3=>
 if (v3.2 != 0) then
  some (a0,0,v3.2)
 else
 (a0f v3.1).bind λv5=>
 (O6 v3.1 v5 a1).bind λv6=>
 some (v5,v6,0)
def a1Z(a0:hold_Heap)(a1:List code_Op):Option (hold_Heap × (List Int)):=
 jn (λ((j11,j12):hold_Heap × (List Int))=>
  some (j11,j12)) (λκ10=>
  (lp (S:=Int × hold_Heap × (List Int)) (E:=(hold_Heap × (List Int))) (λ((s15,s16,s17):Int × hold_Heap × (List Int))=>
   if (decide (s15<(a1.length:Int))) then
    (ix a1 s15).bind λv20=>
    (m9 s16 v20).bind λv21=>
    (app 8 s17 [v21.2.1]).bind λv22=>
    some (.inl (s6 (s15+1),v21.1,v22))
   else
   some (.inr (s16,s17))) (0,a0,[])).bind λe14=>
  κ10 e14)
def a31:Option (List A6):=
 some [(⟨(some 292)⟩:A6),(⟨(some 293)⟩:A6),(⟨(some 294)⟩:A6),(⟨(some 295)⟩:A6)]
def T0(a0:store_Store)(a1:slab_Cell_store_Obj):Option Bool:=
 some ((decide (a1.State≥0))&&(decide (a1.State≤3)))
def I8(a0:store_Store)(a1:slab_Cell_store_Obj):Option Bool:=
 some ((decide (a1.Gen≥0))&&(decide (a1.Gen≤a0.S.Last)))
def F9(a0:slab_Cell_store_Obj):Option Bool:=
 some ((a0.State==1)||(a0.State==2))
def P1(a0:store_Store)(a1:slab_Cell_store_Obj):Option Bool:=
 (F9 a1).bind λv1=>
 (l6 (((!v1)==false)&&(((((decide (a1.Val.Serial≥1))&&(decide (a1.Val.Serial≤a0.Serial)))&&(decide (a1.Val.Strong≥0)))&&(decide (a1.Val.Weak≥0)))==true)) false (G0 a1.Val.Prog)).bind λv2=>
 some ((!v1)||((((((decide (a1.Val.Serial≥1))&&(decide (a1.Val.Serial≤a0.Serial)))&&(decide (a1.Val.Strong≥0)))&&(decide (a1.Val.Weak≥0)))&&v2)&&(decide ((a1.Val.Fields.length:Int)≤4))))
def K4(a0:store_Store)(a1:slab_Cell_store_Obj):Option Bool:=
 (F9 a1).bind λv1=>
 some (v1||((((a1.Val.Serial==0)&&((a1.Val.Strong==0)&&((a1.Val.Weak==0)&&((a1.Val.Prog==0)&&true))))&&(!a1.Val.Started))&&((a1.Val.Fields.length:Int)==0)))
def b1W(f:Fv)(a0:store_Store)(a1:slab_Cell_store_Obj):Option Bool:=
 if f=some 292 then T0 a0 a1 else
 if f=some 293 then I8 a0 a1 else
 if f=some 294 then P1 a0 a1 else
 if f=some 295 then K4 a0 a1 else
 none
def N9(a0:store_Store):Option Bool:=
 jn (λ(_:Unit)=>
  some true) (λκ12=>
  (lp (S:=Int × (List (Int × Bool))) (E:=Bool ⊕ Unit) (λ((s15,s16):Int × (List (Int × Bool)))=>
   if (decide (s15<(a0.S.Cells.length:Int))) then
    jn (λ(j22:List (Int × Bool))=>
     some (.inl (s6 (s15+1),j22))) (λκ21=>
     (ix a0.S.Cells s15).bind λv23=>
     (F9 v23).bind λv24=>
     if (!v24) then
      κ21 s16
     else
     if ((y7 s16 v23.Val.Serial).getD (false:Bool)) then
      some (.inr (.inl false))
     else
     κ21 (m7 s16 v23.Val.Serial true))
   else
   some (.inr (.inr ()))) (0,[])).bind λe14=>
  match e14 with
  | .inl w=>some w
  | .inr w=>κ12 w)
def a2d(a0:store_Store):Option Bool:=
 if ((((decide ((a0.S.Cells.length:Int) > 24))||(decide (a0.S.Last<0)))||(decide (a0.S.Last > 9)))||(decide (a0.Serial<0))) then
  some false
 else
 jn (λ(_:Unit)=>
  (N9 a0).bind λv24=>
  some v24) (λκ22=>
  (lp (S:=Int) (E:=Bool ⊕ Unit) (λ(s26:Int)=>
   if (decide (s26<(a0.S.Cells.length:Int))) then
    jn (λ(_:Unit)=>
     some (.inl (s6 (s26+1)))) (λκ36=>
     (ix a0.S.Cells s26).bind λv38=>
     (a31).bind λv39=>
     (lp (S:=Int) (E:=Bool ⊕ Unit) (λ(s41:Int)=>
      if (decide (s41<(v39.length:Int))) then
       (ix v39 s41).bind λv43=>
       (b1W v43.kept a0 v38).bind λv44=>
       if (!v44) then
        some (.inr (.inl false))
       else
       some (.inl (s6 (s41+1)))
      else
      some (.inr (.inr ()))) 0).bind λe40=>
     match e40 with
     | .inl w=>some (.inr (.inl w))
     | .inr w=>κ36 w)
   else
   some (.inr (.inr ()))) 0).bind λe25=>
  match e25 with
  | .inl w=>some w
  | .inr w=>κ22 w)
def a5f(a0:List hash_Place):Option Bool:=
 if ((decide ((a0.length:Int)<1))||(decide ((a0.length:Int) > 8))) then
  some false
 else
 jn (λ(_:Unit)=>
  some true) (λκ6=>
  (lp (S:=Int) (E:=Bool ⊕ Unit) (λ(s9:Int)=>
   if (decide (s9<(a0.length:Int))) then
    (ix a0 s9).bind λv11=>
    (l6 (((!(((v11.State==0)&&((v11.Key==0)&&((v11.Val==0)&&true)))||((v11.State==2)&&((v11.Key==0)&&((v11.Val==0)&&true)))))==true)&&((v11.State != 1)==false)) 0 (J2 a0 v11.Key)).bind λv12=>
    if ((!(((v11.State==0)&&((v11.Key==0)&&((v11.Val==0)&&true)))||((v11.State==2)&&((v11.Key==0)&&((v11.Val==0)&&true)))))&&((v11.State != 1)||(v12 != s9))) then
     some (.inr (.inl false))
    else
    some (.inl (s6 (s9+1)))
   else
   some (.inr (.inr ()))) 0).bind λe8=>
  match e8 with
  | .inl w=>some w
  | .inr w=>κ6 w)
def a0T(a0:hold_Heap):Option Bool:=
 (b0h).bind λv1=>
 (a2d a0.S).bind λv2=>
 (l6 (v2==true) false (a5f a0.T)).bind λv3=>
 some (((((v2&&v3)&&((a0.Roots.length:Int)==6))&&((a0.Cells.length:Int)==6))&&(a0.Q.Cap==v1.Cap))&&(decide ((a0.Q.L.length:Int)≤v1.Cap)))
def a1q(a0:Int)(a1:hold_Heap):Option Bool:=
 (E6 a1 a0).bind λv1=>
 some v1
def D2(a0:List Int)(a1:hold_Heap):Option Bool:=
 jn (λ(_:Unit)=>
  some true) (λκ6=>
  (lp (S:=Int) (E:=Bool ⊕ Unit) (λ(s9:Int)=>
   if (decide (s9<(a0.length:Int))) then
    (ix a0 s9).bind λv11=>
    (a1q v11 a1).bind λv12=>
    if (!v12) then
     some (.inr (.inl false))
    else
    some (.inl (s6 (s9+1)))
   else
   some (.inr (.inr ()))) 0).bind λe8=>
  match e8 with
  | .inl w=>some w
  | .inr w=>κ6 w)
def V7(a0:hold_Heap):Option Bool:=
 (E5 a0.Roots).bind λv1=>
 jn (λ(j12:List Int)=>
  (D2 j12 a0).bind λv13=>
  some v13) (λκ11=>
  (D6 a0.S).bind λv14=>
  (lp (S:=Int × (List Int)) (E:=(List Int)) (λ((s16,s17):Int × (List Int))=>
   if (decide (s16<(v14.length:Int))) then
    (ix v14 s16).bind λv20=>
    (r7 a0.S v20).bind λv21=>
    (app 8 s17 v21.1.Fields).bind λv22=>
    some (.inl (s6 (s16+1),v22))
   else
   some (.inr s17)) (0,v1)).bind λe15=>
  κ11 e15)
def a0w(a0:List hash_Place):Option (List hash_Place):=
 some a0
def a4t(a0:List hash_Place):Option (List Int):=
 jn (λ(j13:List Int)=>
  some j13) (λκ12=>
  (lp (S:=Int × (List Int)) (E:=(List Int)) (λ((s15,s16):Int × (List Int))=>
   if (decide (s15<(a0.length:Int))) then
    jn (λ(j22:List Int)=>
     some (.inl (s6 (s15+1),j22))) (λκ21=>
     (ix a0 s15).bind λv23=>
     if (v23.State==1) then
      (app 8 s16 [v23.Key]).bind λv24=>
      κ21 v24
     else
     κ21 s16)
   else
   some (.inr s16)) (0,[])).bind λe14=>
  κ12 e14)
def a1L(a0:j4):Option Bool:=
 some true
def x6(a0:List hash_Place):Option (List j4):=
 jn (λ(j16:List j4)=>
  some j16) (λκ15=>
  (a4t a0).bind λv17=>
  (lp (S:=Int × (List j4)) (E:=(List j4)) (λ((s19,s20):Int × (List j4))=>
   if (decide (s19<(v17.length:Int))) then
    (ix v17 s19).bind λv23=>
    (I4 a0 v23).bind λv24=>
    jn (λ(j28:List j4)=>
     some (.inl (s6 (s19+1),j28))) (λκ27=>
     (a1L (⟨v23,v24.1⟩:j4)).bind λv29=>
     if v29 then
      (app 16 s20 [(⟨v23,v24.1⟩:j4)]).bind λv30=>
      κ27 v30
     else
     κ27 s20)
   else
   some (.inr s20)) (0,[])).bind λe18=>
  κ15 e18)
def a3C(a0:List hash_Place):Option (List j4):=
 (a0w a0).bind λv1=>
 (x6 v1).bind λv2=>
 some v2
def a1r(a0:j4)(a1:hold_Heap):Option Bool:=
 (V6 a1 a0.Key).bind λv1=>
 (l6 (v1==true) false (V6 a1 a0.Val)).bind λv2=>
 some (v1&&v2)
def A7(a0:List j4)(a1:hold_Heap):Option Bool:=
 jn (λ(_:Unit)=>
  some true) (λκ6=>
  (lp (S:=Int) (E:=Bool ⊕ Unit) (λ(s9:Int)=>
   if (decide (s9<(a0.length:Int))) then
    (ix a0 s9).bind λv11=>
    (a1r v11 a1).bind λv12=>
    if (!v12) then
     some (.inr (.inl false))
    else
    some (.inl (s6 (s9+1)))
   else
   some (.inr (.inr ()))) 0).bind λe8=>
  match e8 with
  | .inl w=>some w
  | .inr w=>κ6 w)
def a0S(a0:hold_Heap):Option Bool:=
 (a3C a0.T).bind λv1=>
 (A7 v1 a0).bind λv2=>
 some v2
def a0U(a0:hold_Heap)(a1:task_Task):Option Bool:=
 if (a1.Kind==1) then
  (r7 a0.S a1.At).bind λv1=>
  some ((v1.2==0)&&v1.1.Started)
 else
 if (a1.Kind==2) then
  (l6 (((decide (a1.At≥0))&&(decide (a1.At<(a0.Cells.length:Int))))==true) (⟨0,false,0⟩:weak_Cell) (ix a0.Cells a1.At)).bind λv2=>
  some (((decide (a1.At≥0))&&(decide (a1.At<(a0.Cells.length:Int))))&&(!v2.Intact))
 else
 some false
def a1O(a0:hold_Heap):Option Bool:=
 jn (λ((j18,j19):Bool × (List (task_Task × Bool)))=>
  some j18) (λκ17=>
  jn (λ(j29:List (task_Task × Bool))=>
   κ17 (true,j29)) (λκ28=>
   (lp (S:=Int × (List (task_Task × Bool))) (E:=(Bool × (List (task_Task × Bool))) ⊕ (List (task_Task × Bool))) (λ((s31,s32):Int × (List (task_Task × Bool)))=>
    if (decide (s31<(a0.Q.L.length:Int))) then
     (ix a0.Q.L s31).bind λv35=>
     (l6 ((((!((y7 s32 (⟨v35.Kind,v35.At,0⟩:task_Task)).getD (false:Bool)))&&(decide (v35.Prog≥0)))&&(decide (v35.Prog<6)))==true) false (a0U a0 v35)).bind λv36=>
     if (!((((!((y7 s32 (⟨v35.Kind,v35.At,0⟩:task_Task)).getD (false:Bool)))&&(decide (v35.Prog≥0)))&&(decide (v35.Prog<6)))&&v36)) then
      some (.inr (.inl (false,(m7 s32 (⟨v35.Kind,v35.At,0⟩:task_Task) true))))
     else
     some (.inl (s6 (s31+1),(m7 s32 (⟨v35.Kind,v35.At,0⟩:task_Task) true)))
    else
    some (.inr (.inr s32))) (0,[])).bind λe30=>
   match e30 with
   | .inl w=>κ17 w
   | .inr w=>κ28 w))
def a2i(a0:weak_Cell)(a1:hold_Heap):Option Bool:=
 if ((decide (a0.Call<(-1)))||(decide (a0.Call≥6))) then
  some false
 else
 if a0.Intact then
  (V6 a1 a0.Target).bind λv1=>
  some v1
 else
 (o8 a1.S.S a0.Target).bind λv2=>
 some ((a0.Target==0)||(v2.2==0))
def B7(a0:List weak_Cell)(a1:hold_Heap):Option Bool:=
 jn (λ(_:Unit)=>
  some true) (λκ6=>
  (lp (S:=Int) (E:=Bool ⊕ Unit) (λ(s9:Int)=>
   if (decide (s9<(a0.length:Int))) then
    (ix a0 s9).bind λv11=>
    (a2i v11 a1).bind λv12=>
    if (!v12) then
     some (.inr (.inl false))
    else
    some (.inl (s6 (s9+1)))
   else
   some (.inr (.inr ()))) 0).bind λe8=>
  match e8 with
  | .inl w=>some w
  | .inr w=>κ6 w)
def a1M(a0:hold_Heap):Option Bool:=
 (B7 a0.Cells a0).bind λv1=>
 some v1
def a1V(a0:weak_Cell)(a1:Int):Option Bool:=
 some ((a1 != 0)&&(a0.Target==a1))
def M0(a0:List weak_Cell)(a1:Int):Option (List Int):=
 jn (λ(j15:List Int)=>
  some j15) (λκ14=>
  (lp (S:=Int × (List Int)) (E:=(List Int)) (λ((s17,s18):Int × (List Int))=>
   if (decide (s17<(a0.length:Int))) then
    jn (λ(j25:List Int)=>
     some (.inl (s6 (s17+1),j25))) (λκ24=>
     (ix a0 s17).bind λv26=>
     (a1V v26 a1).bind λv27=>
     if v27 then
      (app 8 s18 [s17]).bind λv28=>
      κ24 v28
     else
     κ24 s18)
   else
   some (.inr s18)) (0,[])).bind λe16=>
  κ14 e16)
def a2f(a0:List weak_Cell)(a1:Int):Option Int:=
 (M0 a0 a1).bind λv1=>
 some (v1.length:Int)
def a1N(a0:hold_Heap):Option Bool:=
 jn (λ(_:Unit)=>
  some true) (λκ12=>
  (lp (S:=Int) (E:=Bool ⊕ Unit) (λ(s15:Int)=>
   if (decide (s15<(a0.S.S.Cells.length:Int))) then
    jn (λ(_:Unit)=>
     some (.inl (s6 (s15+1)))) (λκ20=>
     (ix a0.S.S.Cells s15).bind λv22=>
     if ((v22.State != 1)&&(v22.State != 2)) then
      κ20 ()
     else
     (V3 s15 v22.Gen).bind λv23=>
     (a2f a0.Cells v23).bind λv24=>
     if (v22.Val.Weak != v24) then
      some (.inr (.inl false))
     else
     if ((v22.State==2)&&(((decide (v22.Val.Weak<1))||(decide ((v22.Val.Fields.length:Int) > 0)))||(v22.Val.Strong != 0))) then
      some (.inr (.inl false))
     else
     κ20 ())
   else
   some (.inr (.inr ()))) 0).bind λe14=>
  match e14 with
  | .inl w=>some w
  | .inr w=>κ12 w)
def X6(f:Fv)(a0:hold_Heap):Option Bool:=
 if f=some 88 then V7 a0 else
 if f=some 89 then a0S a0 else
 if f=some 90 then a1O a0 else
 if f=some 91 then a1M a0 else
 if f=some 92 then a1N a0 else
 none
def a4U(a0:queue_Queue_task_Task):Option (List Int):=
 jn (λ(j10:List Int)=>
  some j10) (λκ9=>
  (a7Q a0 1).bind λv11=>
  (lp (S:=Int × (List Int)) (E:=(List Int)) (λ((s13,s14):Int × (List Int))=>
   if (decide (s13<(v11.1.L.length:Int))) then
    (ix v11.1.L s13).bind λv17=>
    if ((v17.Kind==v11.2)==true) then
     (app 8 s14 [v17.At]).bind λv18=>
     some (.inl (s6 (s13+1),v18))
    else
    some (.inl (s6 (s13+1),s14))
   else
   some (.inr s14)) (0,[])).bind λe12=>
  κ9 e12)
def a5i(a0:hold_Heap):Option (List Int):=
 jn (λ(j13:List Int)=>
  (a4U a0.Q).bind λv14=>
  (app 8 j13 v14).bind λv15=>
  some v15) (λκ12=>
  (lp (S:=Int × (List Int)) (E:=(List Int)) (λ((s17,s18):Int × (List Int))=>
   if (decide (s17<(a0.Roots.length:Int))) then
    jn (λ(j24:List Int)=>
     some (.inl (s6 (s17+1),j24))) (λκ23=>
     (ix a0.Roots s17).bind λv25=>
     if (v25 != 0) then
      (app 8 s18 [v25]).bind λv26=>
      κ23 v26
     else
     κ23 s18)
   else
   some (.inr s18)) (0,[])).bind λe16=>
  κ12 e16)
def a6s(a0:Int):Option Bool:=
 (D7 a0).bind λv1=>
 some v1
def a5B(a0:store_Store):Option store_Store:=
 some a0
def a94(a0:store_Store)(a1:Int):Option (List Int):=
 (r7 a0 a1).bind λv1=>
 (a2O v1.1.Fields).bind λv2=>
 some v2
def b2b(a0:store_Store)(a1:Int):Option Int:=
 jn (λ(j31:Int)=>
  some j31) (λκ30=>
  (a5B a0).bind λv32=>
  (D6 v32).bind λv33=>
  (lp (S:=Int × Int) (E:=Int) (λ((s35,s36):Int × Int)=>
   if (decide (s35<(v33.length:Int))) then
    jn (λ(j50:Int)=>
     some (.inl (s6 (s35+1),j50))) (λκ49=>
     (ix v33 s35).bind λv51=>
     (a94 v32 v51).bind λv52=>
     (lp (S:=Int × Int) (E:=Int) (λ((s54,s55):Int × Int)=>
      if (decide (s54<(v52.length:Int))) then
       (ix v52 s54).bind λv58=>
       jn (λ(j60:Int)=>
        some (.inl (s6 (s54+1),j60))) (λκ59=>
        if (v58==a1) then
         κ59 (s6 (s55+1))
        else
        κ59 s55)
      else
      some (.inr s55)) (0,s36)).bind λe53=>
     κ49 e53)
   else
   some (.inr s36)) (0,0)).bind λe34=>
  κ30 e34)
def a1K(a0:j4)(a1:Int):Option Bool:=
 some ((a1 != 0)&&(a0.Val==a1))
def x5(a0:List hash_Place)(a1:Int):Option (List j4):=
 jn (λ(j16:List j4)=>
  some j16) (λκ15=>
  (a4t a0).bind λv17=>
  (lp (S:=Int × (List j4)) (E:=(List j4)) (λ((s19,s20):Int × (List j4))=>
   if (decide (s19<(v17.length:Int))) then
    (ix v17 s19).bind λv23=>
    (I4 a0 v23).bind λv24=>
    jn (λ(j28:List j4)=>
     some (.inl (s6 (s19+1),j28))) (λκ27=>
     (a1K (⟨v23,v24.1⟩:j4) a1).bind λv29=>
     if v29 then
      (app 16 s20 [(⟨v23,v24.1⟩:j4)]).bind λv30=>
      κ27 v30
     else
     κ27 s20)
   else
   some (.inr s20)) (0,[])).bind λe18=>
  κ15 e18)
def a3B(a0:List hash_Place)(a1:Int):Option Int:=
 (a0w a0).bind λv1=>
 (x5 v1 a1).bind λv2=>
 some (v2.length:Int)
def a35(a0:store_Store)(a1:List hash_Place)(a2:Int):Option Int:=
 (b2b a0 a2).bind λv1=>
 (a3B a1 a2).bind λv2=>
 some (s6 (v1+v2))
def a5R(a0:store_Store)(a1:List hash_Place)(a2:Int):Option Int:=
 (r7 a0 a2).bind λv1=>
 if (v1.2 != 0) then
  some 0
 else
 (a35 a0 a1 a2).bind λv2=>
 some (s6 (v1.1.Strong-v2))
def a7T(a0:List Int)(a1:Int):Option Int:=
 jn (λ(j11:Int)=>
  some j11) (λκ10=>
  (a2P a0).bind λv12=>
  (lp (S:=Int × Int) (E:=Int) (λ((s14,s15):Int × Int)=>
   if (decide (s14<(v12.length:Int))) then
    (ix v12 s14).bind λv18=>
    if ((v18 != 0)==true) then
     jn (λ(j20:Int)=>
      if ((v18 != 0)&&false) then
       some (.inr j20)
      else
      some (.inl (s6 (s14+1),j20))) (λκ19=>
      if (v18==a1) then
       κ19 (s6 (s15+1))
      else
      κ19 s15)
    else
    some (.inl (s6 (s14+1),s15))
   else
   some (.inr s15)) (0,0)).bind λe13=>
  κ10 e13)
def a5A(a0:List Int)(a1:Int):Option Int:=
 (a7T a0 a1).bind λv1=>
 some v1
def a2G(a0:Int)(a1:store_Obj)(a2:store_Store)(a3:List hash_Place)(a4:List Int):Option Bool:=
 (a6s a1.Strong).bind λv1=>
 (l6 ((!v1)==true) 0 (a5R a2 a3 a0)).bind λv2=>
 (l6 ((!v1)==true) 0 (a5A a4 a0)).bind λv3=>
 some ((!v1)&&(v2 != v3))
def a5Q(a0:store_Store)(a1:List hash_Place)(a2:List Int):Option Bool:=
 jn (λ(j36:List Int)=>
  some ((j36.length:Int)==0)) (λκ35=>
  jn (λ(j54:List Int)=>
   κ35 j54) (λκ53=>
   (D6 a0).bind λv55=>
   (lp (S:=Int × (List Int)) (E:=(List Int)) (λ((s57,s58):Int × (List Int))=>
    if (decide (s57<(v55.length:Int))) then
     jn (λ(j66:List Int)=>
      some (.inl (s6 (s57+1),j66))) (λκ65=>
      (ix v55 s57).bind λv67=>
      (r7 a0 v67).bind λv68=>
      (a2G v67 v68.1 a0 a1 a2).bind λv69=>
      if v69 then
       (app 8 s58 [v67]).bind λv70=>
       κ65 v70
      else
      κ65 s58)
    else
    some (.inr s58)) (0,[])).bind λe56=>
   κ53 e56))
def a5j(a0:hold_Heap):Option Bool:=
 (a0T a0).bind λv1=>
 if (!v1) then
  some false
 else
 jn (λ(_:Unit)=>
  (a5i a0).bind λv10=>
  (a5Q a0.S a0.T v10).bind λv11=>
  some v11) (λκ8=>
  (lp (S:=Int) (E:=Bool ⊕ Unit) (λ(s13:Int)=>
   if (decide (s13<([(some 88),(some 89),(some 90),(some 91),(some 92)].length:Int))) then
    (ix [(some 88),(some 89),(some 90),(some 91),(some 92)] s13).bind λv15=>
    (X6 v15 a0).bind λv16=>
    if (!v16) then
     some (.inr (.inl false))
    else
    some (.inl (s6 (s13+1)))
   else
   some (.inr (.inr ()))) 0).bind λe12=>
  match e12 with
  | .inl w=>some w
  | .inr w=>κ8 w)
def P3:Option Bool:=
 (b2K 3 5 8).bind λv1=>
 (a1Z v1 [(⟨1,0,1,(-1)⟩:code_Op),(⟨2,1,0,0⟩:code_Op),(⟨6,2,1,0⟩:code_Op),(⟨10,0,1,0⟩:code_Op),(⟨3,0,0,0⟩:code_Op),(⟨7,3,2,0⟩:code_Op),(⟨3,1,0,0⟩:code_Op),(⟨3,3,0,0⟩:code_Op)]).bind λv2=>
 (m9 v2.1 (⟨7,3,2,0⟩:code_Op)).bind λv3=>
 (m9 v2.1 (⟨4,0,0,0⟩:code_Op)).bind λv4=>
 (m9 v2.1 (⟨11,0,0,0⟩:code_Op)).bind λv5=>
 (l6 (((v2.2.length:Int)==8)==true) (0:Int) (ix v2.2 0)).bind λv6=>
 (l6 ((((v2.2.length:Int)==8)&&(v6==1))==true) (0:Int) (ix v2.2 1)).bind λv7=>
 (l6 (((((v2.2.length:Int)==8)&&(v6==1))&&(v7==1))==true) (0:Int) (ix v2.2 2)).bind λv8=>
 (l6 ((((((v2.2.length:Int)==8)&&(v6==1))&&(v7==1))&&(v8==1))==true) (0:Int) (ix v2.2 3)).bind λv9=>
 (l6 (((((((v2.2.length:Int)==8)&&(v6==1))&&(v7==1))&&(v8==1))&&(v9==1))==true) (0:Int) (ix v2.2 4)).bind λv10=>
 (l6 ((((((((v2.2.length:Int)==8)&&(v6==1))&&(v7==1))&&(v8==1))&&(v9==1))&&(v10==0))==true) (0:Int) (ix v2.2 5)).bind λv11=>
 (l6 (((((((((v2.2.length:Int)==8)&&(v6==1))&&(v7==1))&&(v8==1))&&(v9==1))&&(v10==0))&&(v11==1))==true) (0:Int) (ix v2.2 7)).bind λv12=>
 (l6 (((((((((((((((v2.2.length:Int)==8)&&(v6==1))&&(v7==1))&&(v8==1))&&(v9==1))&&(v10==0))&&(v11==1))&&(v12==0))&&(v3.2.1==0))&&(v3.2.2==9))&&(v4.2.2==2))&&(v5.2.2==14))&&((v2.1.Q.L.length:Int)==1))==true) [] (D6 v2.1.S)).bind λv13=>
 (l6 ((((((((((((((((v2.2.length:Int)==8)&&(v6==1))&&(v7==1))&&(v8==1))&&(v9==1))&&(v10==0))&&(v11==1))&&(v12==0))&&(v3.2.1==0))&&(v3.2.2==9))&&(v4.2.2==2))&&(v5.2.2==14))&&((v2.1.Q.L.length:Int)==1))&&((v13.length:Int)==0))==true) 0 (Q7 v2.1 0)).bind λv14=>
 (l6 (((((((((((((((((v2.2.length:Int)==8)&&(v6==1))&&(v7==1))&&(v8==1))&&(v9==1))&&(v10==0))&&(v11==1))&&(v12==0))&&(v3.2.1==0))&&(v3.2.2==9))&&(v4.2.2==2))&&(v5.2.2==14))&&((v2.1.Q.L.length:Int)==1))&&((v13.length:Int)==0))&&(v14==0))==true) false (a5j v2.1)).bind λv15=>
 some (((((((((((((((((v2.2.length:Int)==8)&&(v6==1))&&(v7==1))&&(v8==1))&&(v9==1))&&(v10==0))&&(v11==1))&&(v12==0))&&(v3.2.1==0))&&(v3.2.2==9))&&(v4.2.2==2))&&(v5.2.2==14))&&((v2.1.Q.L.length:Int)==1))&&((v13.length:Int)==0))&&(v14==0))&&v15)
def b9u(a0:code_Op):Option L8:=
 some (⟨a0.Kind,a0.A,a0.B,a0.C⟩:L8)
def Z4(a0:Int)(a1:Int)(a2:Int)(a3:Int):Option Int:=
 if ((decide (a0<a1))||(decide (a0 > a2))) then
  some a3
 else
 some 0
def T6(a0:Int)(a1:Int)(a2:Int):Option Int:=
 if (a0 != 0) then
  some a0
 else
 if (a1 != 0) then
  some a1
 else
 some a2
def a7K(a0:L8):Option Int:=
 (Z4 a0.A 0 5 6).bind λv1=>
 (Z4 a0.B 0 5 6).bind λv2=>
 if (a0.Kind==1) then
  (Z4 a0.B 0 4 1).bind λv3=>
  (Z4 a0.C (-1) 5 13).bind λv4=>
  (T6 v1 v3 v4).bind λv5=>
  some v5
 else
 jn (λ(j7:Bool)=>
  if j7 then
   (T6 v1 v2 0).bind λv8=>
   some v8
  else
  if (a0.Kind==3) then
   some v1
  else
  if (a0.Kind==4) then
   (Z4 a0.C 0 3 5).bind λv9=>
   (T6 v1 v2 v9).bind λv10=>
   some v10
  else
  if (a0.Kind==5) then
   (Z4 a0.B 0 3 5).bind λv11=>
   (Z4 a0.C (-1) 5 6).bind λv12=>
   (T6 v1 v11 v12).bind λv13=>
   some v13
  else
  if (a0.Kind==6) then
   (Z4 a0.A 0 5 7).bind λv14=>
   (Z4 a0.B (-1) 5 6).bind λv15=>
   (Z4 a0.C (-1) 5 13).bind λv16=>
   (T6 v14 v15 v16).bind λv17=>
   some v17
  else
  if (a0.Kind==7) then
   (Z4 a0.B 0 5 7).bind λv18=>
   (T6 v1 v18 0).bind λv19=>
   some v19
  else
  if (a0.Kind==8) then
   (Z4 a0.B (-1) 5 6).bind λv20=>
   (T6 v1 v20 0).bind λv21=>
   some v21
  else
  if (a0.Kind==11) then
   some 0
  else
  if (a0.Kind==12) then
   (Z4 a0.A 0 200 12).bind λv22=>
   some v22
  else
  some 14) (λκ6=>
  if (a0.Kind==2) then
   κ6 (a0.Kind==2)
  else
  if (a0.Kind==9) then
   κ6 (a0.Kind==9)
  else
  κ6 (a0.Kind==10))
def a0B(a0:L8):Option Bool:=
 some ((decide (a0.Kind≥1))&&(decide (a0.Kind≤10)))
def b18(a0:List g8)(a1:Int)(a2:Int)(a3:Int):Option ((List g8) × Int × Int):=
 if ((decide (a1<0))||(decide (a1≥(a0.length:Int)))) then
  some (a0,0,7)
 else
 (app 24 [] a0).bind λv1=>
 (ix v1 a1).bind λv2=>
 (ix a0 a1).bind λv3=>
 some ((v1.set (a1).toNat (⟨a2,(a2 != 0),a3⟩:g8)),v3.Target,0)
def a0b(a0:g6)(a1:Int)(a2:y4):Option g6:=
 (app 80 [] a0.Cells).bind λv1=>
 (ix v1 a1).bind λv2=>
 some (⟨(v1.set (a1).toNat (⟨v2.State,v2.Gen,a2⟩:j1)),a0.Last,a0.Serial⟩:g6)
def J4(a0:g6)(a1:Int)(a2:y4):Option (g6 × Int):=
 (J3 a0).bind λv1=>
 (K1 v1 a1).bind λv2=>
 if (v2.2 != 0) then
  some (a0,v2.2)
 else
 (a0b a0 v2.1 a2).bind λv3=>
 some (v3,0)
def S9(a0:p9)(a1:Int)(a2:o9):Option p9:=
 (app 24 [] a0.Cells).bind λv1=>
 (ix v1 a1).bind λv2=>
 some (⟨(v1.set (a1).toNat a2),a0.Last⟩:p9)
def b3a(a0:p9)(a1:Int):Option (p9 × Int):=
 (K1 a0 a1).bind λv1=>
 if (v1.2 != 0) then
  some (a0,v1.2)
 else
 (ix a0.Cells v1.1).bind λv2=>
 if (decide (v2.Gen≥a0.Last)) then
  (S9 a0 v1.1 (⟨3,v2.Gen,0⟩:o9)).bind λv3=>
  some (v3,0)
 else
 (S9 a0 v1.1 (⟨0,s6 (v2.Gen+1),0⟩:o9)).bind λv4=>
 some (v4,0)
def V9(a0:g6)(a1:p9):Option g6:=
 jn (λ(j10:List j1)=>
  some (⟨j10,a0.Last,a0.Serial⟩:g6)) (λκ9=>
  (lp (S:=Int × (List j1)) (E:=(List j1)) (λ((s12,s13):Int × (List j1))=>
   if (decide (s12<(a0.Cells.length:Int))) then
    (ix a1.Cells s12).bind λv16=>
    (ix a0.Cells s12).bind λv17=>
    (app 80 s13 [(⟨v16.State,v16.Gen,v17.Val⟩:j1)]).bind λv18=>
    some (.inl (s6 (s12+1),v18))
   else
   some (.inr s13)) (0,[])).bind λe11=>
  κ9 e11)
def a6L(a0:g6)(a1:Int):Option g6:=
 (J3 a0).bind λv1=>
 (b3a v1 a1).bind λv2=>
 if (v2.2 != 0) then
  some a0
 else
 (V9 a0 v2.1).bind λv3=>
 (a4F a1).bind λv4=>
 (a0b v3 v4 (⟨0,0,0,0,false,[]⟩:y4)).bind λv5=>
 some v5
def W1(a0:c5)(a1:Int):Option c5:=
 (J3 a0.S).bind λv1=>
 (K1 v1 a1).bind λv2=>
 if (v2.2 != 0) then
  some a0
 else
 (ix a0.S.Cells v2.1).bind λv3=>
 (J4 a0.S a1 (⟨v3.Val.Serial,v3.Val.Strong,s6 (v3.Val.Weak-1),v3.Val.Prog,v3.Val.Started,v3.Val.Fields⟩:y4)).bind λv4=>
 (ix v4.1.Cells v2.1).bind λv5=>
 if ((v5.State==2)&&(decide ((s6 (v3.Val.Weak-1))<1))) then
  (a6L v4.1 a1).bind λv6=>
  some (⟨v6,a0.Roots,a0.Cells,a0.T,a0.Q⟩:c5)
 else
 some (⟨v4.1,a0.Roots,a0.Cells,a0.T,a0.Q⟩:c5)
def a03(a0:c5)(a1:Int)(a2:Int)(a3:Int):Option (c5 × Int):=
 (l6 (((decide (a1<0))||(decide (a1 > 5)))==false) false (a1A a0.Q a1)).bind λv1=>
 if (((decide (a1<0))||(decide (a1 > 5)))||v1) then
  some (a0,7)
 else
 (T5 a0 a2).bind λv2=>
 if (!v2) then
  some (a0,3)
 else
 (b18 a0.Cells a1 a2 a3).bind λv3=>
 if (a2 != 0) then
  (D3 a0.S a2).bind λv4=>
  (J4 a0.S a2 (⟨v4.1.Serial,v4.1.Strong,s6 (v4.1.Weak+1),v4.1.Prog,v4.1.Started,v4.1.Fields⟩:y4)).bind λv5=>
  (W1 (⟨v5.1,a0.Roots,v3.1,a0.T,a0.Q⟩:c5) v3.2.1).bind λv6=>
  some (v6,0)
 else
 (W1 (⟨a0.S,a0.Roots,v3.1,a0.T,a0.Q⟩:c5) v3.2.1).bind λv7=>
 some (v7,0)
def O8(a0:c5)(a1:Int):Option (Int × Int):=
 (ix a0.Roots a1).bind λv1=>
 if (v1==0) then
  some (0,2)
 else
 some (v1,0)
def a3g(a0:c5)(a1:Int):Option Int:=
 if (decide (a1<0)) then
  some 0
 else
 (ix a0.Roots a1).bind λv1=>
 some v1
def b0U(a0:List Int)(a1:Int):Option (Int × Int):=
 if ((decide (a1<0))||(decide (a1≥(a0.length:Int)))) then
  some (0,5)
 else
 (ix a0 a1).bind λv1=>
 some (v1,0)
def a1y(a0:g6)(a1:Int)(a2:Int):Option (Int × Int):=
 (D3 a0 a1).bind λv1=>
 if (v1.2 != 0) then
  some (0,v1.2)
 else
 (b0U v1.1.Fields a2).bind λv2=>
 some (v2.1,v2.2)
def a9M(a0:Int):Option Int:=
 (Y2 a0).bind λv1=>
 if v1 then
  some 12
 else
 if (decide (a0<0)) then
  some 1
 else
 some (s6 (a0+1))
def a3d(a0:c5)(a1:Int)(a2:Int):Option c5:=
 (D3 a0.S a1).bind λv1=>
 if (v1.2 != 0) then
  some a0
 else
 (J4 a0.S a1 (⟨v1.1.Serial,a2,v1.1.Weak,v1.1.Prog,v1.1.Started,v1.1.Fields⟩:y4)).bind λv2=>
 some (⟨v2.1,a0.Roots,a0.Cells,a0.T,a0.Q⟩:c5)
def W0(a0:c5)(a1:Int):Option c5:=
 (D3 a0.S a1).bind λv1=>
 (a9M v1.1.Strong).bind λv2=>
 (a3d a0 a1 v2).bind λv3=>
 some v3
def b3c(a0:List Int)(a1:Int)(a2:Int):Option ((List Int) × Int):=
 if ((decide (a1<0))||(decide (a1≥(a0.length:Int)))) then
  some (a0,5)
 else
 (app 8 [] a0).bind λv1=>
 (ix v1 a1).bind λv2=>
 some ((v1.set (a1).toNat a2),0)
def b15(a0:g6)(a1:Int)(a2:Int)(a3:Int):Option (g6 × Int):=
 (D3 a0 a1).bind λv1=>
 if (v1.2 != 0) then
  some (a0,v1.2)
 else
 (b3c v1.1.Fields a2 a3).bind λv2=>
 if (v2.2 != 0) then
  some (a0,v2.2)
 else
 (J4 a0 a1 (⟨v1.1.Serial,v1.1.Strong,v1.1.Weak,v1.1.Prog,v1.1.Started,v2.1⟩:y4)).bind λv3=>
 some (v3.1,v3.2)
def b14(a0:Int):Option (Int × Int):=
 (Y2 a0).bind λv1=>
 if v1 then
  some (12,0)
 else
 if (decide (a0<1)) then
  some (0,11)
 else
 some (s6 (a0-1),0)
def E3(a0:c5)(a1:Int):Option c5:=
 (D3 a0.S a1).bind λv1=>
 (b14 v1.1.Strong).bind λv2=>
 if (v2.2 != 0) then
  some a0
 else
 (a3d a0 a1 v2.1).bind λv3=>
 some v3
def a2M(a0:c5)(a1:Int)(a2:Int)(a3:Int):Option (c5 × Int):=
 (a1y a0.S a1 a2).bind λv1=>
 if (v1.2 != 0) then
  some (a0,v1.2)
 else
 (T5 a0 a3).bind λv2=>
 if (!v2) then
  some (a0,3)
 else
 (W0 a0 a3).bind λv3=>
 (b15 v3.S a1 a2 a3).bind λv4=>
 (E3 (⟨v4.1,v3.Roots,v3.Cells,v3.T,v3.Q⟩:c5) v1.1).bind λv5=>
 some (v5,0)
def a0d(a0:List g5)(a1:Int)(a2:g5):Option (List g5):=
 (app 24 [] a0).bind λv1=>
 (ix v1 a1).bind λv2=>
 some (v1.set (a1).toNat a2)
def a4J(a0:List g5)(a1:Int):Option ((List g5) × Int × Int):=
 (a0c a0 a1).bind λv1=>
 if (decide (v1<0)) then
  some (a0,0,9)
 else
 (a0d a0 v1 (⟨2,0,0⟩:g5)).bind λv2=>
 (ix a0 v1).bind λv3=>
 some (v2,v3.Val,0)
def b19(a0:List g5)(a1:Int)(a2:Int):Option ((List g5) × Int):=
 (a0c a0 a1).bind λv1=>
 if (decide (v1≥0)) then
  (a0d a0 v1 (⟨1,a1,a2⟩:g5)).bind λv2=>
  some (v2,0)
 else
 (a9U (a0.length:Int) a1).bind λv3=>
 jn (λ(_:Unit)=>
  some (a0,8)) (λκ12=>
  (lp (S:=Int × Int) (E:=((List g5) × Int) ⊕ Unit) (λ((s15,s16):Int × Int)=>
   if (decide (s16<(a0.length:Int))) then
    (ix a0 s15).bind λv19=>
    if (v19.State != 1) then
     (a0d a0 s15 (⟨1,a1,a2⟩:g5)).bind λv20=>
     some (.inr (.inl (v20,0)))
    else
    (rem (s6 (s15+1)) (a0.length:Int)).bind λv21=>
    some (.inl (v21,s6 (s16+1)))
   else
   some (.inr (.inr ()))) (v3,0)).bind λe14=>
  match e14 with
  | .inl w=>some w
  | .inr w=>κ12 w)
def b2a(a0:List g5)(a1:Int)(a2:Int):Option ((List g5) × Int × Int):=
 if (a1==0) then
  some (a0,0,2)
 else
 (a7z a0 a1).bind λv1=>
 if (a2==0) then
  (a4J a0 a1).bind λv2=>
  some (v2.1,v1.1,0)
 else
 (b19 a0 a1 a2).bind λv3=>
 if (v3.2 != 0) then
  some (a0,0,v3.2)
 else
 some (v3.1,v1.1,0)
def a4L(a0:c5)(a1:Int)(a2:Int):Option (c5 × Int):=
 if (a1==0) then
  some (a0,2)
 else
 (T4 a0 a1).bind λv1=>
 (l6 ((!v1)==false) false (T5 a0 a2)).bind λv2=>
 if ((!v1)||(!v2)) then
  some (a0,3)
 else
 (b2a a0.T a1 a2).bind λv3=>
 if (v3.2.2 != 0) then
  some (a0,v3.2.2)
 else
 (W0 a0 a2).bind λv4=>
 (E3 (⟨v4.S,v4.Roots,v4.Cells,v3.1,v4.Q⟩:c5) v3.2.1).bind λv5=>
 some (v5,0)
def Y4(a0:c5)(a1:L8):Option (c5 × Int × Int):=
 if ((a1.Kind==6)&&(decide (a1.B<0))) then
  (a03 a0 a1.A 0 a1.C).bind λv1=>
  some (v1.1,0,v1.2)
 else
 jn (λ(j3:Int)=>
  (O8 a0 j3).bind λv4=>
  if (v4.2 != 0) then
   some (a0,0,v4.2)
  else
  if (a1.Kind==5) then
   (a3g a0 a1.C).bind λv5=>
   (a2M a0 v4.1 a1.B v5).bind λv6=>
   some (v6.1,v5,v6.2)
  else
  if (a1.Kind==6) then
   (a03 a0 a1.A v4.1 a1.C).bind λv7=>
   some (v7.1,v4.1,v7.2)
  else
  (a3g a0 a1.B).bind λv8=>
  (a4L a0 v4.1 v8).bind λv9=>
  some (v9.1,v8,v9.2)) (λκ2=>
  if (a1.Kind==6) then
   κ2 a1.B
  else
  κ2 a1.A)
def a7J(a0:c5)(a1:Int):Option Bool:=
 (D3 a0.S a1).bind λv1=>
 (T4 a0 a1).bind λv2=>
 some ((v2&&(decide (v1.1.Prog≥0)))&&(!v1.1.Started))
def a3W(a0:p6)(a1:l7):Option (p6 × Int):=
 if (decide ((a0.L.length:Int)≥a0.Cap)) then
  some (a0,4)
 else
 (app 24 [] a0.L).bind λv1=>
 (app 24 v1 [a1]).bind λv2=>
 some ((⟨v2,a0.Cap⟩:p6),0)
def a3e(a0:c5)(a1:Int):Option c5:=
 (a7J a0 a1).bind λv1=>
 if (!v1) then
  some a0
 else
 (D3 a0.S a1).bind λv2=>
 (J4 a0.S a1 (⟨v2.1.Serial,v2.1.Strong,v2.1.Weak,v2.1.Prog,true,v2.1.Fields⟩:y4)).bind λv3=>
 (a3W a0.Q (⟨1,a1,v2.1.Prog⟩:l7)).bind λv4=>
 (W0 (⟨v3.1,a0.Roots,a0.Cells,a0.T,v4.1⟩:c5) a1).bind λv5=>
 some v5
def b17(a0:List Int)(a1:Int):Option Bool:=
 (a0A a0 a1).bind λv1=>
 some (decide (v1 > 0))
def a6U(a0:c5)(a1:List Int):Option (List Int):=
 jn (λ(j17:List Int)=>
  some j17) (λκ16=>
  (lp (S:=Int × (List Int)) (E:=(List Int)) (λ((s19,s20):Int × (List Int))=>
   if (decide (s19<(a1.length:Int))) then
    jn (λ(j28:List Int)=>
     some (.inl (s6 (s19+1),j28))) (λκ27=>
     (ix a1 s19).bind λv29=>
     (T4 a0 v29).bind λv30=>
     (l6 (v30==true) false (b17 s20 v29)).bind λv31=>
     if (v30&&(!v31)) then
      (app 8 s20 [v29]).bind λv32=>
      κ27 v32
     else
     κ27 s20)
   else
   some (.inr s20)) (0,[])).bind λe18=>
  κ16 e18)
def a7y(a0:List g8)(a1:List Int):Option ((List g8) × (List Int)):=
 jn (λ((j18,j19):(List Int) × (List g8))=>
  some (j19,j18)) (λκ17=>
  (lp (S:=Int × (List g8) × (List Int)) (E:=((List Int) × (List g8))) (λ((s22,s23,s24):Int × (List g8) × (List Int))=>
   if (decide (s22<(a0.length:Int))) then
    (ix a0 s22).bind λv27=>
    jn (λ((j31,j32):Bool × (List Int))=>
     (app 24 s23 [(⟨v27.Target,j31,v27.Call⟩:g8)]).bind λv34=>
     some (.inl (s6 (s22+1),v34,j32))) (λκ30=>
     (l6 (v27.Intact==true) 0 (a0A a1 v27.Target)).bind λv35=>
     if (v27.Intact&&(decide (v35 > 0))) then
      if (decide (v27.Call≥0)) then
       (app 8 s24 [s22]).bind λv36=>
       κ30 (false,v36)
      else
      κ30 (false,s24)
     else
     κ30 (v27.Intact,s24))
   else
   some (.inr (s24,s23))) (0,[],[])).bind λe21=>
  κ17 e21)
def a17(a0:List g5)(a1:List Int):Option ((List g5) × (List Int)):=
 jn (λ((j18,j19):(List g5) × (List Int))=>
  some (j18,j19)) (λκ17=>
  (lp (S:=(List g5) × Int × (List Int)) (E:=((List g5) × (List Int))) (λ((s22,s23,s24):(List g5) × Int × (List Int))=>
   if (decide (s23<(a1.length:Int))) then
    jn (λ((j31,j32):(List g5) × (List Int))=>
     some (.inl (j31,s6 (s23+1),j32))) (λκ30=>
     (ix a1 s23).bind λv34=>
     (a4J s22 v34).bind λv35=>
     if (v35.2.2==0) then
      (app 8 s24 [v35.2.1]).bind λv36=>
      κ30 (v35.1,v36)
     else
     κ30 (s22,s24))
   else
   some (.inr (s22,s24))) (a0,0,[])).bind λe21=>
  κ17 e21)
def b3b(a0:p9)(a1:Int):Option (p9 × Int):=
 (a9L a0 a1).bind λv1=>
 if (v1.2 != 0) then
  some (a0,v1.2)
 else
 (K1 a0 a1).bind λv2=>
 (ix a0.Cells v2.1).bind λv3=>
 (S9 a0 v2.1 (⟨2,v3.Gen,v3.Val⟩:o9)).bind λv4=>
 some (v4,0)
def a9Q(a0:g6)(a1:Int):Option g6:=
 (J3 a0).bind λv1=>
 (b3b v1 a1).bind λv2=>
 (V9 a0 v2.1).bind λv3=>
 some v3
def a4M(a0:c5)(a1:Int):Option c5:=
 (D3 a0.S a1).bind λv1=>
 (J4 a0.S a1 (⟨v1.1.Serial,0,v1.1.Weak,v1.1.Prog,v1.1.Started,[]⟩:y4)).bind λv2=>
 (a9Q v2.1 a1).bind λv3=>
 if (v1.1.Weak==0) then
  (a6L v3 a1).bind λv4=>
  some (⟨v4,a0.Roots,a0.Cells,a0.T,a0.Q⟩:c5)
 else
 some (⟨v3,a0.Roots,a0.Cells,a0.T,a0.Q⟩:c5)
def a6S(a0:c5)(a1:List Int):Option c5:=
 (a6U a0 a1).bind λv1=>
 (a7y a0.Cells v1).bind λv2=>
 jn (λ(j12:p6)=>
  jn (λ(j23:List Int)=>
   (a17 a0.T v1).bind λv24=>
   (app 8 j23 v24.2).bind λv25=>
   jn (λ(j34:c5)=>
    jn (λ(j43:c5)=>
     some j43) (λκ42=>
     (lp (S:=Int × c5) (E:=c5) (λ((s45,s46):Int × c5)=>
      if (decide (s45<(v25.length:Int))) then
       (ix v25 s45).bind λv49=>
       (E3 s46 v49).bind λv50=>
       some (.inl (s6 (s45+1),v50))
      else
      some (.inr s46)) (0,j34)).bind λe44=>
     κ42 e44)) (λκ33=>
    (lp (S:=Int × c5) (E:=c5) (λ((s52,s53):Int × c5)=>
     if (decide (s52<(v1.length:Int))) then
      (ix v1 s52).bind λv56=>
      (a4M s53 v56).bind λv57=>
      some (.inl (s6 (s52+1),v57))
     else
     some (.inr s53)) (0,(⟨a0.S,a0.Roots,v2.1,v24.1,j12⟩:c5))).bind λe51=>
    κ33 e51)) (λκ22=>
   (lp (S:=Int × (List Int)) (E:=(List Int)) (λ((s59,s60):Int × (List Int))=>
    if (decide (s59<(v1.length:Int))) then
     (ix v1 s59).bind λv63=>
     (D3 a0.S v63).bind λv64=>
     (a1x v64.1.Fields).bind λv65=>
     (app 8 s60 v65).bind λv66=>
     some (.inl (s6 (s59+1),v66))
    else
    some (.inr s60)) (0,[])).bind λe58=>
   κ22 e58)) (λκ11=>
  (lp (S:=Int × p6) (E:=p6) (λ((s68,s69):Int × p6)=>
   if (decide (s68<(v2.2.length:Int))) then
    (ix v2.2 s68).bind λv72=>
    (ix v2.1 v72).bind λv73=>
    (a3W s69 (⟨2,v72,v73.Call⟩:l7)).bind λv74=>
    some (.inl (s6 (s68+1),v74.1))
   else
   some (.inr s69)) (0,a0.Q)).bind λe67=>
  κ11 e67)
def R1(a0:c5):Option c5:=
 jn (λ(j21:c5)=>
  some j21) (λκ20=>
  (lp (S:=Int × c5) (E:=c5 ⊕ c5) (λ((s23,s24):Int × c5)=>
   if (decide (s23<100)) then
    jn (λ(j34:c5)=>
     some (.inl (s6 (s23+1),j34))) (λκ33=>
     (a3f s24).bind λv35=>
     if ((v35.length:Int)==0) then
      some (.inr (.inl s24))
     else
     (ix v35 0).bind λv36=>
     (a7J s24 v36).bind λv37=>
     if v37 then
      (a3e s24 v36).bind λv38=>
      κ33 v38
     else
     (cut v35 0 1).bind λv39=>
     (a6S s24 v39).bind λv40=>
     κ33 v40)
   else
   some (.inr (.inr s24))) (0,a0)).bind λe22=>
  match e22 with
  | .inl w=>some w
  | .inr w=>κ20 w)
def a0v(a0:c5)(a1:Int):Option Int:=
 (D3 a0.S a1).bind λv1=>
 some v1.1.Serial
def a9O(a0:Int):Option ((List Int) × Int):=
 if ((decide (a0<0))||(decide (a0 > 4))) then
  some ([],1)
 else
 (mk 8 a0 (0:Int)).bind λv1=>
 some (v1,0)
def a4H(a0:p9)(a1:Int):Option (p9 × Int × Int):=
 jn (λ(_:Unit)=>
  some (a0,0,4)) (λκ7=>
  (lp (S:=Int) (E:=(p9 × Int × Int) ⊕ Unit) (λ(s10:Int)=>
   if (decide (s10<(a0.Cells.length:Int))) then
    (ix a0.Cells s10).bind λv12=>
    if (v12.State==0) then
     (S9 a0 s10 (⟨1,v12.Gen,a1⟩:o9)).bind λv13=>
     (a15 s10 v12.Gen).bind λv14=>
     some (.inr (.inl (v13,v14,0)))
    else
    some (.inl (s6 (s10+1)))
   else
   some (.inr (.inr ()))) 0).bind λe9=>
  match e9 with
  | .inl w=>some w
  | .inr w=>κ7 w)
def a01(a0:g6)(a1:Int)(a2:Int):Option (g6 × Int × Int):=
 (a9O a1).bind λv1=>
 if (v1.2 != 0) then
  some (a0,0,v1.2)
 else
 if ((decide (a2<(-1)))||(decide (a2 > 5))) then
  some (a0,0,13)
 else
 (J3 a0).bind λv2=>
 (a4H v2 0).bind λv3=>
 if (v3.2.2 != 0) then
  some (a0,0,v3.2.2)
 else
 (V9 a0 v3.1).bind λv4=>
 (a4F v3.2.1).bind λv5=>
 (a0b v4 v5 (⟨s6 (a0.Serial+1),0,0,a2,false,v1.1⟩:y4)).bind λv6=>
 some ((⟨v6.Cells,v6.Last,s6 (a0.Serial+1)⟩:g6),v3.2.1,0)
def a18(a0:c5)(a1:Int)(a2:Int):Option (c5 × Int):=
 if ((decide (a1<0))||(decide (a1 > 5))) then
  some (a0,6)
 else
 (T5 a0 a2).bind λv1=>
 if (!v1) then
  some (a0,3)
 else
 (ix a0.Roots a1).bind λv2=>
 (W0 a0 a2).bind λv3=>
 (app 8 [] a0.Roots).bind λv4=>
 (ix v4 a1).bind λv5=>
 (E3 (⟨v3.S,(v4.set (a1).toNat a2),v3.Cells,v3.T,v3.Q⟩:c5) v2).bind λv6=>
 some (v6,0)
def a6V(a0:c5)(a1:Int):Option Int:=
 if ((decide (a1<0))||(decide (a1 > 5))) then
  some 0
 else
 (ix a0.Roots a1).bind λv1=>
 (a0v a0 v1).bind λv2=>
 some v2
def a6N(a0:List g8)(a1:Int):Option (Int × Int):=
 if ((decide (a1<0))||(decide (a1≥(a0.length:Int)))) then
  some (0,7)
 else
 (ix a0 a1).bind λv1=>
 if ((v1.Target==0)||(!v1.Intact)) then
  some (0,9)
 else
 some (v1.Target,0)
def a9X(a0:List g5)(a1:Int):Option (Int × Int):=
 (a7z a0 a1).bind λv1=>
 some (v1.1,v1.2)
def a0C(a0:c5)(a1:L8):Option (Int × Int):=
 if (a1.Kind==2) then
  (ix a0.Roots a1.B).bind λv1=>
  some (v1,0)
 else
 if (a1.Kind==4) then
  (O8 a0 a1.B).bind λv2=>
  if (v2.2 != 0) then
   some (0,v2.2)
  else
  (a1y a0.S v2.1 a1.C).bind λv3=>
  some (v3.1,v3.2)
 else
 if (a1.Kind==7) then
  (a6N a0.Cells a1.B).bind λv4=>
  some (v4.1,v4.2)
 else
 if (a1.Kind==9) then
  (O8 a0 a1.B).bind λv5=>
  if (v5.2 != 0) then
   some (0,v5.2)
  else
  (a9X a0.T v5.1).bind λv6=>
  some (v6.1,v6.2)
 else
 some (0,0)
def A2(a0:c5)(a1:L8):Option (c5 × Int × Int):=
 (a7K a1).bind λv1=>
 if (v1 != 0) then
  some (a0,0,v1)
 else
 (a0B a1).bind λv2=>
 if (!v2) then
  some (a0,0,14)
 else
 if (a1.Kind==10) then
  (ix a0.Roots a1.A).bind λv3=>
  (ix a0.Roots a1.B).bind λv4=>
  if (v3==v4) then
   some (a0,1,0)
  else
  some (a0,0,0)
 else
 jn (λ(j6:Bool)=>
  if j6 then
   (Y4 a0 a1).bind λv7=>
   if (v7.2.2 != 0) then
    some (a0,0,v7.2.2)
   else
   (R1 v7.1).bind λv8=>
   (a0v a0 v7.2.1).bind λv9=>
   some (v8,v9,0)
  else
  if (a1.Kind==1) then
   (a01 a0.S a1.B a1.C).bind λv10=>
   if (v10.2.2 != 0) then
    some (a0,0,v10.2.2)
   else
   (a18 (⟨v10.1,a0.Roots,a0.Cells,a0.T,a0.Q⟩:c5) a1.A v10.2.1).bind λv11=>
   (R1 v11.1).bind λv12=>
   (a6V v12 a1.A).bind λv13=>
   some (v12,v13,0)
  else
  (a0C a0 a1).bind λv14=>
  if (v14.2 != 0) then
   some (a0,0,v14.2)
  else
  (a18 a0 a1.A v14.1).bind λv15=>
  (R1 v15.1).bind λv16=>
  (a6V v16 a1.A).bind λv17=>
  some (v16,v17,0)) (λκ5=>
  if (a1.Kind==5) then
   κ5 (a1.Kind==5)
  else
  if (a1.Kind==6) then
   κ5 (a1.Kind==6)
  else
  κ5 (a1.Kind==8))
def a3b(a0:List Int)(a1:List Int):Option Bool:=
 if ((a0.length:Int) != (a1.length:Int)) then
  some false
 else
 jn (λ(_:Unit)=>
  some true) (λκ6=>
  (lp (S:=Int) (E:=Bool ⊕ Unit) (λ(s9:Int)=>
   if (decide (s9<(a0.length:Int))) then
    (ix a0 s9).bind λv11=>
    (ix a1 s9).bind λv12=>
    if (v11 != v12) then
     some (.inr (.inl false))
    else
    some (.inl (s6 (s9+1)))
   else
   some (.inr (.inr ()))) 0).bind λe8=>
  match e8 with
  | .inl w=>some w
  | .inr w=>κ6 w)
def a4I(a0:y4)(a1:y4):Option Bool:=
 (l6 ((((((a0.Serial==a1.Serial)&&(a0.Strong==a1.Strong))&&(a0.Weak==a1.Weak))&&(a0.Prog==a1.Prog))&&(a0.Started==a1.Started))==true) false (a3b a0.Fields a1.Fields)).bind λv1=>
 some ((((((a0.Serial==a1.Serial)&&(a0.Strong==a1.Strong))&&(a0.Weak==a1.Weak))&&(a0.Prog==a1.Prog))&&(a0.Started==a1.Started))&&v1)
def a9R(a0:g6)(a1:g6):Option Bool:=
 if (((a0.Last != a1.Last)||(a0.Serial != a1.Serial))||((a0.Cells.length:Int) != (a1.Cells.length:Int))) then
  some false
 else
 jn (λ(_:Unit)=>
  some true) (λκ7=>
  (lp (S:=Int) (E:=Bool ⊕ Unit) (λ(s10:Int)=>
   if (decide (s10<(a0.Cells.length:Int))) then
    (ix a0.Cells s10).bind λv12=>
    (ix a1.Cells s10).bind λv13=>
    (l6 (((v12.State != v13.State)||(v12.Gen != v13.Gen))==false) false (a4I v12.Val v13.Val)).bind λv14=>
    if (((v12.State != v13.State)||(v12.Gen != v13.Gen))||(!v14)) then
     some (.inr (.inl false))
    else
    some (.inl (s6 (s10+1)))
   else
   some (.inr (.inr ()))) 0).bind λe9=>
  match e9 with
  | .inl w=>some w
  | .inr w=>κ7 w)
def a9T(a0:List g8)(a1:List g8):Option Bool:=
 if ((a0.length:Int) != (a1.length:Int)) then
  some false
 else
 jn (λ(_:Unit)=>
  some true) (λκ6=>
  (lp (S:=Int) (E:=Bool ⊕ Unit) (λ(s9:Int)=>
   if (decide (s9<(a0.length:Int))) then
    (ix a0 s9).bind λv11=>
    (ix a1 s9).bind λv12=>
    if (!((v11.Target==v12.Target)&&((v11.Intact==v12.Intact)&&((v11.Call==v12.Call)&&true)))) then
     some (.inr (.inl false))
    else
    some (.inl (s6 (s9+1)))
   else
   some (.inr (.inr ()))) 0).bind λe8=>
  match e8 with
  | .inl w=>some w
  | .inr w=>κ6 w)
def a9W(a0:List g5)(a1:List g5):Option Bool:=
 if ((a0.length:Int) != (a1.length:Int)) then
  some false
 else
 jn (λ(_:Unit)=>
  some true) (λκ6=>
  (lp (S:=Int) (E:=Bool ⊕ Unit) (λ(s9:Int)=>
   if (decide (s9<(a0.length:Int))) then
    (ix a0 s9).bind λv11=>
    (ix a1 s9).bind λv12=>
    if (!((v11.State==v12.State)&&((v11.Key==v12.Key)&&((v11.Val==v12.Val)&&true)))) then
     some (.inr (.inl false))
    else
    some (.inl (s6 (s9+1)))
   else
   some (.inr (.inr ()))) 0).bind λe8=>
  match e8 with
  | .inl w=>some w
  | .inr w=>κ6 w)
def a91(a0:p6)(a1:p6):Option Bool:=
 if ((a0.Cap != a1.Cap)||((a0.L.length:Int) != (a1.L.length:Int))) then
  some false
 else
 jn (λ(_:Unit)=>
  some true) (λκ6=>
  (lp (S:=Int) (E:=Bool ⊕ Unit) (λ(s9:Int)=>
   if (decide (s9<(a0.L.length:Int))) then
    (ix a0.L s9).bind λv11=>
    (ix a1.L s9).bind λv12=>
    if (!((v11.Kind==v12.Kind)&&((v11.At==v12.At)&&((v11.Prog==v12.Prog)&&true)))) then
     some (.inr (.inl false))
    else
    some (.inl (s6 (s9+1)))
   else
   some (.inr (.inr ()))) 0).bind λe8=>
  match e8 with
  | .inl w=>some w
  | .inr w=>κ6 w)
def a6Q(a0:c5)(a1:c5):Option Bool:=
 (a9R a0.S a1.S).bind λv1=>
 (l6 (v1==true) false (a3b a0.Roots a1.Roots)).bind λv2=>
 (l6 ((v1&&v2)==true) false (a9T a0.Cells a1.Cells)).bind λv3=>
 (l6 (((v1&&v2)&&v3)==true) false (a9W a0.T a1.T)).bind λv4=>
 (l6 ((((v1&&v2)&&v3)&&v4)==true) false (a91 a0.Q a1.Q)).bind λv5=>
 some ((((v1&&v2)&&v3)&&v4)&&v5)
def a2p(a0:hold_Heap)(a1:code_Op)(a2:Int):Option Bool:=
 (a3p a0).bind λv1=>
 (l6 ((!v1)==false) false P3).bind λv2=>
 if ((!v1)||(!v2)) then
  (P3).bind λv3=>
  some v3
 else
 (m9 a0 a1).bind λv4=>
 (W9 a0).bind λv5=>
 (b9u a1).bind λv6=>
 (A2 v5 v6).bind λv7=>
 (a5T v4.1).bind λv8=>
 (l6 (v8==true) ⟨⟨[],0,0⟩,[],[],[],⟨[],0⟩⟩ (W9 v4.1)).bind λv9=>
 (l6 (v8==true) false (a6Q v9 v7.1)).bind λv10=>
 (l6 ((((v8&&v10)&&(v4.2.1==v7.2.1))&&(v4.2.2==v7.2.2))==true) 0 (V8 a0 a2)).bind λv11=>
 (l6 ((((v8&&v10)&&(v4.2.1==v7.2.1))&&(v4.2.2==v7.2.2))==true) 0 (a0v v5 a2)).bind λv12=>
 (l6 (((((v8&&v10)&&(v4.2.1==v7.2.1))&&(v4.2.2==v7.2.2))&&(v11==v12))==true) 0 (Q7 a0 a2)).bind λv13=>
 (l6 (((((v8&&v10)&&(v4.2.1==v7.2.1))&&(v4.2.2==v7.2.2))&&(v11==v12))==true) 0 (a6V v5 a2)).bind λv14=>
 some (((((v8&&v10)&&(v4.2.1==v7.2.1))&&(v4.2.2==v7.2.2))&&(v11==v12))&&(v13==v14))
def a1G(a0:hold_Heap)(a1:code_Op):Option Bool:=
 (a3p a0).bind λv1=>
 (l6 ((!v1)==false) false P3).bind λv2=>
 if ((!v1)||(!v2)) then
  (P3).bind λv3=>
  some v3
 else
 (m9 a0 a1).bind λv4=>
 (a5T v4.1).bind λv5=>
 if (!v5) then
  some false
 else
 (W9 v4.1).bind λv6=>
 if (v4.2.2 != 0) then
  (l6 ((v4.2.1==0)==true) ⟨⟨[],0,0⟩,[],[],[],⟨[],0⟩⟩ (W9 a0)).bind λv7=>
  (l6 ((v4.2.1==0)==true) false (a6Q v6 v7)).bind λv8=>
  some ((v4.2.1==0)&&v8)
 else
 (a1B v6).bind λv9=>
 (l6 (v9==true) false (a19 v6)).bind λv10=>
 some (v9&&v10)
def a2q(a0:hold_Heap)(a1:Int)(a2:Int):Option Bool:=
 (a3p a0).bind λv1=>
 (l6 ((((((!v1)||(decide (a1<0)))||(decide (a1 > 5)))||(decide (a2<0)))||(decide (a2 > 5)))==false) false P3).bind λv2=>
 if ((((((!v1)||(decide (a1<0)))||(decide (a1 > 5)))||(decide (a2<0)))||(decide (a2 > 5)))||(!v2)) then
  (P3).bind λv3=>
  some v3
 else
 (m9 a0 (⟨2,a1,a2,0⟩:code_Op)).bind λv4=>
 (m9 v4.1 (⟨10,a1,a2,0⟩:code_Op)).bind λv5=>
 (m9 a0 (⟨1,a1,0,(-1)⟩:code_Op)).bind λv6=>
 (m9 v6.1 (⟨10,a1,a2,0⟩:code_Op)).bind λv7=>
 some (((((v4.2.2==0)&&(v5.2.1==1))&&(v5.2.2==0))&&(v7.2.2==0))&&((v6.2.2==4)||(((v6.2.2==0)&&(v6.2.1==(s6 (a0.S.Serial+1))))&&((v7.2.1==1)==(a1==a2)))))
def b5V(a0:c5)(a1:List L8):Option (c5 × (List Int)):=
 jn (λ((j11,j12):c5 × (List Int))=>
  some (j11,j12)) (λκ10=>
  (lp (S:=Int × c5 × (List Int)) (E:=(c5 × (List Int))) (λ((s15,s16,s17):Int × c5 × (List Int))=>
   if (decide (s15<(a1.length:Int))) then
    (ix a1 s15).bind λv20=>
    (A2 s16 v20).bind λv21=>
    (app 8 s17 [v21.2.1]).bind λv22=>
    some (.inl (s6 (s15+1),v21.1,v22))
   else
   some (.inr (s16,s17))) (0,a0,[])).bind λe14=>
  κ10 e14)
end
end Go.Sh
