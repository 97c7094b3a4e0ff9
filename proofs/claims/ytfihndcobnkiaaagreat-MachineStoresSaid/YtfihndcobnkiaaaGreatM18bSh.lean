/-
 Plain functions: what the functions of the program come to.
-/
import Derived.Test.YtfihndcobnkiaaaGreatM18bSh0
import Derived.Test.YtfihndcobnkiaaaGreatM18bPwD
set_option linter.unusedVariables false
set_option linter.unusedSimpArgs false
set_option linter.unusedSectionVars false
namespace Go.Sh
set_option maxRecDepth 100000
noncomputable section
structure store_Obj where
 Serial:Int
 Strong:Int
 Weak:Int
 Prog:Int
 Started:Bool
 Fields:List Int
structure slab_Cell_store_Obj where
 State:Int
 Gen:Int
 Val:store_Obj
structure slab_Slab_store_Obj where
 Cells:List slab_Cell_store_Obj
 Last:Int
structure store_Store where
 S:slab_Slab_store_Obj
 Serial:Int
structure weak_Cell where
 Target:Int
 Intact:Bool
 Call:Int
structure hash_Place where
 State:Int
 Key:Int
 Val:Int
structure task_Task where
 Kind:Int
 At:Int
 Prog:Int
instance:BEq task_Task:=⟨λa b=>((a.Kind==b.Kind)&&((a.At==b.At)&&((a.Prog==b.Prog)&&true)))⟩
theorem task_Task.beq_eq(a b:task_Task)(h:(a==b)=true):a=b:=by
 have h:((a.Kind==b.Kind)&&((a.At==b.At)&&((a.Prog==b.Prog)&&true)))=true:=h
 simp only[Bool.and_eq_true,beq_iff_eq,and_true] at h
 obtain⟨h0,h1,h2⟩:=h
 cases a;cases b;simp_all
structure queue_Queue_task_Task where
 L:List task_Task
 Cap:Int
structure hold_Heap where
 S:store_Store
 Roots:List Int
 Cells:List weak_Cell
 T:List hash_Place
 Q:queue_Queue_task_Task
structure code_Op where
 Kind:Int
 A:Int
 B:Int
 C:Int
structure A5 where
 Serial:Int
 Strong:Int
 Weak:Int
 Prog:Int
 Started:Bool
 Fields:List Int
structure n0 where
 State:Int
 Gen:Int
 Val:A5
structure p7 where
 Target:Int
 Intact:Bool
 Call:Int
structure j2 where
 State:Int
 Key:Int
 Val:Int
structure p6 where
 Kind:Int
 At:Int
 Prog:Int
structure j1 where
 Cells:List n0
 Last:Int
 Serial:Int
structure x6 where
 L:List p6
 Cap:Int
structure g6 where
 S:j1
 Roots:List Int
 Cells:List p7
 T:List j2
 Q:x6
structure z8 where
 State:Int
 Gen:Int
 Val:Int
structure B1 where
 Cells:List z8
 Last:Int
structure r7 where
 Key:Int
 Val:Int
structure g7 where
 part:Fv
 least:Int
 most:Int
 e:Int
structure n8 where
 x:hold_Heap
 o:code_Op
structure F4 where
 r:Int
 h:Int
structure E4 where
 h:Int
 k:Int
 v:Int
structure F3 where
 t:List hash_Place
structure A9 where
 kept:Fv
structure j5 where
 Key:Int
 Val:Int
structure a2f where
 Kind:Int
 A:Int
 B:Int
 C:Int
def a7J(a0:store_Store):Option Bool:=
 jn (λ(_:Unit)=>
  some (decide ((a0.S.Cells.length:Int)≤30))) (λκ5=>
  (lp (S:=Int) (E:=Bool ⊕ Unit) (λ(s8:Int)=>
   if ((decide (s8<(a0.S.Cells.length:Int)))&&(decide (s8<30))) then
    (ix a0.S.Cells s8).bind λv10=>
    if (decide ((v10.Val.Fields.length:Int) > 10)) then
     some (.inr (.inl false))
    else
    some (.inl (s7 (s8+1)))
   else
   some (.inr (.inr ()))) 0).bind λe7=>
  match e7 with
  | .inl w=>some w
  | .inr w=>κ5 w)
def a5L(a0:hold_Heap):Option Bool:=
 (a7J a0.S).bind λv1=>
 some ((((v1&&(decide ((a0.Roots.length:Int)≤20)))&&(decide ((a0.Cells.length:Int)≤20)))&&(decide ((a0.T.length:Int)≤20)))&&(decide ((a0.Q.L.length:Int)≤60)))
def b1X(a0:store_Obj):Option A5:=
 some (⟨a0.Serial,a0.Strong,a0.Weak,a0.Prog,a0.Started,a0.Fields⟩:A5)
def b0g(a0:store_Store):Option j1:=
 jn (λ(j10:List n0)=>
  some (⟨j10,a0.S.Last,a0.Serial⟩:j1)) (λκ9=>
  (lp (S:=Int × (List n0)) (E:=(List n0)) (λ((s12,s13):Int × (List n0))=>
   if (decide (s12<(a0.S.Cells.length:Int))) then
    (ix a0.S.Cells s12).bind λv16=>
    (b1X v16.Val).bind λv17=>
    (app 80 s13 [(⟨v16.State,v16.Gen,v17⟩:n0)]).bind λv18=>
    some (.inl (s7 (s12+1),v18))
   else
   some (.inr s13)) (0,[])).bind λe11=>
  κ9 e11)
def a7I(a0:List weak_Cell):Option (List p7):=
 jn (λ(j9:List p7)=>
  some j9) (λκ8=>
  (lp (S:=Int × (List p7)) (E:=(List p7)) (λ((s11,s12):Int × (List p7))=>
   if (decide (s11<(a0.length:Int))) then
    (ix a0 s11).bind λv15=>
    (app 24 s12 [(⟨v15.Target,v15.Intact,v15.Call⟩:p7)]).bind λv16=>
    some (.inl (s7 (s11+1),v16))
   else
   some (.inr s12)) (0,[])).bind λe10=>
  κ8 e10)
def b1Y(a0:List hash_Place):Option (List j2):=
 jn (λ(j9:List j2)=>
  some j9) (λκ8=>
  (lp (S:=Int × (List j2)) (E:=(List j2)) (λ((s11,s12):Int × (List j2))=>
   if (decide (s11<(a0.length:Int))) then
    (ix a0 s11).bind λv15=>
    (app 24 s12 [(⟨v15.State,v15.Key,v15.Val⟩:j2)]).bind λv16=>
    some (.inl (s7 (s11+1),v16))
   else
   some (.inr s12)) (0,[])).bind λe10=>
  κ8 e10)
def a7L(a0:queue_Queue_task_Task):Option x6:=
 jn (λ(j9:List p6)=>
  some (⟨j9,a0.Cap⟩:x6)) (λκ8=>
  (lp (S:=Int × (List p6)) (E:=(List p6)) (λ((s11,s12):Int × (List p6))=>
   if (decide (s11<(a0.L.length:Int))) then
    (ix a0.L s11).bind λv15=>
    (app 24 s12 [(⟨v15.Kind,v15.At,v15.Prog⟩:p6)]).bind λv16=>
    some (.inl (s7 (s11+1),v16))
   else
   some (.inr s12)) (0,[])).bind λe10=>
  κ8 e10)
def a16(a0:hold_Heap):Option g6:=
 (b0g a0.S).bind λv1=>
 (a7I a0.Cells).bind λv2=>
 (b1Y a0.T).bind λv3=>
 (a7L a0.Q).bind λv4=>
 some (⟨v1,a0.Roots,v2,v3,v4⟩:g6)
def J5(a0:j1):Option B1:=
 jn (λ(j9:List z8)=>
  some (⟨j9,a0.Last⟩:B1)) (λκ8=>
  (lp (S:=Int × (List z8)) (E:=(List z8)) (λ((s11,s12):Int × (List z8))=>
   if (decide (s11<(a0.Cells.length:Int))) then
    (ix a0.Cells s11).bind λv15=>
    (app 24 s12 [(⟨v15.State,v15.Gen,s11⟩:z8)]).bind λv16=>
    some (.inl (s7 (s11+1),v16))
   else
   some (.inr s12)) (0,[])).bind λe10=>
  κ8 e10)
def a7k(a0:B1):Option Bool:=
 if (((decide ((a0.Cells.length:Int) > 24))||(decide (a0.Last<0)))||(decide (a0.Last > 9))) then
  some false
 else
 jn (λ(_:Unit)=>
  some true) (λκ5=>
  (lp (S:=Int) (E:=Bool ⊕ Unit) (λ(s8:Int)=>
   if (decide (s8<(a0.Cells.length:Int))) then
    (ix a0.Cells s8).bind λv10=>
    if ((((decide (v10.State<0))||(decide (v10.State > 3)))||(decide (v10.Gen<0)))||(decide (v10.Gen > a0.Last))) then
     some (.inr (.inl false))
    else
    some (.inl (s7 (s8+1)))
   else
   some (.inr (.inr ()))) 0).bind λe7=>
  match e7 with
  | .inl w=>some w
  | .inr w=>κ5 w)
def a2C(a0:n0):Option Bool:=
 some ((a0.State==1)||(a0.State==2))
def a7l(a0:j1):Option Bool:=
 (J5 a0).bind λv1=>
 (a7k v1).bind λv2=>
 if ((!v2)||(decide (a0.Serial<0))) then
  some false
 else
 jn (λ(_:Unit)=>
  some true) (λκ22=>
  (lp (S:=Int) (E:=Bool ⊕ Unit) (λ(s25:Int)=>
   if (decide (s25<(a0.Cells.length:Int))) then
    jn (λ(_:Unit)=>
     some (.inl (s7 (s25+1)))) (λκ34=>
     (ix a0.Cells s25).bind λv36=>
     (a2C v36).bind λv37=>
     if (!v37) then
      if ((((((v36.Val.Serial != 0)||(v36.Val.Strong != 0))||(v36.Val.Weak != 0))||(v36.Val.Prog != 0))||v36.Val.Started)||((v36.Val.Fields.length:Int) != 0)) then
       some (.inr (.inl false))
      else
      κ34 ()
     else
     if (((((((decide (v36.Val.Serial<1))||(decide (v36.Val.Serial > a0.Serial)))||(decide (v36.Val.Strong<0)))||(decide (v36.Val.Weak<0)))||(decide (v36.Val.Prog<(-1))))||(decide (v36.Val.Prog > 5)))||(decide ((v36.Val.Fields.length:Int) > 4))) then
      some (.inr (.inl false))
     else
     (lp (S:=Int) (E:=Bool ⊕ Unit) (λ(s39:Int)=>
      if (decide (s39<s25)) then
       (ix a0.Cells s39).bind λv41=>
       (a2C v41).bind λv42=>
       if (v42&&(v41.Val.Serial==v36.Val.Serial)) then
        some (.inr (.inl false))
       else
       some (.inl (s7 (s39+1)))
      else
      some (.inr (.inr ()))) 0).bind λe38=>
     match e38 with
     | .inl w=>some (.inr (.inl w))
     | .inr w=>κ34 w)
   else
   some (.inr (.inr ()))) 0).bind λe24=>
  match e24 with
  | .inl w=>some w
  | .inr w=>κ22 w)
def a0e(a0:List j2)(a1:Int):Option Int:=
 jn (λ(_:Unit)=>
  some (-1)) (λκ5=>
  (lp (S:=Int) (E:=Int ⊕ Unit) (λ(s8:Int)=>
   if (decide (s8<(a0.length:Int))) then
    (ix a0 s8).bind λv10=>
    if ((v10.State==1)&&(v10.Key==a1)) then
     some (.inr (.inl s8))
    else
    some (.inl (s7 (s8+1)))
   else
   some (.inr (.inr ()))) 0).bind λe7=>
  match e7 with
  | .inl w=>some w
  | .inr w=>κ5 w)
def a9F(a0:Int)(a1:Int):Option Int:=
 if (decide (a0<1)) then
  some 0
 else
 (rem (s7 ((s7 (5*a1))+1)) a0).bind λv1=>
 if (decide (v1<0)) then
  some (s7 (v1+a0))
 else
 some v1
def a7o(a0:List j2):Option Bool:=
 if ((decide ((a0.length:Int)<1))||(decide ((a0.length:Int) > 8))) then
  some false
 else
 jn (λ(_:Unit)=>
  some true) (λκ22=>
  (lp (S:=Int) (E:=Bool ⊕ Unit) (λ(s25:Int)=>
   if (decide (s25<(a0.length:Int))) then
    jn (λ(_:Unit)=>
     some (.inl (s7 (s25+1)))) (λκ35=>
     (ix a0 s25).bind λv37=>
     if (((decide (v37.State<0))||(decide (v37.State > 2)))||((v37.State != 1)&&((v37.Key != 0)||(v37.Val != 0)))) then
      some (.inr (.inl false))
     else
     if (v37.State != 1) then
      κ35 ()
     else
     (a0e a0 v37.Key).bind λv38=>
     if (v38 != s25) then
      some (.inr (.inl false))
     else
     (a9F (a0.length:Int) v37.Key).bind λv39=>
     (lp (S:=Int) (E:=Bool ⊕ Unit) (λ(s41:Int)=>
      if (s41 != s25) then
       (ix a0 s41).bind λv43=>
       if (v43.State==0) then
        some (.inr (.inl false))
       else
       (rem (s7 (s41+1)) (a0.length:Int)).bind λv44=>
       some (.inl v44)
      else
      some (.inr (.inr ()))) v39).bind λe40=>
     match e40 with
     | .inl w=>some (.inr (.inl w))
     | .inr w=>κ35 w)
   else
   some (.inr (.inr ()))) 0).bind λe24=>
  match e24 with
  | .inl w=>some w
  | .inr w=>κ22 w)
def a1Z(a0:Int)(a1:Int):Option Int:=
 if ((((decide (a0<0))||(decide (a0 > 23)))||(decide (a1<0)))||(decide (a1 > 9))) then
  some 0
 else
 some (s7 ((s7 (1+a0))+(s7 (32*a1))))
def a4y(a0:Int):Option Bool:=
 if ((decide (a0<1))||(decide (a0 > 400))) then
  some false
 else
 (rem (s7 (a0-1)) 32).bind λv1=>
 (quo .i64 (s7 (a0-1)) 32).bind λv2=>
 (a1Z v1 v2).bind λv3=>
 some (v3==a0)
def a4x(a0:Int):Option Int:=
 (a4y a0).bind λv1=>
 if (!v1) then
  some (-1)
 else
 (rem (s7 (a0-1)) 32).bind λv2=>
 some v2
def b1O(a0:Int):Option Int:=
 (a4y a0).bind λv1=>
 if (!v1) then
  some (-1)
 else
 (quo .i64 (s7 (a0-1)) 32).bind λv2=>
 some v2
def K1(a0:B1)(a1:Int):Option (Int × Int):=
 if (a1==0) then
  some ((-1),2)
 else
 (a4x a1).bind λv1=>
 if ((decide (v1<0))||(decide (v1≥(a0.Cells.length:Int)))) then
  some ((-1),3)
 else
 (ix a0.Cells v1).bind λv2=>
 (b1O a1).bind λv3=>
 if ((v2.Gen != v3)||((v2.State != 1)&&(v2.State != 2))) then
  some ((-1),3)
 else
 some (v1,0)
def a9z(a0:B1)(a1:Int):Option (Int × Int):=
 (K1 a0 a1).bind λv1=>
 if (v1.2 != 0) then
  some (0,v1.2)
 else
 (ix a0.Cells v1.1).bind λv2=>
 if (v2.State==2) then
  some (0,3)
 else
 some (v2.Val,0)
def C6(a0:j1)(a1:Int):Option (A5 × Int):=
 (J5 a0).bind λv1=>
 (a9z v1 a1).bind λv2=>
 if (v2.2 != 0) then
  some ((⟨0,0,0,0,false,[]⟩:A5),v2.2)
 else
 (ix a0.Cells v2.1).bind λv3=>
 some (v3.Val,0)
def a7u(a0:g6):Option Bool:=
 jn (λ(_:Unit)=>
  some ((a0.Q.Cap==30)&&(decide ((a0.Q.L.length:Int)≤30)))) (λκ30=>
  (lp (S:=Int) (E:=Bool ⊕ Unit) (λ(s33:Int)=>
   if (decide (s33<(a0.Q.L.length:Int))) then
    jn (λ(_:Unit)=>
     some (.inl (s7 (s33+1)))) (λκ47=>
     (ix a0.Q.L s33).bind λv49=>
     if ((((v49.Kind != 1)&&(v49.Kind != 2))||(decide (v49.Prog<0)))||(decide (v49.Prog > 5))) then
      some (.inr (.inl false))
     else
     jn (λ(_:Unit)=>
      (C6 a0.S v49.At).bind λv56=>
      if (((v49.Kind==1)&&((v56.2 != 0)||(!v56.1.Started)))||((v49.Kind==2)&&((decide (v49.At<0))||(decide (v49.At > 5))))) then
       some (.inr (.inl false))
      else
      κ47 ()) (λκ54=>
      (lp (S:=Int) (E:=Bool ⊕ Unit) (λ(s58:Int)=>
       if (decide (s58<s33)) then
        (ix a0.Q.L s58).bind λv60=>
        if ((v60.Kind==v49.Kind)&&(v60.At==v49.At)) then
         some (.inr (.inl false))
        else
        some (.inl (s7 (s58+1)))
       else
       some (.inr (.inr ()))) 0).bind λe57=>
      match e57 with
      | .inl w=>some (.inr (.inl w))
      | .inr w=>κ54 w))
   else
   some (.inr (.inr ()))) 0).bind λe32=>
  match e32 with
  | .inl w=>some w
  | .inr w=>κ30 w)
def T2(a0:g6)(a1:Int):Option Bool:=
 (C6 a0.S a1).bind λv1=>
 some (v1.2==0)
def T3(a0:g6)(a1:Int):Option Bool:=
 (n9 ((a1==0)==false) false (T2 a0 a1)).bind λv1=>
 some ((a1==0)||v1)
def a2Z(a0:j1)(a1:List Int):Option (List Int):=
 (app 8 [] a1).bind λv1=>
 jn (λ(j36:List Int)=>
  some j36) (λκ35=>
  (lp (S:=Int × (List Int)) (E:=(List Int)) (λ((s38,s39):Int × (List Int))=>
   if (decide (s38<(s39.length:Int))) then
    jn (λ(j56:List Int)=>
     some (.inl (s7 (s38+1),j56))) (λκ55=>
     (lp (S:=Int × (List Int)) (E:=(List Int)) (λ((s58,s59):Int × (List Int))=>
      if (decide (s58 > 0)) then
       (J5 a0).bind λv62=>
       (ix s59 (s7 (s58-1))).bind λv63=>
       (K1 v62 v63).bind λv64=>
       (ix s59 s58).bind λv65=>
       (K1 v62 v65).bind λv66=>
       (n9 (((decide (v64.1<0))||(decide (v66.1<0)))==false) (⟨0,0,⟨0,0,0,0,false,[]⟩⟩:n0) (ix a0.Cells v64.1)).bind λv67=>
       (n9 (((decide (v64.1<0))||(decide (v66.1<0)))==false) (⟨0,0,⟨0,0,0,0,false,[]⟩⟩:n0) (ix a0.Cells v66.1)).bind λv68=>
       if (((decide (v64.1<0))||(decide (v66.1<0)))||(decide (v67.Val.Serial≤v68.Val.Serial))) then
        some (.inr s59)
       else
       (ix (s59.set (s58).toNat v63) (s7 (s58-1))).bind λv69=>
       some (.inl (s7 (s58-1),((s59.set (s58).toNat v63).set (s7 (s58-1)).toNat v65)))
      else
      some (.inr s59)) (s38,s39)).bind λe57=>
     κ55 e57)
   else
   some (.inr s39)) (1,v1)).bind λe37=>
  κ35 e37)
def a0d(a0:j1):Option (List Int):=
 jn (λ(j15:List Int)=>
  (a2Z a0 j15).bind λv16=>
  some v16) (λκ14=>
  (lp (S:=Int × (List Int)) (E:=(List Int)) (λ((s18,s19):Int × (List Int))=>
   if (decide (s18<(a0.Cells.length:Int))) then
    jn (λ(j26:List Int)=>
     some (.inl (s7 (s18+1),j26))) (λκ25=>
     (ix a0.Cells s18).bind λv27=>
     if (v27.State==1) then
      (a1Z s18 v27.Gen).bind λv28=>
      (app 8 s19 [v28]).bind λv29=>
      κ25 v29
     else
     κ25 s19)
   else
   some (.inr s19)) (0,[])).bind λe17=>
  κ14 e17)
def a9G(a0:List j2):Option (List Int):=
 jn (λ(j13:List Int)=>
  some j13) (λκ12=>
  (lp (S:=Int × (List Int)) (E:=(List Int)) (λ((s15,s16):Int × (List Int))=>
   if (decide (s15<(a0.length:Int))) then
    jn (λ(j22:List Int)=>
     some (.inl (s7 (s15+1),j22))) (λκ21=>
     (ix a0 s15).bind λv23=>
     if (v23.State==1) then
      (app 8 s16 [v23.Key]).bind λv24=>
      κ21 v24
     else
     κ21 s16)
   else
   some (.inr s16)) (0,[])).bind λe14=>
  κ12 e14)
def a7n(a0:List j2)(a1:Int):Option (Int × Int):=
 (a0e a0 a1).bind λv1=>
 if (decide (v1<0)) then
  some (0,9)
 else
 (ix a0 v1).bind λv2=>
 some (v2.Val,0)
def a2D(a0:List j2):Option (List r7):=
 (a9G a0).bind λv1=>
 jn (λ(j11:List r7)=>
  some j11) (λκ10=>
  (lp (S:=Int × (List r7)) (E:=(List r7)) (λ((s13,s14):Int × (List r7))=>
   if (decide (s13<(v1.length:Int))) then
    (ix v1 s13).bind λv17=>
    (a7n a0 v17).bind λv18=>
    (app 16 s14 [(⟨v17,v18.1⟩:r7)]).bind λv19=>
    some (.inl (s7 (s13+1),v19))
   else
   some (.inr s14)) (0,[])).bind λe12=>
  κ10 e12)
def a7t(a0:g6):Option Bool:=
 jn (λ(_:Unit)=>
  (a0d a0.S).bind λv8=>
  jn (λ(_:Unit)=>
   (a2D a0.T).bind λv30=>
   jn (λ(_:Unit)=>
    some true) (λκ37=>
    (lp (S:=Int) (E:=Bool ⊕ Unit) (λ(s40:Int)=>
     if (decide (s40<(v30.length:Int))) then
      (ix v30 s40).bind λv42=>
      (T2 a0 v42.Key).bind λv43=>
      (n9 ((!v43)==false) false (T2 a0 v42.Val)).bind λv44=>
      if ((!v43)||(!v44)) then
       some (.inr (.inl false))
      else
      some (.inl (s7 (s40+1)))
     else
     some (.inr (.inr ()))) 0).bind λe39=>
    match e39 with
    | .inl w=>some w
    | .inr w=>κ37 w)) (λκ28=>
   (lp (S:=Int) (E:=Bool ⊕ Unit) (λ(s46:Int)=>
    if (decide (s46<(v8.length:Int))) then
     jn (λ(_:Unit)=>
      some (.inl (s7 (s46+1)))) (λκ55=>
      (ix v8 s46).bind λv57=>
      (C6 a0.S v57).bind λv58=>
      (lp (S:=Int) (E:=Bool ⊕ Unit) (λ(s60:Int)=>
       if (decide (s60<(v58.1.Fields.length:Int))) then
        (ix v58.1.Fields s60).bind λv62=>
        (T3 a0 v62).bind λv63=>
        if (!v63) then
         some (.inr (.inl false))
        else
        some (.inl (s7 (s60+1)))
       else
       some (.inr (.inr ()))) 0).bind λe59=>
      match e59 with
      | .inl w=>some (.inr (.inl w))
      | .inr w=>κ55 w)
    else
    some (.inr (.inr ()))) 0).bind λe45=>
   match e45 with
   | .inl w=>some w
   | .inr w=>κ28 w)) (λκ6=>
  (lp (S:=Int) (E:=Bool ⊕ Unit) (λ(s65:Int)=>
   if (decide (s65<(a0.Roots.length:Int))) then
    (ix a0.Roots s65).bind λv67=>
    (T3 a0 v67).bind λv68=>
    if (!v68) then
     some (.inr (.inl false))
    else
    some (.inl (s7 (s65+1)))
   else
   some (.inr (.inr ()))) 0).bind λe64=>
  match e64 with
  | .inl w=>some w
  | .inr w=>κ6 w)
def a1y(a0:x6)(a1:Int):Option Bool:=
 jn (λ(_:Unit)=>
  some false) (λκ5=>
  (lp (S:=Int) (E:=Bool ⊕ Unit) (λ(s8:Int)=>
   if (decide (s8<(a0.L.length:Int))) then
    (ix a0.L s8).bind λv10=>
    if ((v10.Kind==2)&&(v10.At==a1)) then
     some (.inr (.inl true))
    else
    some (.inl (s7 (s8+1)))
   else
   some (.inr (.inr ()))) 0).bind λe7=>
  match e7 with
  | .inl w=>some w
  | .inr w=>κ5 w)
def a7s(a0:g6):Option Bool:=
 jn (λ(_:Unit)=>
  some true) (λκ9=>
  (lp (S:=Int) (E:=Bool ⊕ Unit) (λ(s12:Int)=>
   if (decide (s12<(a0.Cells.length:Int))) then
    (ix a0.Cells s12).bind λv14=>
    (J5 a0.S).bind λv15=>
    (K1 v15 v14.Target).bind λv16=>
    (n9 ((((((decide (v14.Call<(-1)))||(decide (v14.Call > 5)))||((v14.Target==0)&&v14.Intact))||((v14.Target != 0)&&(v16.2 != 0)))==false)&&(v14.Intact==true)) false (T2 a0 v14.Target)).bind λv17=>
    (n9 (((((((decide (v14.Call<(-1)))||(decide (v14.Call > 5)))||((v14.Target==0)&&v14.Intact))||((v14.Target != 0)&&(v16.2 != 0)))==false)&&(v14.Intact==true))&&((!v17)==false)) false (a1y a0.Q s12)).bind λv18=>
    if (((((decide (v14.Call<(-1)))||(decide (v14.Call > 5)))||((v14.Target==0)&&v14.Intact))||((v14.Target != 0)&&(v16.2 != 0)))||(v14.Intact&&((!v17)||v18))) then
     some (.inr (.inl false))
    else
    some (.inl (s7 (s12+1)))
   else
   some (.inr (.inr ()))) 0).bind λe11=>
  match e11 with
  | .inl w=>some w
  | .inr w=>κ9 w)
def a8C(a0:Int)(a1:Int):Option Int:=
 (a1Z a0 a1).bind λv1=>
 some v1
def a5o(a0:List p7)(a1:Int):Option Int:=
 jn (λ(j11:Int)=>
  some j11) (λκ10=>
  (lp (S:=Int × Int) (E:=Int) (λ((s13,s14):Int × Int)=>
   if (decide (s14<(a0.length:Int))) then
    jn (λ(j19:Int)=>
     some (.inl (j19,s7 (s14+1)))) (λκ18=>
     (ix a0 s14).bind λv20=>
     if ((v20.Target==a1)&&(a1 != 0)) then
      κ18 (s7 (s13+1))
     else
     κ18 s13)
   else
   some (.inr s13)) (0,0)).bind λe12=>
  κ10 e12)
def a7v(a0:g6):Option Bool:=
 jn (λ(_:Unit)=>
  some true) (λκ12=>
  (lp (S:=Int) (E:=Bool ⊕ Unit) (λ(s15:Int)=>
   if (decide (s15<(a0.S.Cells.length:Int))) then
    jn (λ(_:Unit)=>
     some (.inl (s7 (s15+1)))) (λκ20=>
     (ix a0.S.Cells s15).bind λv22=>
     if ((v22.State != 1)&&(v22.State != 2)) then
      κ20 ()
     else
     (a8C s15 v22.Gen).bind λv23=>
     (a5o a0.Cells v23).bind λv24=>
     if ((v22.Val.Weak != v24)||((v22.State==2)&&(((decide (v22.Val.Weak<1))||(decide ((v22.Val.Fields.length:Int) > 0)))||(v22.Val.Strong != 0)))) then
      some (.inr (.inl false))
     else
     κ20 ())
   else
   some (.inr (.inr ()))) 0).bind λe14=>
  match e14 with
  | .inl w=>some w
  | .inr w=>κ12 w)
def a6G(a0:x6):Option (List Int):=
 jn (λ(j13:List Int)=>
  some j13) (λκ12=>
  (lp (S:=Int × (List Int)) (E:=(List Int)) (λ((s15,s16):Int × (List Int))=>
   if (decide (s15<(a0.L.length:Int))) then
    jn (λ(j22:List Int)=>
     some (.inl (s7 (s15+1),j22))) (λκ21=>
     (ix a0.L s15).bind λv23=>
     if (v23.Kind==1) then
      (app 8 s16 [v23.At]).bind λv24=>
      κ21 v24
     else
     κ21 s16)
   else
   some (.inr s16)) (0,[])).bind λe14=>
  κ12 e14)
def a4D(a0:g6):Option (List Int):=
 jn (λ(j13:List Int)=>
  (a6G a0.Q).bind λv14=>
  (app 8 j13 v14).bind λv15=>
  some v15) (λκ12=>
  (lp (S:=Int × (List Int)) (E:=(List Int)) (λ((s17,s18):Int × (List Int))=>
   if (decide (s17<(a0.Roots.length:Int))) then
    jn (λ(j24:List Int)=>
     some (.inl (s7 (s17+1),j24))) (λκ23=>
     (ix a0.Roots s17).bind λv25=>
     if (v25 != 0) then
      (app 8 s18 [v25]).bind λv26=>
      κ23 v26
     else
     κ23 s18)
   else
   some (.inr s18)) (0,[])).bind λe16=>
  κ12 e16)
def Y0(a0:Int):Option Bool:=
 some (decide (a0≥12))
def a7r(a0:j1)(a1:Int):Option Bool:=
 (C6 a0 a1).bind λv1=>
 (Y0 v1.1.Strong).bind λv2=>
 some v2
def a1x(a0:List Int):Option (List Int):=
 jn (λ(j13:List Int)=>
  some j13) (λκ12=>
  (lp (S:=Int × (List Int)) (E:=(List Int)) (λ((s15,s16):Int × (List Int))=>
   if (decide (s15<(a0.length:Int))) then
    jn (λ(j22:List Int)=>
     some (.inl (s7 (s15+1),j22))) (λκ21=>
     (ix a0 s15).bind λv23=>
     if (v23 != 0) then
      (app 8 s16 [v23]).bind λv24=>
      κ21 v24
     else
     κ21 s16)
   else
   some (.inr s16)) (0,[])).bind λe14=>
  κ12 e14)
def a9C(a0:j1)(a1:Int):Option (List Int):=
 (C6 a0 a1).bind λv1=>
 if (v1.2 != 0) then
  some []
 else
 (a1x v1.1.Fields).bind λv2=>
 some v2
def Y1(a0:List Int)(a1:Int):Option Int:=
 jn (λ(j11:Int)=>
  some j11) (λκ10=>
  (lp (S:=Int × Int) (E:=Int) (λ((s13,s14):Int × Int)=>
   if (decide (s14<(a0.length:Int))) then
    jn (λ(j19:Int)=>
     some (.inl (j19,s7 (s14+1)))) (λκ18=>
     (ix a0 s14).bind λv20=>
     if ((v20==a1)&&(a1 != 0)) then
      κ18 (s7 (s13+1))
     else
     κ18 s13)
   else
   some (.inr s13)) (0,0)).bind λe12=>
  κ10 e12)
def b5k(a0:j1)(a1:Int):Option Int:=
 (a0d a0).bind λv1=>
 jn (λ(j11:Int)=>
  some j11) (λκ10=>
  (lp (S:=Int × Int) (E:=Int) (λ((s13,s14):Int × Int)=>
   if (decide (s14<(v1.length:Int))) then
    (ix v1 s14).bind λv17=>
    (a9C a0 v17).bind λv18=>
    (Y1 v18 a1).bind λv19=>
    some (.inl (s7 (s13+v19),s7 (s14+1)))
   else
   some (.inr s13)) (0,0)).bind λe12=>
  κ10 e12)
def a7p(a0:List j2)(a1:Int):Option Int:=
 (a2D a0).bind λv1=>
 jn (λ(j12:Int)=>
  some j12) (λκ11=>
  (lp (S:=Int × Int) (E:=Int) (λ((s14,s15):Int × Int)=>
   if (decide (s15<(v1.length:Int))) then
    jn (λ(j20:Int)=>
     some (.inl (j20,s7 (s15+1)))) (λκ19=>
     (ix v1 s15).bind λv21=>
     if ((v21.Val==a1)&&(a1 != 0)) then
      κ19 (s7 (s14+1))
     else
     κ19 s14)
   else
   some (.inr s14)) (0,0)).bind λe13=>
  κ11 e13)
def a7q(a0:j1)(a1:List j2)(a2:Int):Option Int:=
 (b5k a0 a2).bind λv1=>
 (a7p a1 a2).bind λv2=>
 some (s7 (v1+v2))
def a9K(a0:j1)(a1:List j2)(a2:Int):Option Int:=
 (C6 a0 a2).bind λv1=>
 if (v1.2 != 0) then
  some 0
 else
 (a7q a0 a1 a2).bind λv2=>
 some (s7 (v1.1.Strong-v2))
def a9J(a0:j1)(a1:List j2)(a2:List Int):Option Bool:=
 (a0d a0).bind λv1=>
 jn (λ(_:Unit)=>
  some true) (λκ9=>
  (lp (S:=Int) (E:=Bool ⊕ Unit) (λ(s12:Int)=>
   if (decide (s12<(v1.length:Int))) then
    (ix v1 s12).bind λv14=>
    (a7r a0 v14).bind λv15=>
    (n9 ((!v15)==true) 0 (a9K a0 a1 v14)).bind λv16=>
    (n9 ((!v15)==true) 0 (Y1 a2 v14)).bind λv17=>
    if ((!v15)&&(v16 != v17)) then
     some (.inr (.inl false))
    else
    some (.inl (s7 (s12+1)))
   else
   some (.inr (.inr ()))) 0).bind λe11=>
  match e11 with
  | .inl w=>some w
  | .inr w=>κ9 w)
def a4E(a0:g6):Option Bool:=
 (a7l a0.S).bind λv1=>
 (n9 ((!v1)==false) false (a7o a0.T)).bind λv2=>
 if ((((!v1)||(!v2))||((a0.Roots.length:Int) != 6))||((a0.Cells.length:Int) != 6)) then
  some false
 else
 (a7u a0).bind λv3=>
 (n9 (v3==true) false (a7t a0)).bind λv4=>
 (n9 ((v3&&v4)==true) false (a7s a0)).bind λv5=>
 (n9 (((v3&&v4)&&v5)==true) false (a7v a0)).bind λv6=>
 (n9 ((((v3&&v4)&&v5)&&v6)==true) [] (a4D a0)).bind λv7=>
 (n9 ((((v3&&v4)&&v5)&&v6)==true) false (a9J a0.S a0.T v7)).bind λv8=>
 some ((((v3&&v4)&&v5)&&v6)&&v8)
def a7K(a0:hold_Heap):Option Bool:=
 (a5L a0).bind λv1=>
 (n9 ((v1&&(decide (a0.S.Serial<1000000000)))==true) ⟨⟨[],0,0⟩,[],[],[],⟨[],0⟩⟩ (a16 a0)).bind λv2=>
 (n9 ((v1&&(decide (a0.S.Serial<1000000000)))==true) false (a4E v2)).bind λv3=>
 some ((v1&&(decide (a0.S.Serial<1000000000)))&&v3)
def a23(a0:g6):Option (List Int):=
 (a0d a0.S).bind λv1=>
 jn (λ(j16:List Int)=>
  some j16) (λκ15=>
  (lp (S:=Int × (List Int)) (E:=(List Int)) (λ((s18,s19):Int × (List Int))=>
   if (decide (s18<(v1.length:Int))) then
    jn (λ(j26:List Int)=>
     some (.inl (s7 (s18+1),j26))) (λκ25=>
     (ix v1 s18).bind λv27=>
     (C6 a0.S v27).bind λv28=>
     if (v28.1.Strong==0) then
      (app 8 s19 [v27]).bind λv29=>
      κ25 v29
     else
     κ25 s19)
   else
   some (.inr s19)) (0,[])).bind λe17=>
  κ15 e17)
def a3M(a0:g6):Option Bool:=
 (a23 a0).bind λv1=>
 some ((v1.length:Int)==0)
def a3k(a0:hold_Heap):Option Bool:=
 (a7K a0).bind λv1=>
 (n9 (v1==true) ⟨⟨[],0,0⟩,[],[],[],⟨[],0⟩⟩ (a16 a0)).bind λv2=>
 (n9 (v1==true) false (a3M v2)).bind λv3=>
 some (v1&&v3)
def a3f(a0:Int)(a1:Int):Option slab_Slab_store_Obj:=
 if ((((decide (a0<0))||(decide (a0 > 24)))||(decide (a1<0)))||(decide (a1 > 9))) then
  some (⟨[],0⟩:slab_Slab_store_Obj)
 else
 (mk 80 a0 (⟨0,0,⟨0,0,0,0,false,[]⟩⟩:slab_Cell_store_Obj)).bind λv1=>
 some (⟨v1,a1⟩:slab_Slab_store_Obj)
def b4w(a0:Int)(a1:Int):Option store_Store:=
 (a3f a0 a1).bind λv1=>
 some (⟨v1,0⟩:store_Store)
def b7u(a0:Int):Option (List weak_Cell):=
 if ((decide (a0<0))||(decide (a0 > 6))) then
  some []
 else
 (mk 24 a0 (⟨0,false,0⟩:weak_Cell)).bind λv1=>
 jn (λ(j9:List weak_Cell)=>
  some j9) (λκ8=>
  (lp (S:=Int × (List weak_Cell)) (E:=(List weak_Cell)) (λ((s11,s12):Int × (List weak_Cell))=>
   if (decide (s11<(v1.length:Int))) then
    (ix s12 s11).bind λv15=>
    some (.inl (s7 (s11+1),(s12.set (s11).toNat (⟨v15.Target,v15.Intact,(-1)⟩:weak_Cell))))
   else
   some (.inr s12)) (0,v1)).bind λe10=>
  κ8 e10)
def b6y(a0:Int):Option (List hash_Place):=
 if ((decide (a0<1))||(decide (a0 > 8))) then
  some []
 else
 (mk 24 a0 (⟨0,0,0⟩:hash_Place)).bind λv1=>
 some v1
def Z3(a0:Int):Option queue_Queue_task_Task:=
 some (⟨[],a0⟩:queue_Queue_task_Task)
def a97:Option queue_Queue_task_Task:=
 (Z3 30).bind λv1=>
 some v1
def b2p(a0:Int)(a1:Int)(a2:Int):Option hold_Heap:=
 if ((((((decide (a0<1))||(decide (a0 > 24)))||(decide (a1<0)))||(decide (a1 > 9)))||(decide (a2<1)))||(decide (a2 > 8))) then
  some (⟨⟨⟨[],0⟩,0⟩,[],[],[],⟨[],0⟩⟩:hold_Heap)
 else
 (b4w a0 a1).bind λv1=>
 (mk 8 6 (0:Int)).bind λv2=>
 (b7u 6).bind λv3=>
 (b6y a2).bind λv4=>
 (a97).bind λv5=>
 some (⟨v1,v2,v3,v4,v5⟩:hold_Heap)
def U1:Option g7:=
 some (⟨(some 178),0,5,6⟩:g7)
def N2:Option g7:=
 some (⟨(some 181),(-1),5,13⟩:g7)
def G4(a0:List g7):Option (List g7):=
 some a0
def U2:Option g7:=
 some (⟨(some 179),0,5,6⟩:g7)
def Q9:Option g7:=
 some (⟨(some 181),0,3,5⟩:g7)
def Q8:Option g7:=
 some (⟨(some 179),0,3,5⟩:g7)
def K7:Option g7:=
 some (⟨(some 181),(-1),5,6⟩:g7)
def T9:Option g7:=
 some (⟨(some 178),0,5,7⟩:g7)
def K6:Option g7:=
 some (⟨(some 179),(-1),5,6⟩:g7)
def U0:Option g7:=
 some (⟨(some 179),0,5,7⟩:g7)
def a4W:Option (List (Int × (List g7))):=
 (U1).bind λv1=>
 (N2).bind λv2=>
 (G4 [v1,(⟨(some 179),0,4,1⟩:g7),v2]).bind λv3=>
 (U2).bind λv4=>
 (G4 [v1,v4]).bind λv5=>
 (G4 [v1]).bind λv6=>
 (Q9).bind λv7=>
 (G4 [v1,v4,v7]).bind λv8=>
 (Q8).bind λv9=>
 (K7).bind λv10=>
 (G4 [v1,v9,v10]).bind λv11=>
 (T9).bind λv12=>
 (K6).bind λv13=>
 (G4 [v12,v13,v2]).bind λv14=>
 (U0).bind λv15=>
 (G4 [v1,v15]).bind λv16=>
 (G4 [v1,v13]).bind λv17=>
 (G4 []).bind λv18=>
 (G4 [(⟨(some 178),0,200,12⟩:g7)]).bind λv19=>
 some (m9 (m9 (m9 (m9 (m9 (m9 (m9 (m9 (m9 (m9 (m9 (m9 [] 1 v3) 2 v5) 3 v6) 4 v8) 5 v11) 6 v14) 7 v16) 8 v17) 9 v5) 10 v5) 11 v18) 12 v19)
def a8n(a0:code_Op):Option Int:=
 some a0.A
def a8o(a0:code_Op):Option Int:=
 some a0.B
def a8p(a0:code_Op):Option Int:=
 some a0.C
def a86(f:Fv)(a0:code_Op):Option Int:=
 if f=some 178 then a8n a0 else
 if f=some 179 then a8o a0 else
 if f=some 181 then a8p a0 else
 none
def a2L(a0:code_Op):Option Int:=
 (a4W).bind λv1=>
 if (!((y4 v1 a0.Kind).isSome)) then
  some 14
 else
 jn (λ(_:Unit)=>
  some 0) (λκ8=>
  (lp (S:=Int) (E:=Int ⊕ Unit) (λ(s11:Int)=>
   if (decide (s11<(((y4 v1 a0.Kind).getD ([]:List g7)).length:Int))) then
    (ix ((y4 v1 a0.Kind).getD ([]:List g7)) s11).bind λv13=>
    (a86 v13.part a0).bind λv14=>
    if ((decide (v14<v13.least))||(decide (v14 > v13.most))) then
     some (.inr (.inl v13.e))
    else
    some (.inl (s7 (s11+1)))
   else
   some (.inr (.inr ()))) 0).bind λe10=>
  match e10 with
  | .inl w=>some w
  | .inr w=>κ8 w)
def a1P:Option (List (Int × Fv)):=
 some (m9 (m9 (m9 (m9 (m9 (m9 (m9 (m9 (m9 (m9 [] 1 (some 96)) 2 (some 97)) 3 (some 98)) 4 (some 99)) 5 (some 100)) 6 (some 101)) 7 (some 102)) 8 (some 103)) 9 (some 104)) 10 (some 105))
def b51(a0:Int):Option ((List Int) × Int):=
 if ((decide (a0<0))||(decide (a0 > 4))) then
  some ([],1)
 else
 (mk 8 a0 (0:Int)).bind λv1=>
 some (v1,0)
def G2(a0:Int):Option Bool:=
 some ((decide (a0≥(-1)))&&(decide (a0<6)))
def K3(a0:slab_Slab_store_Obj):Option slab_Slab_store_Obj:=
 some a0
def p9(a0:List slab_Cell_store_Obj):Option (List slab_Cell_store_Obj):=
 app 80 [] a0
def B3(a0:slab_Slab_store_Obj)(a1:Int)(a2:slab_Cell_store_Obj):Option slab_Slab_store_Obj:=
 (p9 a0.Cells).bind λv1=>
 (ix v1 a1).bind λv2=>
 some (⟨(v1.set (a1).toNat a2),a0.Last⟩:slab_Slab_store_Obj)
def V6(a0:Int)(a1:Int):Option Int:=
 if ((((decide (a0<0))||(decide (a0≥24)))||(decide (a1<0)))||(decide (a1 > 9))) then
  some 0
 else
 some (s7 ((s7 (1+(s7 (a0*1))))+(s7 (a1*32))))
def G3(a0:slab_Slab_store_Obj)(a1:store_Obj):Option (slab_Slab_store_Obj × Int × Int):=
 jn (λ(_:Unit)=>
  some (a0,0,4)) (λκ9=>
  (K3 a0).bind λv11=>
  (lp (S:=Int) (E:=(slab_Slab_store_Obj × Int × Int) ⊕ Unit) (λ(s13:Int)=>
   if (decide (s13<(v11.Cells.length:Int))) then
    (ix v11.Cells s13).bind λv15=>
    if ((v15.State==0)==true) then
     (ix a0.Cells s13).bind λv16=>
     (B3 a0 s13 (⟨1,v16.Gen,a1⟩:slab_Cell_store_Obj)).bind λv17=>
     (V6 s13 v16.Gen).bind λv18=>
     some (.inr (.inl (v17,v18,0)))
    else
    some (.inl (s7 (s13+1)))
   else
   some (.inr (.inr ()))) 0).bind λe12=>
  match e12 with
  | .inl w=>some w
  | .inr w=>κ9 w)
def N8(a0:store_Store)(a1:Int)(a2:Int):Option (store_Store × Int × Int):=
 (b51 a1).bind λv1=>
 if (v1.2 != 0) then
  some (a0,0,v1.2)
 else
 (G2 a2).bind λv2=>
 if (!v2) then
  some (a0,0,13)
 else
 (G3 a0.S (⟨s7 (a0.Serial+1),0,0,a2,false,v1.1⟩:store_Obj)).bind λv3=>
 if (v3.2.2 != 0) then
  some (a0,0,v3.2.2)
 else
 some ((⟨v3.1,s7 (a0.Serial+1)⟩:store_Store),v3.2.1,0)
def a0Q(a0:Int):Option (Int × Int × Bool):=
 if (decide (a0<1)) then
  some ((-1),(-1),false)
 else
 (rem (s7 (a0-1)) 32).bind λv1=>
 (quo .i64 v1 1).bind λv2=>
 (quo .i64 (s7 (a0-1)) 32).bind λv3=>
 if ((decide (v2≥24))||(decide (v3 > 9))) then
  some ((-1),(-1),false)
 else
 some (v2,v3,true)
def a1U(a0:Int):Option Int:=
 (a0Q a0).bind λv1=>
 some v1.1
def a2Q(a0:Int):Option Int:=
 (a0Q a0).bind λv1=>
 some v1.2.1
def o9(a0:slab_Slab_store_Obj)(a1:Int):Option (Int × Int):=
 if (a1==0) then
  some ((-1),2)
 else
 (a1U a1).bind λv1=>
 if ((decide (v1<0))||(decide (v1≥(a0.Cells.length:Int)))) then
  some ((-1),3)
 else
 (ix a0.Cells v1).bind λv2=>
 (a2Q a1).bind λv3=>
 if ((v2.Gen != v3)||((v2.State != 1)&&(v2.State != 2))) then
  some ((-1),3)
 else
 some (v1,0)
def C2(a0:slab_Slab_store_Obj)(a1:Int):Option (store_Obj × Int):=
 (o9 a0 a1).bind λv1=>
 if (v1.2 != 0) then
  some ((⟨0,0,0,0,false,[]⟩:store_Obj),v1.2)
 else
 (ix a0.Cells v1.1).bind λv2=>
 if (v2.State==2) then
  some ((⟨0,0,0,0,false,[]⟩:store_Obj),3)
 else
 some (v2.Val,0)
def p8(a0:store_Store)(a1:Int):Option (store_Obj × Int):=
 (C2 a0.S a1).bind λv1=>
 some (v1.1,v1.2)
def V9(a0:hold_Heap)(a1:Int):Option Bool:=
 (p8 a0.S a1).bind λv1=>
 some (v1.2==0)
def F0(a0:hold_Heap)(a1:Int):Option Bool:=
 (n9 ((a1==0)==false) false (V9 a0 a1)).bind λv1=>
 some ((a1==0)||v1)
def E1(a0:Int):Option Bool:=
 some (decide (a0≥12))
def a2M(a0:Int):Option (Int × Int):=
 (E1 a0).bind λv1=>
 if v1 then
  some (12,0)
 else
 some (s7 ((if 0 > a0 then 0 else a0)+1),0)
def a64(a0:Int):Option Int:=
 (a2M a0).bind λv1=>
 some v1.1
def H8(a0:slab_Slab_store_Obj)(a1:Int)(a2:store_Obj):Option (slab_Slab_store_Obj × Int):=
 (o9 a0 a1).bind λv1=>
 if (v1.2 != 0) then
  some (a0,v1.2)
 else
 (ix a0.Cells v1.1).bind λv2=>
 (B3 a0 v1.1 (⟨v2.State,v2.Gen,a2⟩:slab_Cell_store_Obj)).bind λv3=>
 some (v3,0)
def H9(a0:store_Store)(a1:Int)(a2:store_Obj):Option (store_Store × Int):=
 (H8 a0.S a1 a2).bind λv1=>
 some ((⟨v1.1,a0.Serial⟩:store_Store),v1.2)
def P4(a0:hold_Heap)(a1:Int):Option hold_Heap:=
 (p8 a0.S a1).bind λv1=>
 if (v1.2==0) then
  (a64 v1.1.Strong).bind λv2=>
  (H9 a0.S a1 (⟨v1.1.Serial,v2,v1.1.Weak,v1.1.Prog,v1.1.Started,v1.1.Fields⟩:store_Obj)).bind λv3=>
  some (⟨v3.1,a0.Roots,a0.Cells,a0.T,a0.Q⟩:hold_Heap)
 else
 some a0
def V7(a0:hold_Heap)(a1:Int):Option hold_Heap:=
 (P4 a0 a1).bind λv1=>
 some v1
def E8(a0:List Int):Option (List Int):=
 app 8 [] a0
def R2(a0:F4)(a1:hold_Heap):Option hold_Heap:=
 (E8 a1.Roots).bind λv1=>
 (ix v1 a0.r).bind λv2=>
 some (⟨a1.S,(v1.set (a0.r).toNat a0.h),a1.Cells,a1.T,a1.Q⟩:hold_Heap)
def a1q(a0:Int):Option (Int × Int):=
 (E1 a0).bind λv1=>
 if v1 then
  some (12,0)
 else
 if (decide (a0<1)) then
  some (0,11)
 else
 some (s7 (a0-1),0)
def b0p(a0:Int):Option (Int × Int):=
 (a1q a0).bind λv1=>
 some (v1.1,v1.2)
def a0R(a0:Int):Option Int:=
 (b0p a0).bind λv1=>
 if (v1.2 != 0) then
  some a0
 else
 some v1.1
def J8(a0:hold_Heap)(a1:Int):Option hold_Heap:=
 (p8 a0.S a1).bind λv1=>
 if (v1.2==0) then
  (a0R v1.1.Strong).bind λv2=>
  (H9 a0.S a1 (⟨v1.1.Serial,v2,v1.1.Weak,v1.1.Prog,v1.1.Started,v1.1.Fields⟩:store_Obj)).bind λv3=>
  some (⟨v3.1,a0.Roots,a0.Cells,a0.T,a0.Q⟩:hold_Heap)
 else
 some a0
def D7(a0:hold_Heap)(a1:Int):Option hold_Heap:=
 (J8 a0 a1).bind λv1=>
 some v1
def G7(a0:hold_Heap)(a1:Int)(a2:Int)(a3:F4):Option hold_Heap:=
 (V7 a0 a2).bind λv1=>
 (R2 a3 v1).bind λv2=>
 (D7 v2 a1).bind λv3=>
 some v3
def a7e(a0:hold_Heap)(a1:Int)(a2:Int):Option (hold_Heap × Int):=
 if ((decide (a1<0))||(decide (a1≥(a0.Roots.length:Int)))) then
  some (a0,6)
 else
 (F0 a0 a2).bind λv1=>
 if (!v1) then
  some (a0,3)
 else
 (ix a0.Roots a1).bind λv2=>
 (G7 a0 v2 a2 (⟨a1,a2⟩:F4)).bind λv3=>
 some (v3,0)
def y7(a0:n8)(a1:Int)(a2:Int):Option (hold_Heap × Int):=
 if (a2 != 0) then
  some (a0.x,a2)
 else
 (a7e a0.x a0.o.A a1).bind λv1=>
 some (v1.1,v1.2)
def O2(a0:n8):Option (hold_Heap × Int):=
 (N8 a0.x.S a0.o.B a0.o.C).bind λv1=>
 if (v1.2.2 != 0) then
  some (a0.x,v1.2.2)
 else
 (y7 (⟨⟨v1.1,a0.x.Roots,a0.x.Cells,a0.x.T,a0.x.Q⟩,a0.o⟩:n8) v1.2.1 0).bind λv2=>
 some (v2.1,v2.2)
def I4(a0:hold_Heap)(a1:Int):Option Int:=
 if ((decide (a1<0))||(decide (a1≥(a0.Roots.length:Int)))) then
  some 0
 else
 (ix a0.Roots a1).bind λv1=>
 some v1
def F6(a0:n8):Option (hold_Heap × Int):=
 (I4 a0.x a0.o.B).bind λv1=>
 (y7 a0 v1 0).bind λv2=>
 some (v2.1,v2.2)
def U8(a0:n8):Option (hold_Heap × Int):=
 (y7 a0 0 0).bind λv1=>
 some (v1.1,v1.2)
def I7(a0:hold_Heap)(a1:Int):Option (Int × Int):=
 (I4 a0 a1).bind λv1=>
 if (v1==0) then
  some (0,2)
 else
 some (v1,0)
def a3S(a0:List Int)(a1:Int):Option Bool:=
 some ((decide (a1≥0))&&(decide (a1<(a0.length:Int))))
def a6Z(a0:List Int)(a1:Int):Option (Int × Int):=
 (a3S a0 a1).bind λv1=>
 if (!v1) then
  some (0,5)
 else
 (ix a0 a1).bind λv2=>
 some (v2,0)
def M8(a0:store_Store)(a1:Int)(a2:Int):Option (Int × Int):=
 (p8 a0 a1).bind λv1=>
 if (v1.2 != 0) then
  some (0,v1.2)
 else
 (a6Z v1.1.Fields a2).bind λv2=>
 some (v2.1,v2.2)
def U9(a0:n8):Option (hold_Heap × Int):=
 (I7 a0.x a0.o.B).bind λv1=>
 if (v1.2 != 0) then
  some (a0.x,v1.2)
 else
 (M8 a0.x.S v1.1 a0.o.C).bind λv2=>
 (y7 a0 v2.1 v2.2).bind λv3=>
 some (v3.1,v3.2)
def b3g(a0:List Int)(a1:Int)(a2:Int):Option ((List Int) × Int):=
 (a3S a0 a1).bind λv1=>
 if (!v1) then
  some (a0,5)
 else
 (mk 8 (a0.length:Int) (0:Int)).bind λv2=>
 (cpy v2 a0).bind λv3=>
 (ix v3 a1).bind λv4=>
 some ((v3.set (a1).toNat a2),0)
def a7A(a0:store_Store)(a1:Int)(a2:Int)(a3:Int):Option (store_Store × Int):=
 (p8 a0 a1).bind λv1=>
 if (v1.2 != 0) then
  some (a0,v1.2)
 else
 (b3g v1.1.Fields a2 a3).bind λv2=>
 if (v2.2 != 0) then
  some (a0,v2.2)
 else
 (H9 a0 a1 (⟨v1.1.Serial,v1.1.Strong,v1.1.Weak,v1.1.Prog,v1.1.Started,v2.1⟩:store_Obj)).bind λv3=>
 some (v3.1,v3.2)
def Z1(a0:E4)(a1:hold_Heap):Option hold_Heap:=
 (a7A a1.S a0.h a0.k a0.v).bind λv1=>
 some (⟨v1.1,a1.Roots,a1.Cells,a1.T,a1.Q⟩:hold_Heap)
def F5(a0:hold_Heap)(a1:Int)(a2:Int)(a3:E4):Option hold_Heap:=
 (V7 a0 a2).bind λv1=>
 (Z1 a3 v1).bind λv2=>
 (D7 v2 a1).bind λv3=>
 some v3
def a1r(a0:hold_Heap)(a1:Int)(a2:Int)(a3:Int):Option (hold_Heap × Int):=
 (M8 a0.S a1 a2).bind λv1=>
 if (v1.2 != 0) then
  some (a0,v1.2)
 else
 (F0 a0 a3).bind λv2=>
 if (!v2) then
  some (a0,3)
 else
 (F5 a0 v1.1 a3 (⟨a1,a2,a3⟩:E4)).bind λv3=>
 some (v3,0)
def R3(a0:n8):Option (hold_Heap × Int):=
 (I7 a0.x a0.o.A).bind λv1=>
 if (v1.2 != 0) then
  some (a0.x,v1.2)
 else
 (I4 a0.x a0.o.C).bind λv2=>
 (a1r a0.x v1.1 a0.o.B v2).bind λv3=>
 some (v3.1,v3.2)
def a7C(a0:queue_Queue_task_Task)(a1:Int):Option (queue_Queue_task_Task × Int):=
 some (a0,a1)
def a1C(a0:queue_Queue_task_Task)(a1:Int):Option Bool:=
 jn (λ(_:Unit)=>
  some false) (λκ6=>
  (a7C a0 2).bind λv8=>
  (lp (S:=Int) (E:=Bool ⊕ Unit) (λ(s10:Int)=>
   if (decide (s10<(v8.1.L.length:Int))) then
    (ix v8.1.L s10).bind λv12=>
    if ((v12.Kind==v8.2)==true) then
     if (v12.At==a1) then
      some (.inr (.inl true))
     else
     some (.inl (s7 (s10+1)))
    else
    some (.inl (s7 (s10+1)))
   else
   some (.inr (.inr ()))) 0).bind λe9=>
  match e9 with
  | .inl w=>some w
  | .inr w=>κ6 w)
def a4O(a0:List weak_Cell)(a1:Int):Option Bool:=
 some ((decide (a1≥0))&&(decide (a1<(a0.length:Int))))
def W9(a0:List weak_Cell):Option (List weak_Cell):=
 (mk 24 (a0.length:Int) (⟨0,false,0⟩:weak_Cell)).bind λv1=>
 (cpy v1 a0).bind λv2=>
 some v2
def a62(a0:List weak_Cell)(a1:Int)(a2:Int)(a3:Int):Option ((List weak_Cell) × Int × Int):=
 (a4O a0 a1).bind λv1=>
 if (!v1) then
  some (a0,0,7)
 else
 (W9 a0).bind λv2=>
 (ix v2 a1).bind λv3=>
 (ix a0 a1).bind λv4=>
 some ((v2.set (a1).toNat (⟨a2,(a2 != 0),a3⟩:weak_Cell)),v4.Target,0)
def W0(a0:hold_Heap)(a1:Int)(a2:Int):Option hold_Heap:=
 (o9 a0.S.S a1).bind λv1=>
 if (v1.2==0) then
  (ix a0.S.S.Cells v1.1).bind λv2=>
  (H9 a0.S a1 (⟨v2.Val.Serial,v2.Val.Strong,s7 (v2.Val.Weak+a2),v2.Val.Prog,v2.Val.Started,v2.Val.Fields⟩:store_Obj)).bind λv3=>
  some (⟨v3.1,a0.Roots,a0.Cells,a0.T,a0.Q⟩:hold_Heap)
 else
 some a0
def K2(a0:slab_Slab_store_Obj)(a1:Int):Option (slab_Slab_store_Obj × Int):=
 (o9 a0 a1).bind λv1=>
 if (v1.2 != 0) then
  some (a0,v1.2)
 else
 (ix a0.Cells v1.1).bind λv2=>
 if (v2.Gen==a0.Last) then
  (B3 a0 v1.1 (⟨3,v2.Gen,⟨0,0,0,0,false,[]⟩⟩:slab_Cell_store_Obj)).bind λv3=>
  some (v3,0)
 else
 (B3 a0 v1.1 (⟨0,s7 (v2.Gen+1),⟨0,0,0,0,false,[]⟩⟩:slab_Cell_store_Obj)).bind λv4=>
 some (v4,0)
def a0a(a0:hold_Heap)(a1:Int):Option hold_Heap:=
 (W0 a0 a1 (-1)).bind λv1=>
 (o9 v1.S.S a1).bind λv2=>
 if (v2.2 != 0) then
  some v1
 else
 (ix v1.S.S.Cells v2.1).bind λv3=>
 if ((v3.State==2)&&(v3.Val.Weak==0)) then
  (K2 v1.S.S a1).bind λv4=>
  some (⟨⟨v4.1,v1.S.Serial⟩,v1.Roots,v1.Cells,v1.T,v1.Q⟩:hold_Heap)
 else
 some v1
def P3(a0:hold_Heap)(a1:Int)(a2:Int)(a3:Int):Option (hold_Heap × Int):=
 (n9 (((decide (a1<0))||(decide (a1≥(a0.Cells.length:Int))))==false) false (a1C a0.Q a1)).bind λv1=>
 if (((decide (a1<0))||(decide (a1≥(a0.Cells.length:Int))))||v1) then
  some (a0,7)
 else
 (F0 a0 a2).bind λv2=>
 if (!v2) then
  some (a0,3)
 else
 (a62 a0.Cells a1 a2 a3).bind λv3=>
 (W0 (⟨a0.S,a0.Roots,v3.1,a0.T,a0.Q⟩:hold_Heap) a2 1).bind λv4=>
 (a0a v4 v3.2.1).bind λv5=>
 some (v5,0)
def O3(a0:n8):Option (hold_Heap × Int):=
 if (a0.o.B==(-1)) then
  (P3 a0.x a0.o.A 0 a0.o.C).bind λv1=>
  some (v1.1,v1.2)
 else
 (I7 a0.x a0.o.B).bind λv2=>
 if (v2.2 != 0) then
  some (a0.x,v2.2)
 else
 (P3 a0.x a0.o.A v2.1 a0.o.C).bind λv3=>
 some (v3.1,v3.2)
def a4N(a0:List weak_Cell)(a1:Int):Option (Int × Int):=
 (a4O a0 a1).bind λv1=>
 if (!v1) then
  some (0,7)
 else
 (ix a0 a1).bind λv2=>
 if ((v2.Target==0)||(!v2.Intact)) then
  some (0,9)
 else
 some (v2.Target,0)
def R9(a0:n8):Option (hold_Heap × Int):=
 (a4N a0.x.Cells a0.o.B).bind λv1=>
 (y7 a0 v1.1 v1.2).bind λv2=>
 some (v2.1,v2.2)
def a2z(a0:Int)(a1:Int):Option (Int × Int):=
 some (a0,a1)
def X6(a0:Int)(a1:Int):Option Int:=
 if (decide (a0<1)) then
  some 0
 else
 (rem (s7 ((s7 (5*a1))+1)) a0).bind λv1=>
 if (decide (v1<0)) then
  some (s7 (v1+a0))
 else
 some v1
def J4(a0:List hash_Place)(a1:Int):Option Int:=
 jn (λ(_:Unit)=>
  some (-1)) (λκ8=>
  (a2z (a0.length:Int) a1).bind λv10=>
  (lp (S:=Int) (E:=Int ⊕ Unit) (λ(s12:Int)=>
   if (decide (s12<v10.1)) then
    (X6 v10.1 v10.2).bind λv14=>
    (rem (s7 (v14+s12)) v10.1).bind λv15=>
    (ix a0 v15).bind λv16=>
    if (v16.State==0) then
     some (.inr (.inr ()))
    else
    if ((v16.State==1)&&(v16.Key==a1)) then
     some (.inr (.inl v15))
    else
    some (.inl (s7 (s12+1)))
   else
   some (.inr (.inr ()))) 0).bind λe11=>
  match e11 with
  | .inl w=>some w
  | .inr w=>κ8 w)
def I6(a0:List hash_Place)(a1:Int):Option (Int × Int):=
 (J4 a0 a1).bind λv1=>
 if (decide (v1<0)) then
  some (0,9)
 else
 (ix a0 v1).bind λv2=>
 some (v2.Val,0)
def C3(a0:List hash_Place):Option (List hash_Place):=
 app 24 [] a0
def a0z(a0:List hash_Place)(a1:Int)(a2:hash_Place):Option (List hash_Place):=
 (C3 a0).bind λv1=>
 (ix v1 a1).bind λv2=>
 some (v1.set (a1).toNat a2)
def T1(a0:List hash_Place)(a1:Int):Option ((List hash_Place) × Int × Int):=
 (J4 a0 a1).bind λv1=>
 if (decide (v1<0)) then
  some (a0,0,9)
 else
 (a0z a0 v1 (⟨2,0,0⟩:hash_Place)).bind λv2=>
 (ix a0 v1).bind λv3=>
 some (v2,v3.Val,0)
def a6q(a0:List hash_Place)(a1:Int)(a2:Int):Option ((List hash_Place) × Int):=
 (J4 a0 a1).bind λv1=>
 if (decide (v1≥0)) then
  (a0z a0 v1 (⟨1,a1,a2⟩:hash_Place)).bind λv2=>
  some (v2,0)
 else
 jn (λ(_:Unit)=>
  some (a0,8)) (λκ11=>
  (a2z (a0.length:Int) a1).bind λv13=>
  (lp (S:=Int) (E:=((List hash_Place) × Int) ⊕ Unit) (λ(s15:Int)=>
   if (decide (s15<v13.1)) then
    (X6 v13.1 v13.2).bind λv17=>
    (rem (s7 (v17+s15)) v13.1).bind λv18=>
    (ix a0 v18).bind λv19=>
    if (v19.State != 1) then
     (a0z a0 v18 (⟨1,a1,a2⟩:hash_Place)).bind λv20=>
     some (.inr (.inl (v20,0)))
    else
    some (.inl (s7 (s15+1)))
   else
   some (.inr (.inr ()))) 0).bind λe14=>
  match e14 with
  | .inl w=>some w
  | .inr w=>κ11 w)
def P1(a0:List hash_Place)(a1:Int)(a2:Int):Option ((List hash_Place) × Int × Int):=
 if (a1==0) then
  some (a0,0,2)
 else
 (I6 a0 a1).bind λv1=>
 if (a2==0) then
  (T1 a0 a1).bind λv2=>
  some (v2.1,v1.1,0)
 else
 (a6q a0 a1 a2).bind λv3=>
 if (v3.2 != 0) then
  some (a0,0,v3.2)
 else
 some (v3.1,v1.1,0)
def R1(a0:F3)(a1:hold_Heap):Option hold_Heap:=
 some (⟨a1.S,a1.Roots,a1.Cells,a0.t,a1.Q⟩:hold_Heap)
def D4(a0:hold_Heap)(a1:Int)(a2:Int)(a3:F3):Option hold_Heap:=
 (V7 a0 a2).bind λv1=>
 (R1 a3 v1).bind λv2=>
 (D7 v2 a1).bind λv3=>
 some v3
def a0A(a0:hold_Heap)(a1:Int)(a2:Int):Option (hold_Heap × Int):=
 if (a1==0) then
  some (a0,2)
 else
 (F0 a0 a1).bind λv1=>
 (n9 ((!v1)==false) false (F0 a0 a2)).bind λv2=>
 if ((!v1)||(!v2)) then
  some (a0,3)
 else
 (P1 a0.T a1 a2).bind λv3=>
 if (v3.2.2 != 0) then
  some (a0,v3.2.2)
 else
 (D4 a0 v3.2.1 a2 (⟨v3.1⟩:F3)).bind λv4=>
 some (v4,0)
def V0(a0:n8):Option (hold_Heap × Int):=
 (I7 a0.x a0.o.A).bind λv1=>
 if (v1.2 != 0) then
  some (a0.x,v1.2)
 else
 (I4 a0.x a0.o.B).bind λv2=>
 (a0A a0.x v1.1 v2).bind λv3=>
 some (v3.1,v3.2)
def b0s(a0:List hash_Place)(a1:Int):Option (Int × Int):=
 (I6 a0 a1).bind λv1=>
 some (v1.1,v1.2)
def X8(a0:n8):Option (hold_Heap × Int):=
 (I7 a0.x a0.o.B).bind λv1=>
 if (v1.2 != 0) then
  some (a0.x,v1.2)
 else
 (b0s a0.x.T v1.1).bind λv2=>
 (y7 a0 v2.1 v2.2).bind λv3=>
 some (v3.1,v3.2)
def L6(a0:n8):Option (hold_Heap × Int):=
 some (a0.x,0)
def b1G(f:Fv)(a0:n8):Option (hold_Heap × Int):=
 if f=some 96 then O2 a0 else
 if f=some 97 then F6 a0 else
 if f=some 98 then U8 a0 else
 if f=some 99 then U9 a0 else
 if f=some 100 then R3 a0 else
 if f=some 101 then O3 a0 else
 if f=some 102 then R9 a0 else
 if f=some 103 then V0 a0 else
 if f=some 104 then X8 a0 else
 if f=some 105 then L6 a0 else
 none
def Z6(a0:Int):Option Bool:=
 some (a0 != a0)
def a19(a0:Int)(a1:Int):Option Int:=
 (Z6 a0).bind λv1=>
 (Z6 a1).bind λv2=>
 if v1 then
  if v2 then
   some 0
  else
  some (-1)
 else
 if v2 then
  some 1
 else
 if (decide (a0<a1)) then
  some (-1)
 else
 if (decide (a0 > a1)) then
  some 1
 else
 some 0
def a2w(a0:Int)(a1:Int)(a2:List (Int × Int)):Option Int:=
 (a19 ((y4 a2 a0).getD (0:Int)) ((y4 a2 a1).getD (0:Int))).bind λv1=>
 some v1
def E0(a0:store_Store):Option (List Int):=
 jn (λ((j18,j19):(List (Int × Int)) × (List Int))=>
  (b0Z (λp q=>a2w p q j18) j19).bind λv21=>
  some v21) (λκ17=>
  (lp (S:=Int × (List (Int × Int)) × (List Int)) (E:=((List (Int × Int)) × (List Int))) (λ((s23,s24,s25):Int × (List (Int × Int)) × (List Int))=>
   if (decide (s23<(a0.S.Cells.length:Int))) then
    jn (λ((j32,j33):(List (Int × Int)) × (List Int))=>
     some (.inl (s7 (s23+1),j32,j33))) (λκ31=>
     (ix a0.S.Cells s23).bind λv35=>
     if (v35.State==1) then
      (V6 s23 v35.Gen).bind λv36=>
      (app 8 s25 [v36]).bind λv37=>
      κ31 ((m9 s24 v36 v35.Val.Serial),v37)
     else
     κ31 (s24,s25))
   else
   some (.inr (s24,s25))) (0,[],[])).bind λe22=>
  κ17 e22)
def a0H(a0:hold_Heap):Option (List Int):=
 jn (λ(j16:List Int)=>
  some j16) (λκ15=>
  (E0 a0.S).bind λv17=>
  (lp (S:=Int × (List Int)) (E:=(List Int)) (λ((s19,s20):Int × (List Int))=>
   if (decide (s19<(v17.length:Int))) then
    jn (λ(j27:List Int)=>
     some (.inl (s7 (s19+1),j27))) (λκ26=>
     (ix v17 s19).bind λv28=>
     (p8 a0.S v28).bind λv29=>
     if (v29.1.Strong==0) then
      (app 8 s20 [v28]).bind λv30=>
      κ26 v30
     else
     κ26 s20)
   else
   some (.inr s20)) (0,[])).bind λe18=>
  κ15 e18)
def I9(a0:store_Obj):Option Bool:=
 some ((decide (a0.Prog≥0))&&(!a0.Started))
def O4(a0:queue_Queue_task_Task):Option Int:=
 some (a0.L.length:Int)
def M5(a0:List task_Task)(a1:Int)(a2:Int):Option (List task_Task):=
 (cut a0 a1 a2).bind λv1=>
 some v1
def M4(a0:queue_Queue_task_Task)(a1:task_Task):Option (queue_Queue_task_Task × Int):=
 (O4 a0).bind λv1=>
 if (decide (v1≥a0.Cap)) then
  some (a0,4)
 else
 (M5 a0.L 0 v1).bind λv2=>
 (app 24 v2 [a1]).bind λv3=>
 some ((⟨v3,a0.Cap⟩:queue_Queue_task_Task),0)
def a6X(a0:queue_Queue_task_Task)(a1:task_Task):Option (queue_Queue_task_Task × Int):=
 (M4 a0 a1).bind λv1=>
 some (v1.1,v1.2)
def T5(a0:hold_Heap)(a1:Int):Option hold_Heap:=
 (p8 a0.S a1).bind λv1=>
 (n9 ((v1.2 != 0)==false) false (I9 v1.1)).bind λv2=>
 if ((v1.2 != 0)||(!v2)) then
  some a0
 else
 (H9 a0.S a1 (⟨v1.1.Serial,v1.1.Strong,v1.1.Weak,v1.1.Prog,true,v1.1.Fields⟩:store_Obj)).bind λv3=>
 (a6X a0.Q (⟨1,a1,v1.1.Prog⟩:task_Task)).bind λv4=>
 (V7 (⟨v3.1,a0.Roots,a0.Cells,a0.T,v4.1⟩:hold_Heap) a1).bind λv5=>
 some v5
def P7(a0:hold_Heap)(a1:List Int):Option (List Int):=
 jn (λ(j18:List Int)=>
  some j18) (λκ17=>
  (lp (S:=Int × (List (Int × Bool)) × (List Int)) (E:=(List Int)) (λ((s20,s21,s22):Int × (List (Int × Bool)) × (List Int))=>
   if (decide (s20<(a1.length:Int))) then
    jn (λ((j29,j30):(List Int) × (List (Int × Bool)))=>
     some (.inl (s7 (s20+1),j30,j29))) (λκ28=>
     (ix a1 s20).bind λv32=>
     (p8 a0.S v32).bind λv33=>
     if ((v33.2==0)==true) then
      if (!((y4 s21 v32).getD (false:Bool))) then
       (app 8 s22 [v32]).bind λv34=>
       κ28 (v34,(m9 s21 v32 true))
      else
      κ28 (s22,s21)
     else
     κ28 (s22,s21))
   else
   some (.inr s22)) (0,[],[])).bind λe19=>
  κ17 e19)
def M7(a0:List Int)(a1:Int):Option Int:=
 jn (λ(_:Unit)=>
  some (-1)) (λκ5=>
  (lp (S:=Int) (E:=Int ⊕ Unit) (λ(s8:Int)=>
   if (decide (s8<(a0.length:Int))) then
    (ix a0 s8).bind λv10=>
    if (a1==v10) then
     some (.inr (.inl s8))
    else
    some (.inl (s7 (s8+1)))
   else
   some (.inr (.inr ()))) 0).bind λe7=>
  match e7 with
  | .inl w=>some w
  | .inr w=>κ5 w)
def J6(a0:List Int)(a1:Int):Option Bool:=
 (M7 a0 a1).bind λv1=>
 some (decide (v1≥0))
def Y7(a0:weak_Cell)(a1:List Int):Option Bool:=
 (n9 ((a0.Intact&&(a0.Target != 0))==true) false (J6 a1 a0.Target)).bind λv1=>
 some ((a0.Intact&&(a0.Target != 0))&&v1)
def H0(a0:List weak_Cell)(a1:List Int):Option (List Int):=
 jn (λ(j15:List Int)=>
  some j15) (λκ14=>
  (lp (S:=Int × (List Int)) (E:=(List Int)) (λ((s17,s18):Int × (List Int))=>
   if (decide (s17<(a0.length:Int))) then
    jn (λ(j25:List Int)=>
     some (.inl (s7 (s17+1),j25))) (λκ24=>
     (ix a0 s17).bind λv26=>
     (Y7 v26 a1).bind λv27=>
     if v27 then
      (app 8 s18 [s17]).bind λv28=>
      κ24 v28
     else
     κ24 s18)
   else
   some (.inr s18)) (0,[])).bind λe16=>
  κ14 e16)
def a3l(a0:List weak_Cell)(a1:List Int):Option ((List weak_Cell) × (List Int)):=
 (H0 a0 a1).bind λv1=>
 (W9 a0).bind λv2=>
 jn (λ((j22,j23):(List Int) × (List weak_Cell))=>
  some (j23,j22)) (λκ21=>
  (lp (S:=Int × (List weak_Cell) × (List Int)) (E:=((List Int) × (List weak_Cell))) (λ((s26,s27,s28):Int × (List weak_Cell) × (List Int))=>
   if (decide (s26<(v1.length:Int))) then
    jn (λ((j36,j37):(List Int) × (List weak_Cell))=>
     some (.inl (s7 (s26+1),j37,j36))) (λκ35=>
     (ix v1 s26).bind λv39=>
     (ix s27 v39).bind λv40=>
     (ix (s27.set (v39).toNat (⟨v40.Target,false,v40.Call⟩:weak_Cell)) v39).bind λv41=>
     if (decide (v41.Call≥0)) then
      (app 8 s28 [v39]).bind λv42=>
      κ35 (v42,(s27.set (v39).toNat (⟨v40.Target,false,v40.Call⟩:weak_Cell)))
     else
     κ35 (s28,(s27.set (v39).toNat (⟨v40.Target,false,v40.Call⟩:weak_Cell))))
   else
   some (.inr (s28,s27))) (0,v2,[])).bind λe25=>
  κ21 e25)
def a08(a0:hold_Heap)(a1:List Int):Option hold_Heap:=
 (a3l a0.Cells a1).bind λv1=>
 jn (λ(j11:queue_Queue_task_Task)=>
  some (⟨a0.S,a0.Roots,v1.1,a0.T,j11⟩:hold_Heap)) (λκ10=>
  (lp (S:=Int × queue_Queue_task_Task) (E:=queue_Queue_task_Task) (λ((s13,s14):Int × queue_Queue_task_Task)=>
   if (decide (s13<(v1.2.length:Int))) then
    (ix v1.2 s13).bind λv17=>
    (ix v1.1 v17).bind λv18=>
    (a6X s14 (⟨2,v17,v18.Call⟩:task_Task)).bind λv19=>
    some (.inl (s7 (s13+1),v19.1))
   else
   some (.inr s14)) (0,a0.Q)).bind λe12=>
  κ10 e12)
def a2I(a0:List Int):Option (List Int):=
 some a0
def a2H(a0:List Int):Option (List Int):=
 jn (λ(j10:List Int)=>
  some j10) (λκ9=>
  (a2I a0).bind λv11=>
  (lp (S:=Int × (List Int)) (E:=(List Int)) (λ((s13,s14):Int × (List Int))=>
   if (decide (s13<(v11.length:Int))) then
    (ix v11 s13).bind λv17=>
    if ((v17 != 0)==true) then
     (app 8 s14 [v17]).bind λv18=>
     some (.inl (s7 (s13+1),v18))
    else
    some (.inl (s7 (s13+1),s14))
   else
   some (.inr s14)) (0,[])).bind λe12=>
  κ9 e12)
def T0(a0:List hash_Place)(a1:List Int):Option ((List hash_Place) × (List Int)):=
 jn (λ((j18,j19):(List hash_Place) × (List Int))=>
  some (j18,j19)) (λκ17=>
  (lp (S:=(List hash_Place) × Int × (List Int)) (E:=((List hash_Place) × (List Int))) (λ((s22,s23,s24):(List hash_Place) × Int × (List Int))=>
   if (decide (s23<(a1.length:Int))) then
    jn (λ((j31,j32):(List hash_Place) × (List Int))=>
     some (.inl (j31,s7 (s23+1),j32))) (λκ30=>
     (ix a1 s23).bind λv34=>
     (T1 s22 v34).bind λv35=>
     if (v35.2.2==0) then
      (app 8 s24 [v35.2.1]).bind λv36=>
      κ30 (v35.1,v36)
     else
     κ30 (s22,s24))
   else
   some (.inr (s22,s24))) (a0,0,[])).bind λe21=>
  κ17 e21)
def O5(a0:slab_Slab_store_Obj)(a1:Int):Option (slab_Slab_store_Obj × Int):=
 (C2 a0 a1).bind λv1=>
 if (v1.2 != 0) then
  some (a0,v1.2)
 else
 (a1U a1).bind λv2=>
 (a2Q a1).bind λv3=>
 (B3 a0 v2 (⟨2,v3,v1.1⟩:slab_Cell_store_Obj)).bind λv4=>
 some (v4,0)
def T6(a0:hold_Heap)(a1:Int):Option hold_Heap:=
 (p8 a0.S a1).bind λv1=>
 (H9 a0.S a1 (⟨v1.1.Serial,0,v1.1.Weak,v1.1.Prog,v1.1.Started,[]⟩:store_Obj)).bind λv2=>
 (O5 v2.1.S a1).bind λv3=>
 if (v1.1.Weak==0) then
  (K2 v3.1 a1).bind λv4=>
  some (⟨⟨v4.1,v2.1.Serial⟩,a0.Roots,a0.Cells,a0.T,a0.Q⟩:hold_Heap)
 else
 some (⟨⟨v3.1,v2.1.Serial⟩,a0.Roots,a0.Cells,a0.T,a0.Q⟩:hold_Heap)
def a0G(a0:hold_Heap)(a1:List Int):Option hold_Heap:=
 (P7 a0 a1).bind λv1=>
 (a08 a0 v1).bind λv2=>
 jn (λ(j13:List Int)=>
  (T0 v2.T v1).bind λv14=>
  (app 8 j13 v14.2).bind λv15=>
  jn (λ(j24:hold_Heap)=>
   jn (λ(j33:hold_Heap)=>
    some j33) (λκ32=>
    (lp (S:=Int × hold_Heap) (E:=hold_Heap) (λ((s35,s36):Int × hold_Heap)=>
     if (decide (s35<(v15.length:Int))) then
      (ix v15 s35).bind λv39=>
      (D7 s36 v39).bind λv40=>
      some (.inl (s7 (s35+1),v40))
     else
     some (.inr s36)) (0,j24)).bind λe34=>
    κ32 e34)) (λκ23=>
   (lp (S:=Int × hold_Heap) (E:=hold_Heap) (λ((s42,s43):Int × hold_Heap)=>
    if (decide (s42<(v1.length:Int))) then
     (ix v1 s42).bind λv46=>
     (T6 s43 v46).bind λv47=>
     some (.inl (s7 (s42+1),v47))
    else
    some (.inr s43)) (0,(⟨v2.S,v2.Roots,v2.Cells,v14.1,v2.Q⟩:hold_Heap))).bind λe41=>
   κ23 e41)) (λκ12=>
  (lp (S:=Int × (List Int)) (E:=(List Int)) (λ((s49,s50):Int × (List Int))=>
   if (decide (s49<(v1.length:Int))) then
    (ix v1 s49).bind λv53=>
    (p8 v2.S v53).bind λv54=>
    (a2H v54.1.Fields).bind λv55=>
    (app 8 s50 v55).bind λv56=>
    some (.inl (s7 (s49+1),v56))
   else
   some (.inr s50)) (0,[])).bind λe48=>
  κ12 e48)
def a0g(a0:hold_Heap):Option hold_Heap:=
 (lp (S:=hold_Heap) (E:=hold_Heap) (λ(s2:hold_Heap)=>
  (a0H s2).bind λv4=>
  if ((v4.length:Int)==0) then
   some (.inr s2)
  else
  (ix v4 0).bind λv5=>
  (p8 s2.S v5).bind λv6=>
  (I9 v6.1).bind λv7=>
  if v7 then
   (T5 s2 v5).bind λv8=>
   some (.inl v8)
  else
  (cut v4 0 1).bind λv9=>
  (a0G s2 v9).bind λv10=>
  some (.inl v10)) a0).bind λe1=>
 some e1
def a0Z(a0:hold_Heap)(a1:Int):Option Int:=
 (p8 a0.S a1).bind λv1=>
 some v1.1.Serial
def J9(a0:hold_Heap)(a1:Int):Option Int:=
 (I4 a0 a1).bind λv1=>
 (a0Z a0 v1).bind λv2=>
 some v2
def P5(a0:hold_Heap)(a1:hold_Heap)(a2:code_Op):Option Int:=
 if (a2.Kind==5) then
  (J9 a0 a2.C).bind λv1=>
  some v1
 else
 jn (λ(j3:Bool)=>
  if j3 then
   (J9 a0 a2.B).bind λv4=>
   some v4
  else
  if (a2.Kind==10) then
   (I4 a0 a2.A).bind λv5=>
   (I4 a0 a2.B).bind λv6=>
   if (v5==v6) then
    some 1
   else
   some 0
  else
  (J9 a1 a2.A).bind λv7=>
  some v7) (λκ2=>
  if (a2.Kind==6) then
   κ2 (a2.Kind==6)
  else
  κ2 (a2.Kind==8))
def l5(a0:hold_Heap)(a1:code_Op):Option (hold_Heap × Int × Int):=
 (a2L a1).bind λv1=>
 if (v1 != 0) then
  some (a0,0,v1)
 else
 (a1P).bind λv2=>
 if (!((y4 v2 a1.Kind).isSome)) then
  some (a0,0,14)
 else
 (b1G ((y4 v2 a1.Kind).getD (none:Fv)) (⟨a0,a1⟩:n8)).bind λv3=>
 if (v3.2 != 0) then
  some (a0,0,v3.2)
 else
 (a0g v3.1).bind λv5=>
 (P5 v3.1 v5 a1).bind λv6=>
 some (v5,v6,0)
def a0B(a0:hold_Heap)(a1:List code_Op):Option (hold_Heap × (List Int)):=
 jn (λ((j11,j12):hold_Heap × (List Int))=>
  some (j11,j12)) (λκ10=>
  (lp (S:=Int × hold_Heap × (List Int)) (E:=(hold_Heap × (List Int))) (λ((s15,s16,s17):Int × hold_Heap × (List Int))=>
   if (decide (s15<(a1.length:Int))) then
    (ix a1 s15).bind λv20=>
    (l5 s16 v20).bind λv21=>
    (app 8 s17 [v21.2.1]).bind λv22=>
    some (.inl (s7 (s15+1),v21.1,v22))
   else
   some (.inr (s16,s17))) (0,a0,[])).bind λe14=>
  κ10 e14)
def a3P:Option (List A9):=
 some [(⟨(some 292)⟩:A9),(⟨(some 293)⟩:A9),(⟨(some 294)⟩:A9),(⟨(some 295)⟩:A9)]
def S0(a0:store_Store)(a1:slab_Cell_store_Obj):Option Bool:=
 some ((decide (a1.State≥0))&&(decide (a1.State≤3)))
def J1(a0:store_Store)(a1:slab_Cell_store_Obj):Option Bool:=
 some ((decide (a1.Gen≥0))&&(decide (a1.Gen≤a0.S.Last)))
def G1(a0:slab_Cell_store_Obj):Option Bool:=
 some ((a0.State==1)||(a0.State==2))
def P8(a0:store_Store)(a1:slab_Cell_store_Obj):Option Bool:=
 (G1 a1).bind λv1=>
 (n9 (((!v1)==false)&&(((((decide (a1.Val.Serial≥1))&&(decide (a1.Val.Serial≤a0.Serial)))&&(decide (a1.Val.Strong≥0)))&&(decide (a1.Val.Weak≥0)))==true)) false (G2 a1.Val.Prog)).bind λv2=>
 some ((!v1)||((((((decide (a1.Val.Serial≥1))&&(decide (a1.Val.Serial≤a0.Serial)))&&(decide (a1.Val.Strong≥0)))&&(decide (a1.Val.Weak≥0)))&&v2)&&(decide ((a1.Val.Fields.length:Int)≤4))))
def K4(a0:store_Store)(a1:slab_Cell_store_Obj):Option Bool:=
 (G1 a1).bind λv1=>
 some (v1||((((a1.Val.Serial==0)&&((a1.Val.Strong==0)&&((a1.Val.Weak==0)&&((a1.Val.Prog==0)&&true))))&&(!a1.Val.Started))&&((a1.Val.Fields.length:Int)==0)))
def b1H(f:Fv)(a0:store_Store)(a1:slab_Cell_store_Obj):Option Bool:=
 if f=some 292 then S0 a0 a1 else
 if f=some 293 then J1 a0 a1 else
 if f=some 294 then P8 a0 a1 else
 if f=some 295 then K4 a0 a1 else
 none
def O6(a0:store_Store):Option Bool:=
 jn (λ(_:Unit)=>
  some true) (λκ12=>
  (lp (S:=Int × (List (Int × Bool))) (E:=Bool ⊕ Unit) (λ((s15,s16):Int × (List (Int × Bool)))=>
   if (decide (s15<(a0.S.Cells.length:Int))) then
    jn (λ(j22:List (Int × Bool))=>
     some (.inl (s7 (s15+1),j22))) (λκ21=>
     (ix a0.S.Cells s15).bind λv23=>
     (G1 v23).bind λv24=>
     if (!v24) then
      κ21 s16
     else
     if ((y4 s16 v23.Val.Serial).getD (false:Bool)) then
      some (.inr (.inl false))
     else
     κ21 (m9 s16 v23.Val.Serial true))
   else
   some (.inr (.inr ()))) (0,[])).bind λe14=>
  match e14 with
  | .inl w=>some w
  | .inr w=>κ12 w)
def a14(a0:store_Store):Option Bool:=
 if ((((decide ((a0.S.Cells.length:Int) > 24))||(decide (a0.S.Last<0)))||(decide (a0.S.Last > 9)))||(decide (a0.Serial<0))) then
  some false
 else
 jn (λ(_:Unit)=>
  (O6 a0).bind λv24=>
  some v24) (λκ22=>
  (lp (S:=Int) (E:=Bool ⊕ Unit) (λ(s26:Int)=>
   if (decide (s26<(a0.S.Cells.length:Int))) then
    jn (λ(_:Unit)=>
     some (.inl (s7 (s26+1)))) (λκ36=>
     (ix a0.S.Cells s26).bind λv38=>
     (a3P).bind λv39=>
     (lp (S:=Int) (E:=Bool ⊕ Unit) (λ(s41:Int)=>
      if (decide (s41<(v39.length:Int))) then
       (ix v39 s41).bind λv43=>
       (b1H v43.kept a0 v38).bind λv44=>
       if (!v44) then
        some (.inr (.inl false))
       else
       some (.inl (s7 (s41+1)))
      else
      some (.inr (.inr ()))) 0).bind λe40=>
     match e40 with
     | .inl w=>some (.inr (.inl w))
     | .inr w=>κ36 w)
   else
   some (.inr (.inr ()))) 0).bind λe25=>
  match e25 with
  | .inl w=>some w
  | .inr w=>κ22 w)
def a4Z(a0:List hash_Place):Option Bool:=
 if ((decide ((a0.length:Int)<1))||(decide ((a0.length:Int) > 8))) then
  some false
 else
 jn (λ(_:Unit)=>
  some true) (λκ6=>
  (lp (S:=Int) (E:=Bool ⊕ Unit) (λ(s9:Int)=>
   if (decide (s9<(a0.length:Int))) then
    (ix a0 s9).bind λv11=>
    (n9 (((!(((v11.State==0)&&((v11.Key==0)&&((v11.Val==0)&&true)))||((v11.State==2)&&((v11.Key==0)&&((v11.Val==0)&&true)))))==true)&&((v11.State != 1)==false)) 0 (J4 a0 v11.Key)).bind λv12=>
    if ((!(((v11.State==0)&&((v11.Key==0)&&((v11.Val==0)&&true)))||((v11.State==2)&&((v11.Key==0)&&((v11.Val==0)&&true)))))&&((v11.State != 1)||(v12 != s9))) then
     some (.inr (.inl false))
    else
    some (.inl (s7 (s9+1)))
   else
   some (.inr (.inr ()))) 0).bind λe8=>
  match e8 with
  | .inl w=>some w
  | .inr w=>κ6 w)
def a0V(a0:hold_Heap):Option Bool:=
 (a97).bind λv1=>
 (a14 a0.S).bind λv2=>
 (n9 (v2==true) false (a4Z a0.T)).bind λv3=>
 some (((((v2&&v3)&&((a0.Roots.length:Int)==6))&&((a0.Cells.length:Int)==6))&&(a0.Q.Cap==v1.Cap))&&(decide ((a0.Q.L.length:Int)≤v1.Cap)))
def a1s(a0:Int)(a1:hold_Heap):Option Bool:=
 (F0 a1 a0).bind λv1=>
 some v1
def D8(a0:List Int)(a1:hold_Heap):Option Bool:=
 jn (λ(_:Unit)=>
  some true) (λκ6=>
  (lp (S:=Int) (E:=Bool ⊕ Unit) (λ(s9:Int)=>
   if (decide (s9<(a0.length:Int))) then
    (ix a0 s9).bind λv11=>
    (a1s v11 a1).bind λv12=>
    if (!v12) then
     some (.inr (.inl false))
    else
    some (.inl (s7 (s9+1)))
   else
   some (.inr (.inr ()))) 0).bind λe8=>
  match e8 with
  | .inl w=>some w
  | .inr w=>κ6 w)
def W1(a0:hold_Heap):Option Bool:=
 (E8 a0.Roots).bind λv1=>
 jn (λ(j12:List Int)=>
  (D8 j12 a0).bind λv13=>
  some v13) (λκ11=>
  (E0 a0.S).bind λv14=>
  (lp (S:=Int × (List Int)) (E:=(List Int)) (λ((s16,s17):Int × (List Int))=>
   if (decide (s16<(v14.length:Int))) then
    (ix v14 s16).bind λv20=>
    (p8 a0.S v20).bind λv21=>
    (app 8 s17 v21.1.Fields).bind λv22=>
    some (.inl (s7 (s16+1),v22))
   else
   some (.inr s17)) (0,v1)).bind λe15=>
  κ11 e15)
def a0x(a0:List hash_Place):Option (List hash_Place):=
 some a0
def a4h(a0:List hash_Place):Option (List Int):=
 jn (λ(j13:List Int)=>
  some j13) (λκ12=>
  (lp (S:=Int × (List Int)) (E:=(List Int)) (λ((s15,s16):Int × (List Int))=>
   if (decide (s15<(a0.length:Int))) then
    jn (λ(j22:List Int)=>
     some (.inl (s7 (s15+1),j22))) (λκ21=>
     (ix a0 s15).bind λv23=>
     if (v23.State==1) then
      (app 8 s16 [v23.Key]).bind λv24=>
      κ21 v24
     else
     κ21 s16)
   else
   some (.inr s16)) (0,[])).bind λe14=>
  κ12 e14)
def a1K(a0:j5):Option Bool:=
 some true
def x4(a0:List hash_Place):Option (List j5):=
 jn (λ(j16:List j5)=>
  some j16) (λκ15=>
  (a4h a0).bind λv17=>
  (lp (S:=Int × (List j5)) (E:=(List j5)) (λ((s19,s20):Int × (List j5))=>
   if (decide (s19<(v17.length:Int))) then
    (ix v17 s19).bind λv23=>
    (I6 a0 v23).bind λv24=>
    jn (λ(j28:List j5)=>
     some (.inl (s7 (s19+1),j28))) (λκ27=>
     (a1K (⟨v23,v24.1⟩:j5)).bind λv29=>
     if v29 then
      (app 16 s20 [(⟨v23,v24.1⟩:j5)]).bind λv30=>
      κ27 v30
     else
     κ27 s20)
   else
   some (.inr s20)) (0,[])).bind λe18=>
  κ15 e18)
def a3x(a0:List hash_Place):Option (List j5):=
 (a0x a0).bind λv1=>
 (x4 v1).bind λv2=>
 some v2
def a1t(a0:j5)(a1:hold_Heap):Option Bool:=
 (V9 a1 a0.Key).bind λv1=>
 (n9 (v1==true) false (V9 a1 a0.Val)).bind λv2=>
 some (v1&&v2)
def B0(a0:List j5)(a1:hold_Heap):Option Bool:=
 jn (λ(_:Unit)=>
  some true) (λκ6=>
  (lp (S:=Int) (E:=Bool ⊕ Unit) (λ(s9:Int)=>
   if (decide (s9<(a0.length:Int))) then
    (ix a0 s9).bind λv11=>
    (a1t v11 a1).bind λv12=>
    if (!v12) then
     some (.inr (.inl false))
    else
    some (.inl (s7 (s9+1)))
   else
   some (.inr (.inr ()))) 0).bind λe8=>
  match e8 with
  | .inl w=>some w
  | .inr w=>κ6 w)
def a0U(a0:hold_Heap):Option Bool:=
 (a3x a0.T).bind λv1=>
 (B0 v1 a0).bind λv2=>
 some v2
def a0W(a0:hold_Heap)(a1:task_Task):Option Bool:=
 if (a1.Kind==1) then
  (p8 a0.S a1.At).bind λv1=>
  some ((v1.2==0)&&v1.1.Started)
 else
 if (a1.Kind==2) then
  (n9 (((decide (a1.At≥0))&&(decide (a1.At<(a0.Cells.length:Int))))==true) (⟨0,false,0⟩:weak_Cell) (ix a0.Cells a1.At)).bind λv2=>
  some (((decide (a1.At≥0))&&(decide (a1.At<(a0.Cells.length:Int))))&&(!v2.Intact))
 else
 some false
def a1O(a0:hold_Heap):Option Bool:=
 jn (λ((j18,j19):Bool × (List (task_Task × Bool)))=>
  some j18) (λκ17=>
  jn (λ(j29:List (task_Task × Bool))=>
   κ17 (true,j29)) (λκ28=>
   (lp (S:=Int × (List (task_Task × Bool))) (E:=(Bool × (List (task_Task × Bool))) ⊕ (List (task_Task × Bool))) (λ((s31,s32):Int × (List (task_Task × Bool)))=>
    if (decide (s31<(a0.Q.L.length:Int))) then
     (ix a0.Q.L s31).bind λv35=>
     (n9 ((((!((y4 s32 (⟨v35.Kind,v35.At,0⟩:task_Task)).getD (false:Bool)))&&(decide (v35.Prog≥0)))&&(decide (v35.Prog<6)))==true) false (a0W a0 v35)).bind λv36=>
     if (!((((!((y4 s32 (⟨v35.Kind,v35.At,0⟩:task_Task)).getD (false:Bool)))&&(decide (v35.Prog≥0)))&&(decide (v35.Prog<6)))&&v36)) then
      some (.inr (.inl (false,(m9 s32 (⟨v35.Kind,v35.At,0⟩:task_Task) true))))
     else
     some (.inl (s7 (s31+1),(m9 s32 (⟨v35.Kind,v35.At,0⟩:task_Task) true)))
    else
    some (.inr (.inr s32))) (0,[])).bind λe30=>
   match e30 with
   | .inl w=>κ17 w
   | .inr w=>κ28 w))
def a2b(a0:weak_Cell)(a1:hold_Heap):Option Bool:=
 if ((decide (a0.Call<(-1)))||(decide (a0.Call≥6))) then
  some false
 else
 if a0.Intact then
  (V9 a1 a0.Target).bind λv1=>
  some v1
 else
 (o9 a1.S.S a0.Target).bind λv2=>
 some ((a0.Target==0)||(v2.2==0))
def B9(a0:List weak_Cell)(a1:hold_Heap):Option Bool:=
 jn (λ(_:Unit)=>
  some true) (λκ6=>
  (lp (S:=Int) (E:=Bool ⊕ Unit) (λ(s9:Int)=>
   if (decide (s9<(a0.length:Int))) then
    (ix a0 s9).bind λv11=>
    (a2b v11 a1).bind λv12=>
    if (!v12) then
     some (.inr (.inl false))
    else
    some (.inl (s7 (s9+1)))
   else
   some (.inr (.inr ()))) 0).bind λe8=>
  match e8 with
  | .inl w=>some w
  | .inr w=>κ6 w)
def a1M(a0:hold_Heap):Option Bool:=
 (B9 a0.Cells a0).bind λv1=>
 some v1
def a1S(a0:weak_Cell)(a1:Int):Option Bool:=
 some ((a1 != 0)&&(a0.Target==a1))
def L8(a0:List weak_Cell)(a1:Int):Option (List Int):=
 jn (λ(j15:List Int)=>
  some j15) (λκ14=>
  (lp (S:=Int × (List Int)) (E:=(List Int)) (λ((s17,s18):Int × (List Int))=>
   if (decide (s17<(a0.length:Int))) then
    jn (λ(j25:List Int)=>
     some (.inl (s7 (s17+1),j25))) (λκ24=>
     (ix a0 s17).bind λv26=>
     (a1S v26 a1).bind λv27=>
     if v27 then
      (app 8 s18 [s17]).bind λv28=>
      κ24 v28
     else
     κ24 s18)
   else
   some (.inr s18)) (0,[])).bind λe16=>
  κ14 e16)
def a17(a0:List weak_Cell)(a1:Int):Option Int:=
 (L8 a0 a1).bind λv1=>
 some (v1.length:Int)
def a1N(a0:hold_Heap):Option Bool:=
 jn (λ(_:Unit)=>
  some true) (λκ12=>
  (lp (S:=Int) (E:=Bool ⊕ Unit) (λ(s15:Int)=>
   if (decide (s15<(a0.S.S.Cells.length:Int))) then
    jn (λ(_:Unit)=>
     some (.inl (s7 (s15+1)))) (λκ20=>
     (ix a0.S.S.Cells s15).bind λv22=>
     if ((v22.State != 1)&&(v22.State != 2)) then
      κ20 ()
     else
     (V6 s15 v22.Gen).bind λv23=>
     (a17 a0.Cells v23).bind λv24=>
     if (v22.Val.Weak != v24) then
      some (.inr (.inl false))
     else
     if ((v22.State==2)&&(((decide (v22.Val.Weak<1))||(decide ((v22.Val.Fields.length:Int) > 0)))||(v22.Val.Strong != 0))) then
      some (.inr (.inl false))
     else
     κ20 ())
   else
   some (.inr (.inr ()))) 0).bind λe14=>
  match e14 with
  | .inl w=>some w
  | .inr w=>κ12 w)
def X5(f:Fv)(a0:hold_Heap):Option Bool:=
 if f=some 88 then W1 a0 else
 if f=some 89 then a0U a0 else
 if f=some 90 then a1O a0 else
 if f=some 91 then a1M a0 else
 if f=some 92 then a1N a0 else
 none
def a4K(a0:queue_Queue_task_Task):Option (List Int):=
 jn (λ(j10:List Int)=>
  some j10) (λκ9=>
  (a7C a0 1).bind λv11=>
  (lp (S:=Int × (List Int)) (E:=(List Int)) (λ((s13,s14):Int × (List Int))=>
   if (decide (s13<(v11.1.L.length:Int))) then
    (ix v11.1.L s13).bind λv17=>
    if ((v17.Kind==v11.2)==true) then
     (app 8 s14 [v17.At]).bind λv18=>
     some (.inl (s7 (s13+1),v18))
    else
    some (.inl (s7 (s13+1),s14))
   else
   some (.inr s14)) (0,[])).bind λe12=>
  κ9 e12)
def a43(a0:hold_Heap):Option (List Int):=
 jn (λ(j13:List Int)=>
  (a4K a0.Q).bind λv14=>
  (app 8 j13 v14).bind λv15=>
  some v15) (λκ12=>
  (lp (S:=Int × (List Int)) (E:=(List Int)) (λ((s17,s18):Int × (List Int))=>
   if (decide (s17<(a0.Roots.length:Int))) then
    jn (λ(j24:List Int)=>
     some (.inl (s7 (s17+1),j24))) (λκ23=>
     (ix a0.Roots s17).bind λv25=>
     if (v25 != 0) then
      (app 8 s18 [v25]).bind λv26=>
      κ23 v26
     else
     κ23 s18)
   else
   some (.inr s18)) (0,[])).bind λe16=>
  κ12 e16)
def a6h(a0:Int):Option Bool:=
 (E1 a0).bind λv1=>
 some v1
def a5v(a0:store_Store):Option store_Store:=
 some a0
def a9Q(a0:store_Store)(a1:Int):Option (List Int):=
 (p8 a0 a1).bind λv1=>
 (a2H v1.1.Fields).bind λv2=>
 some v2
def b1S(a0:store_Store)(a1:Int):Option Int:=
 jn (λ(j31:Int)=>
  some j31) (λκ30=>
  (a5v a0).bind λv32=>
  (E0 v32).bind λv33=>
  (lp (S:=Int × Int) (E:=Int) (λ((s35,s36):Int × Int)=>
   if (decide (s35<(v33.length:Int))) then
    jn (λ(j50:Int)=>
     some (.inl (s7 (s35+1),j50))) (λκ49=>
     (ix v33 s35).bind λv51=>
     (a9Q v32 v51).bind λv52=>
     (lp (S:=Int × Int) (E:=Int) (λ((s54,s55):Int × Int)=>
      if (decide (s54<(v52.length:Int))) then
       (ix v52 s54).bind λv58=>
       jn (λ(j60:Int)=>
        some (.inl (s7 (s54+1),j60))) (λκ59=>
        if (v58==a1) then
         κ59 (s7 (s55+1))
        else
        κ59 s55)
      else
      some (.inr s55)) (0,s36)).bind λe53=>
     κ49 e53)
   else
   some (.inr s36)) (0,0)).bind λe34=>
  κ30 e34)
def a1J(a0:j5)(a1:Int):Option Bool:=
 some ((a1 != 0)&&(a0.Val==a1))
def w9(a0:List hash_Place)(a1:Int):Option (List j5):=
 jn (λ(j16:List j5)=>
  some j16) (λκ15=>
  (a4h a0).bind λv17=>
  (lp (S:=Int × (List j5)) (E:=(List j5)) (λ((s19,s20):Int × (List j5))=>
   if (decide (s19<(v17.length:Int))) then
    (ix v17 s19).bind λv23=>
    (I6 a0 v23).bind λv24=>
    jn (λ(j28:List j5)=>
     some (.inl (s7 (s19+1),j28))) (λκ27=>
     (a1J (⟨v23,v24.1⟩:j5) a1).bind λv29=>
     if v29 then
      (app 16 s20 [(⟨v23,v24.1⟩:j5)]).bind λv30=>
      κ27 v30
     else
     κ27 s20)
   else
   some (.inr s20)) (0,[])).bind λe18=>
  κ15 e18)
def a3w(a0:List hash_Place)(a1:Int):Option Int:=
 (a0x a0).bind λv1=>
 (w9 v1 a1).bind λv2=>
 some (v2.length:Int)
def a3R(a0:store_Store)(a1:List hash_Place)(a2:Int):Option Int:=
 (b1S a0 a2).bind λv1=>
 (a3w a1 a2).bind λv2=>
 some (s7 (v1+v2))
def a5K(a0:store_Store)(a1:List hash_Place)(a2:Int):Option Int:=
 (p8 a0 a2).bind λv1=>
 if (v1.2 != 0) then
  some 0
 else
 (a3R a0 a1 a2).bind λv2=>
 some (s7 (v1.1.Strong-v2))
def a7F(a0:List Int)(a1:Int):Option Int:=
 jn (λ(j11:Int)=>
  some j11) (λκ10=>
  (a2I a0).bind λv12=>
  (lp (S:=Int × Int) (E:=Int) (λ((s14,s15):Int × Int)=>
   if (decide (s14<(v12.length:Int))) then
    (ix v12 s14).bind λv18=>
    if ((v18 != 0)==true) then
     jn (λ(j20:Int)=>
      if ((v18 != 0)&&false) then
       some (.inr j20)
      else
      some (.inl (s7 (s14+1),j20))) (λκ19=>
      if (v18==a1) then
       κ19 (s7 (s15+1))
      else
      κ19 s15)
    else
    some (.inl (s7 (s14+1),s15))
   else
   some (.inr s15)) (0,0)).bind λe13=>
  κ10 e13)
def a5u(a0:List Int)(a1:Int):Option Int:=
 (a7F a0 a1).bind λv1=>
 some v1
def a2x(a0:Int)(a1:store_Obj)(a2:store_Store)(a3:List hash_Place)(a4:List Int):Option Bool:=
 (a6h a1.Strong).bind λv1=>
 (n9 ((!v1)==true) 0 (a5K a2 a3 a0)).bind λv2=>
 (n9 ((!v1)==true) 0 (a5u a4 a0)).bind λv3=>
 some ((!v1)&&(v2 != v3))
def a5J(a0:store_Store)(a1:List hash_Place)(a2:List Int):Option Bool:=
 jn (λ(j36:List Int)=>
  some ((j36.length:Int)==0)) (λκ35=>
  jn (λ(j54:List Int)=>
   κ35 j54) (λκ53=>
   (E0 a0).bind λv55=>
   (lp (S:=Int × (List Int)) (E:=(List Int)) (λ((s57,s58):Int × (List Int))=>
    if (decide (s57<(v55.length:Int))) then
     jn (λ(j66:List Int)=>
      some (.inl (s7 (s57+1),j66))) (λκ65=>
      (ix v55 s57).bind λv67=>
      (p8 a0 v67).bind λv68=>
      (a2x v67 v68.1 a0 a1 a2).bind λv69=>
      if v69 then
       (app 8 s58 [v67]).bind λv70=>
       κ65 v70
      else
      κ65 s58)
    else
    some (.inr s58)) (0,[])).bind λe56=>
   κ53 e56))
def a48(a0:hold_Heap):Option Bool:=
 (a0V a0).bind λv1=>
 if (!v1) then
  some false
 else
 jn (λ(_:Unit)=>
  (a43 a0).bind λv10=>
  (a5J a0.S a0.T v10).bind λv11=>
  some v11) (λκ8=>
  (lp (S:=Int) (E:=Bool ⊕ Unit) (λ(s13:Int)=>
   if (decide (s13<([(some 88),(some 89),(some 90),(some 91),(some 92)].length:Int))) then
    (ix [(some 88),(some 89),(some 90),(some 91),(some 92)] s13).bind λv15=>
    (X5 v15 a0).bind λv16=>
    if (!v16) then
     some (.inr (.inl false))
    else
    some (.inl (s7 (s13+1)))
   else
   some (.inr (.inr ()))) 0).bind λe12=>
  match e12 with
  | .inl w=>some w
  | .inr w=>κ8 w)
def Q0:Option Bool:=
 (b2p 3 5 8).bind λv1=>
 (a0B v1 [(⟨1,0,1,(-1)⟩:code_Op),(⟨2,1,0,0⟩:code_Op),(⟨6,2,1,0⟩:code_Op),(⟨10,0,1,0⟩:code_Op),(⟨3,0,0,0⟩:code_Op),(⟨7,3,2,0⟩:code_Op),(⟨3,1,0,0⟩:code_Op),(⟨3,3,0,0⟩:code_Op)]).bind λv2=>
 (l5 v2.1 (⟨7,3,2,0⟩:code_Op)).bind λv3=>
 (l5 v2.1 (⟨4,0,0,0⟩:code_Op)).bind λv4=>
 (l5 v2.1 (⟨11,0,0,0⟩:code_Op)).bind λv5=>
 (n9 (((v2.2.length:Int)==8)==true) (0:Int) (ix v2.2 0)).bind λv6=>
 (n9 ((((v2.2.length:Int)==8)&&(v6==1))==true) (0:Int) (ix v2.2 1)).bind λv7=>
 (n9 (((((v2.2.length:Int)==8)&&(v6==1))&&(v7==1))==true) (0:Int) (ix v2.2 2)).bind λv8=>
 (n9 ((((((v2.2.length:Int)==8)&&(v6==1))&&(v7==1))&&(v8==1))==true) (0:Int) (ix v2.2 3)).bind λv9=>
 (n9 (((((((v2.2.length:Int)==8)&&(v6==1))&&(v7==1))&&(v8==1))&&(v9==1))==true) (0:Int) (ix v2.2 4)).bind λv10=>
 (n9 ((((((((v2.2.length:Int)==8)&&(v6==1))&&(v7==1))&&(v8==1))&&(v9==1))&&(v10==0))==true) (0:Int) (ix v2.2 5)).bind λv11=>
 (n9 (((((((((v2.2.length:Int)==8)&&(v6==1))&&(v7==1))&&(v8==1))&&(v9==1))&&(v10==0))&&(v11==1))==true) (0:Int) (ix v2.2 7)).bind λv12=>
 (n9 (((((((((((((((v2.2.length:Int)==8)&&(v6==1))&&(v7==1))&&(v8==1))&&(v9==1))&&(v10==0))&&(v11==1))&&(v12==0))&&(v3.2.1==0))&&(v3.2.2==9))&&(v4.2.2==2))&&(v5.2.2==14))&&((v2.1.Q.L.length:Int)==1))==true) [] (E0 v2.1.S)).bind λv13=>
 (n9 ((((((((((((((((v2.2.length:Int)==8)&&(v6==1))&&(v7==1))&&(v8==1))&&(v9==1))&&(v10==0))&&(v11==1))&&(v12==0))&&(v3.2.1==0))&&(v3.2.2==9))&&(v4.2.2==2))&&(v5.2.2==14))&&((v2.1.Q.L.length:Int)==1))&&((v13.length:Int)==0))==true) 0 (J9 v2.1 0)).bind λv14=>
 (n9 (((((((((((((((((v2.2.length:Int)==8)&&(v6==1))&&(v7==1))&&(v8==1))&&(v9==1))&&(v10==0))&&(v11==1))&&(v12==0))&&(v3.2.1==0))&&(v3.2.2==9))&&(v4.2.2==2))&&(v5.2.2==14))&&((v2.1.Q.L.length:Int)==1))&&((v13.length:Int)==0))&&(v14==0))==true) false (a48 v2.1)).bind λv15=>
 some (((((((((((((((((v2.2.length:Int)==8)&&(v6==1))&&(v7==1))&&(v8==1))&&(v9==1))&&(v10==0))&&(v11==1))&&(v12==0))&&(v3.2.1==0))&&(v3.2.2==9))&&(v4.2.2==2))&&(v5.2.2==14))&&((v2.1.Q.L.length:Int)==1))&&((v13.length:Int)==0))&&(v14==0))&&v15)
def a7m(a0:List Int)(a1:Int):Option Bool:=
 (Y1 a0 a1).bind λv1=>
 some (decide (v1 > 0))
def a4A(a0:List Int)(a1:List Int)(a2:Bool):Option (List Int):=
 jn (λ(j15:List Int)=>
  some j15) (λκ14=>
  (lp (S:=Int × (List Int)) (E:=(List Int)) (λ((s17,s18):Int × (List Int))=>
   if (decide (s17<(a0.length:Int))) then
    jn (λ(j25:List Int)=>
     some (.inl (s7 (s17+1),j25))) (λκ24=>
     (ix a0 s17).bind λv26=>
     (a7m a1 v26).bind λv27=>
     if (v27==a2) then
      (app 8 s18 [v26]).bind λv28=>
      κ24 v28
     else
     κ24 s18)
   else
   some (.inr s18)) (0,[])).bind λe16=>
  κ14 e16)
def a4z(a0:j1)(a1:List Int):Option (List Int):=
 (a0d a0).bind λv1=>
 (a4A v1 a1 true).bind λv2=>
 jn (λ(j51:List Int)=>
  some j51) (λκ50=>
  (lp (S:=(List Int) × Int) (E:=(List Int)) (λ((s53,s54):(List Int) × Int)=>
   if (decide (s54<(v1.length:Int))) then
    jn (λ(j78:List Int)=>
     some (.inl (j78,s7 (s54+1)))) (λκ77=>
     (app 8 [] s53).bind λv79=>
     jn (λ(j89:List Int)=>
      (a4A v1 j89 true).bind λv90=>
      κ77 v90) (λκ88=>
      (lp (S:=Int × (List Int)) (E:=(List Int)) (λ((s92,s93):Int × (List Int))=>
       if (decide (s92<(s53.length:Int))) then
        (ix s53 s92).bind λv96=>
        (a9C a0 v96).bind λv97=>
        (app 8 s93 v97).bind λv98=>
        some (.inl (s7 (s92+1),v98))
       else
       some (.inr s93)) (0,v79)).bind λe91=>
      κ88 e91))
   else
   some (.inr s53)) (v2,0)).bind λe52=>
  κ50 e52)
def a4B(a0:j1)(a1:Int):Option Bool:=
 (C6 a0 a1).bind λv1=>
 some (v1.2==0)
def a6F(a0:j1)(a1:List j2)(a2:List Int):Option (List Int):=
 (a2D a1).bind λv1=>
 jn (λ(j20:List Int)=>
  some j20) (λκ19=>
  (lp (S:=Int × (List Int)) (E:=(List Int)) (λ((s22,s23):Int × (List Int))=>
   if (decide (s22<(v1.length:Int))) then
    jn (λ(j32:List Int)=>
     some (.inl (s7 (s22+1),j32))) (λκ31=>
     (ix v1 s22).bind λv33=>
     (a4B a0 v33.Key).bind λv34=>
     (n9 (v34==true) false (a7m a2 v33.Key)).bind λv35=>
     (n9 ((v34&&v35)==true) false (a4B a0 v33.Val)).bind λv36=>
     if ((v34&&v35)&&v36) then
      (app 8 s23 [v33.Val]).bind λv37=>
      κ31 v37
     else
     κ31 s23)
   else
   some (.inr s23)) (0,[])).bind λe21=>
  κ19 e21)
def a9y(a0:List Int)(a1:List Int):Option Bool:=
 if ((a0.length:Int) != (a1.length:Int)) then
  some false
 else
 jn (λ(_:Unit)=>
  some true) (λκ6=>
  (lp (S:=Int) (E:=Bool ⊕ Unit) (λ(s9:Int)=>
   if (decide (s9<(a0.length:Int))) then
    (ix a0 s9).bind λv11=>
    (ix a1 s9).bind λv12=>
    if (v11 != v12) then
     some (.inr (.inl false))
    else
    some (.inl (s7 (s9+1)))
   else
   some (.inr (.inr ()))) 0).bind λe8=>
  match e8 with
  | .inl w=>some w
  | .inr w=>κ6 w)
def a5q(a0:j1)(a1:List j2)(a2:List Int):Option ((List Int) × Int):=
 (a4z a0 a2).bind λv1=>
 jn (λ(j13:List Int)=>
  some (j13,30)) (λκ12=>
  (lp (S:=(List Int) × Int) (E:=((List Int) × Int) ⊕ (List Int)) (λ((s15,s16):(List Int) × Int)=>
   if (decide (s16<30)) then
    (app 8 [] s15).bind λv19=>
    (a6F a0 a1 s15).bind λv20=>
    (app 8 v19 v20).bind λv21=>
    (a4z a0 v21).bind λv22=>
    (a9y v22 s15).bind λv23=>
    if v23 then
     some (.inr (.inl (s15,s16)))
    else
    some (.inl (v22,s7 (s16+1)))
   else
   some (.inr (.inr s15))) (v1,0)).bind λe14=>
  match e14 with
  | .inl w=>some w
  | .inr w=>κ12 w)
def a9H(a0:j1)(a1:List j2)(a2:List Int):Option (List Int):=
 (a5q a0 a1 a2).bind λv1=>
 some v1.1
def a1E(a0:hold_Heap)(a1:code_Op):Option Bool:=
 (a3k a0).bind λv1=>
 (n9 ((!v1)==false) false Q0).bind λv2=>
 if ((!v1)||(!v2)) then
  (Q0).bind λv3=>
  some v3
 else
 (l5 a0 a1).bind λv4=>
 (a5L v4.1).bind λv5=>
 if (!v5) then
  some false
 else
 (a16 v4.1).bind λv6=>
 (a4D v6).bind λv7=>
 (a9H v6.S v6.T v7).bind λv8=>
 (a0d v6.S).bind λv9=>
 jn (λ(_:Unit)=>
  some true) (λκ18=>
  (lp (S:=Int) (E:=Bool ⊕ Unit) (λ(s21:Int)=>
   if (decide (s21<(v8.length:Int))) then
    (b0g a0.S).bind λv23=>
    (ix v8 s21).bind λv24=>
    (C6 v23 v24).bind λv25=>
    (C6 v6.S v24).bind λv26=>
    (Y1 v9 v24).bind λv27=>
    if (((v27 != 1)||((v25.2==0)&&(v25.1.Serial != v26.1.Serial)))||((v25.2 != 0)&&(v26.1.Serial != (s7 (a0.S.Serial+1))))) then
     some (.inr (.inl false))
    else
    some (.inl (s7 (s21+1)))
   else
   some (.inr (.inr ()))) 0).bind λe20=>
  match e20 with
  | .inl w=>some w
  | .inr w=>κ18 w)
def a1F(a0:hold_Heap)(a1:Int)(a2:Int)(a3:Int)(a4:List code_Op):Option Bool:=
 (a3k a0).bind λv1=>
 (n9 (((((((((!v1)||(decide (a1<0)))||(decide (a1 > 5)))||(decide (a2<0)))||(decide (a2 > 5)))||(decide (a3<0)))||(decide (a3 > 5)))||(decide ((a4.length:Int) > 20)))==false) false Q0).bind λv2=>
 if (((((((((!v1)||(decide (a1<0)))||(decide (a1 > 5)))||(decide (a2<0)))||(decide (a2 > 5)))||(decide (a3<0)))||(decide (a3 > 5)))||(decide ((a4.length:Int) > 20)))||(!v2)) then
  (Q0).bind λv3=>
  some v3
 else
 (l5 a0 (⟨6,a1,a2,(-1)⟩:code_Op)).bind λv4=>
 if (v4.2.2 != 0) then
  some ((v4.2.2==2)||(v4.2.2==7))
 else
 jn (λ(_:Unit)=>
  (a0B v4.1 a4).bind λv11=>
  (a5L v11.1).bind λv12=>
  if ((!v12)||((v11.1.Cells.length:Int) != 6)) then
   some false
  else
  (l5 v11.1 (⟨7,a3,a1,0⟩:code_Op)).bind λv13=>
  (ix v11.1.Cells a1).bind λv14=>
  if (!v14.Intact) then
   some ((v13.2.2==9)&&(v13.2.1==0))
  else
  (n9 (((v13.2.2==0)&&(v13.2.1==v4.2.1))==true) 0 (J9 v13.1 a3)).bind λv15=>
  some (((v13.2.2==0)&&(v13.2.1==v4.2.1))&&(v15==v4.2.1))) (λκ9=>
  (lp (S:=Int) (E:=Bool ⊕ Unit) (λ(s17:Int)=>
   if (decide (s17<(a4.length:Int))) then
    (ix a4 s17).bind λv19=>
    if ((v19.Kind==6)&&(v19.A==a1)) then
     some (.inr (.inl true))
    else
    some (.inl (s7 (s17+1)))
   else
   some (.inr (.inr ()))) 0).bind λe16=>
  match e16 with
  | .inl w=>some w
  | .inr w=>κ9 w)
def a1e(a0:hold_Heap)(a1:Int)(a2:Int)(a3:Int)(a4:Int):Option Bool:=
 (a3k a0).bind λv1=>
 (n9 ((((((((((!v1)||(decide (a1<0)))||(decide (a1 > 5)))||(decide (a3<0)))||(decide (a3 > 5)))||(decide (a4<0)))||(decide (a4 > 5)))||(decide (a2<0)))||(decide (a2 > 3)))==false) false Q0).bind λv2=>
 if ((((((((((!v1)||(decide (a1<0)))||(decide (a1 > 5)))||(decide (a3<0)))||(decide (a3 > 5)))||(decide (a4<0)))||(decide (a4 > 5)))||(decide (a2<0)))||(decide (a2 > 3)))||(!v2)) then
  (Q0).bind λv3=>
  some v3
 else
 (l5 a0 (⟨5,a1,a2,a3⟩:code_Op)).bind λv4=>
 (l5 v4.1 (⟨4,a4,a1,a2⟩:code_Op)).bind λv5=>
 (n9 (((v4.2.2==0)==true)&&(((v5.2.2 != 0)||(v5.2.1 != v4.2.1))==false)) 0 (J9 v5.1 a4)).bind λv6=>
 if ((v4.2.2==0)&&(((v5.2.2 != 0)||(v5.2.1 != v4.2.1))||(v6 != v4.2.1))) then
  some false
 else
 (l5 a0 (⟨8,a1,a3,0⟩:code_Op)).bind λv7=>
 (l5 v7.1 (⟨9,a4,a1,0⟩:code_Op)).bind λv8=>
 if (v7.2.2 != 0) then
  some ((v7.2.2==2)||(v7.2.2==8))
 else
 if (v7.2.1==0) then
  some ((v8.2.2==9)&&(v8.2.1==0))
 else
 (n9 (((v8.2.2==0)&&(v8.2.1==v7.2.1))==true) 0 (J9 v8.1 a4)).bind λv9=>
 some (((v8.2.2==0)&&(v8.2.1==v7.2.1))&&(v9==v7.2.1))
def a0w(a0:Int)(a1:Int)(a2:Int)(a3:Int):Option Int:=
 if ((decide (a0<a1))||(decide (a0 > a2))) then
  some a3
 else
 some 0
def Y2(a0:Int)(a1:Int)(a2:Int):Option Int:=
 if (a0 != 0) then
  some a0
 else
 if (a1 != 0) then
  some a1
 else
 some a2
def b0L(a0:a2f):Option Int:=
 (a0w a0.A 0 5 6).bind λv1=>
 (a0w a0.B 0 5 6).bind λv2=>
 if (a0.Kind==1) then
  (a0w a0.B 0 4 1).bind λv3=>
  (a0w a0.C (-1) 5 13).bind λv4=>
  (Y2 v1 v3 v4).bind λv5=>
  some v5
 else
 jn (λ(j7:Bool)=>
  if j7 then
   (Y2 v1 v2 0).bind λv8=>
   some v8
  else
  if (a0.Kind==3) then
   some v1
  else
  if (a0.Kind==4) then
   (a0w a0.C 0 3 5).bind λv9=>
   (Y2 v1 v2 v9).bind λv10=>
   some v10
  else
  if (a0.Kind==5) then
   (a0w a0.B 0 3 5).bind λv11=>
   (a0w a0.C (-1) 5 6).bind λv12=>
   (Y2 v1 v11 v12).bind λv13=>
   some v13
  else
  if (a0.Kind==6) then
   (a0w a0.A 0 5 7).bind λv14=>
   (a0w a0.B (-1) 5 6).bind λv15=>
   (a0w a0.C (-1) 5 13).bind λv16=>
   (Y2 v14 v15 v16).bind λv17=>
   some v17
  else
  if (a0.Kind==7) then
   (a0w a0.B 0 5 7).bind λv18=>
   (Y2 v1 v18 0).bind λv19=>
   some v19
  else
  if (a0.Kind==8) then
   (a0w a0.B (-1) 5 6).bind λv20=>
   (Y2 v1 v20 0).bind λv21=>
   some v21
  else
  if (a0.Kind==11) then
   some 0
  else
  if (a0.Kind==12) then
   (a0w a0.A 0 200 12).bind λv22=>
   some v22
  else
  some 14) (λκ6=>
  if (a0.Kind==2) then
   κ6 (a0.Kind==2)
  else
  if (a0.Kind==9) then
   κ6 (a0.Kind==9)
  else
  κ6 (a0.Kind==10))
def a2E(a0:a2f):Option Bool:=
 some ((decide (a0.Kind≥1))&&(decide (a0.Kind≤10)))
def b5l(a0:List p7)(a1:Int)(a2:Int)(a3:Int):Option ((List p7) × Int × Int):=
 if ((decide (a1<0))||(decide (a1≥(a0.length:Int)))) then
  some (a0,0,7)
 else
 (app 24 [] a0).bind λv1=>
 (ix v1 a1).bind λv2=>
 (ix a0 a1).bind λv3=>
 some ((v1.set (a1).toNat (⟨a2,(a2 != 0),a3⟩:p7)),v3.Target,0)
def a11(a0:j1)(a1:Int)(a2:A5):Option j1:=
 (app 80 [] a0.Cells).bind λv1=>
 (ix v1 a1).bind λv2=>
 some (⟨(v1.set (a1).toNat (⟨v2.State,v2.Gen,a2⟩:n0)),a0.Last,a0.Serial⟩:j1)
def L0(a0:j1)(a1:Int)(a2:A5):Option (j1 × Int):=
 (J5 a0).bind λv1=>
 (K1 v1 a1).bind λv2=>
 if (v2.2 != 0) then
  some (a0,v2.2)
 else
 (a11 a0 v2.1 a2).bind λv3=>
 some (v3,0)
def a0c(a0:B1)(a1:Int)(a2:z8):Option B1:=
 (app 24 [] a0.Cells).bind λv1=>
 (ix v1 a1).bind λv2=>
 some (⟨(v1.set (a1).toNat a2),a0.Last⟩:B1)
def b6X(a0:B1)(a1:Int):Option (B1 × Int):=
 (K1 a0 a1).bind λv1=>
 if (v1.2 != 0) then
  some (a0,v1.2)
 else
 (ix a0.Cells v1.1).bind λv2=>
 if (decide (v2.Gen≥a0.Last)) then
  (a0c a0 v1.1 (⟨3,v2.Gen,0⟩:z8)).bind λv3=>
  some (v3,0)
 else
 (a0c a0 v1.1 (⟨0,s7 (v2.Gen+1),0⟩:z8)).bind λv4=>
 some (v4,0)
def a0u(a0:j1)(a1:B1):Option j1:=
 jn (λ(j10:List n0)=>
  some (⟨j10,a0.Last,a0.Serial⟩:j1)) (λκ9=>
  (lp (S:=Int × (List n0)) (E:=(List n0)) (λ((s12,s13):Int × (List n0))=>
   if (decide (s12<(a0.Cells.length:Int))) then
    (ix a1.Cells s12).bind λv16=>
    (ix a0.Cells s12).bind λv17=>
    (app 80 s13 [(⟨v16.State,v16.Gen,v17.Val⟩:n0)]).bind λv18=>
    some (.inl (s7 (s12+1),v18))
   else
   some (.inr s13)) (0,[])).bind λe11=>
  κ9 e11)
def a9A(a0:j1)(a1:Int):Option j1:=
 (J5 a0).bind λv1=>
 (b6X v1 a1).bind λv2=>
 if (v2.2 != 0) then
  some a0
 else
 (a0u a0 v2.1).bind λv3=>
 (a4x a1).bind λv4=>
 (a11 v3 v4 (⟨0,0,0,0,false,[]⟩:A5)).bind λv5=>
 some v5
def a0E(a0:g6)(a1:Int):Option g6:=
 (J5 a0.S).bind λv1=>
 (K1 v1 a1).bind λv2=>
 if (v2.2 != 0) then
  some a0
 else
 (ix a0.S.Cells v2.1).bind λv3=>
 (L0 a0.S a1 (⟨v3.Val.Serial,v3.Val.Strong,s7 (v3.Val.Weak-1),v3.Val.Prog,v3.Val.Started,v3.Val.Fields⟩:A5)).bind λv4=>
 (ix v4.1.Cells v2.1).bind λv5=>
 if ((v5.State==2)&&(decide ((s7 (v3.Val.Weak-1))<1))) then
  (a9A v4.1 a1).bind λv6=>
  some (⟨v6,a0.Roots,a0.Cells,a0.T,a0.Q⟩:g6)
 else
 some (⟨v4.1,a0.Roots,a0.Cells,a0.T,a0.Q⟩:g6)
def a21(a0:g6)(a1:Int)(a2:Int)(a3:Int):Option (g6 × Int):=
 (n9 (((decide (a1<0))||(decide (a1 > 5)))==false) false (a1y a0.Q a1)).bind λv1=>
 if (((decide (a1<0))||(decide (a1 > 5)))||v1) then
  some (a0,7)
 else
 (T3 a0 a2).bind λv2=>
 if (!v2) then
  some (a0,3)
 else
 (b5l a0.Cells a1 a2 a3).bind λv3=>
 if (a2 != 0) then
  (C6 a0.S a2).bind λv4=>
  (L0 a0.S a2 (⟨v4.1.Serial,v4.1.Strong,s7 (v4.1.Weak+1),v4.1.Prog,v4.1.Started,v4.1.Fields⟩:A5)).bind λv5=>
  (a0E (⟨v5.1,a0.Roots,v3.1,a0.T,a0.Q⟩:g6) v3.2.1).bind λv6=>
  some (v6,0)
 else
 (a0E (⟨a0.S,a0.Roots,v3.1,a0.T,a0.Q⟩:g6) v3.2.1).bind λv7=>
 some (v7,0)
def T4(a0:g6)(a1:Int):Option (Int × Int):=
 (ix a0.Roots a1).bind λv1=>
 if (v1==0) then
  some (0,2)
 else
 some (v1,0)
def a4F(a0:g6)(a1:Int):Option Int:=
 if (decide (a1<0)) then
  some 0
 else
 (ix a0.Roots a1).bind λv1=>
 some v1
def b2L(a0:List Int)(a1:Int):Option (Int × Int):=
 if ((decide (a1<0))||(decide (a1≥(a0.length:Int)))) then
  some (0,5)
 else
 (ix a0 a1).bind λv1=>
 some (v1,0)
def a2B(a0:j1)(a1:Int)(a2:Int):Option (Int × Int):=
 (C6 a0 a1).bind λv1=>
 if (v1.2 != 0) then
  some (0,v1.2)
 else
 (b2L v1.1.Fields a2).bind λv2=>
 some (v2.1,v2.2)
def b1P(a0:Int):Option Int:=
 (Y0 a0).bind λv1=>
 if v1 then
  some 12
 else
 if (decide (a0<0)) then
  some 1
 else
 some (s7 (a0+1))
def a5s(a0:g6)(a1:Int)(a2:Int):Option g6:=
 (C6 a0.S a1).bind λv1=>
 if (v1.2 != 0) then
  some a0
 else
 (L0 a0.S a1 (⟨v1.1.Serial,a2,v1.1.Weak,v1.1.Prog,v1.1.Started,v1.1.Fields⟩:A5)).bind λv2=>
 some (⟨v2.1,a0.Roots,a0.Cells,a0.T,a0.Q⟩:g6)
def a0v(a0:g6)(a1:Int):Option g6:=
 (C6 a0.S a1).bind λv1=>
 (b1P v1.1.Strong).bind λv2=>
 (a5s a0 a1 v2).bind λv3=>
 some v3
def b6Z(a0:List Int)(a1:Int)(a2:Int):Option ((List Int) × Int):=
 if ((decide (a1<0))||(decide (a1≥(a0.length:Int)))) then
  some (a0,5)
 else
 (app 8 [] a0).bind λv1=>
 (ix v1 a1).bind λv2=>
 some ((v1.set (a1).toNat a2),0)
def b5i(a0:j1)(a1:Int)(a2:Int)(a3:Int):Option (j1 × Int):=
 (C6 a0 a1).bind λv1=>
 if (v1.2 != 0) then
  some (a0,v1.2)
 else
 (b6Z v1.1.Fields a2 a3).bind λv2=>
 if (v2.2 != 0) then
  some (a0,v2.2)
 else
 (L0 a0 a1 (⟨v1.1.Serial,v1.1.Strong,v1.1.Weak,v1.1.Prog,v1.1.Started,v2.1⟩:A5)).bind λv3=>
 some (v3.1,v3.2)
def b5f(a0:Int):Option (Int × Int):=
 (Y0 a0).bind λv1=>
 if v1 then
  some (12,0)
 else
 if (decide (a0<1)) then
  some (0,11)
 else
 some (s7 (a0-1),0)
def G5(a0:g6)(a1:Int):Option g6:=
 (C6 a0.S a1).bind λv1=>
 (b5f v1.1.Strong).bind λv2=>
 if (v2.2 != 0) then
  some a0
 else
 (a5s a0 a1 v2.1).bind λv3=>
 some v3
def a4C(a0:g6)(a1:Int)(a2:Int)(a3:Int):Option (g6 × Int):=
 (a2B a0.S a1 a2).bind λv1=>
 if (v1.2 != 0) then
  some (a0,v1.2)
 else
 (T3 a0 a3).bind λv2=>
 if (!v2) then
  some (a0,3)
 else
 (a0v a0 a3).bind λv3=>
 (b5i v3.S a1 a2 a3).bind λv4=>
 (G5 (⟨v4.1,v3.Roots,v3.Cells,v3.T,v3.Q⟩:g6) v1.1).bind λv5=>
 some (v5,0)
def a12(a0:List j2)(a1:Int)(a2:j2):Option (List j2):=
 (app 24 [] a0).bind λv1=>
 (ix v1 a1).bind λv2=>
 some (v1.set (a1).toNat a2)
def a6E(a0:List j2)(a1:Int):Option ((List j2) × Int × Int):=
 (a0e a0 a1).bind λv1=>
 if (decide (v1<0)) then
  some (a0,0,9)
 else
 (a12 a0 v1 (⟨2,0,0⟩:j2)).bind λv2=>
 (ix a0 v1).bind λv3=>
 some (v2,v3.Val,0)
def b5m(a0:List j2)(a1:Int)(a2:Int):Option ((List j2) × Int):=
 (a0e a0 a1).bind λv1=>
 if (decide (v1≥0)) then
  (a12 a0 v1 (⟨1,a1,a2⟩:j2)).bind λv2=>
  some (v2,0)
 else
 (a9F (a0.length:Int) a1).bind λv3=>
 jn (λ(_:Unit)=>
  some (a0,8)) (λκ12=>
  (lp (S:=Int × Int) (E:=((List j2) × Int) ⊕ Unit) (λ((s15,s16):Int × Int)=>
   if (decide (s16<(a0.length:Int))) then
    (ix a0 s15).bind λv19=>
    if (v19.State != 1) then
     (a12 a0 s15 (⟨1,a1,a2⟩:j2)).bind λv20=>
     some (.inr (.inl (v20,0)))
    else
    (rem (s7 (s15+1)) (a0.length:Int)).bind λv21=>
    some (.inl (v21,s7 (s16+1)))
   else
   some (.inr (.inr ()))) (v3,0)).bind λe14=>
  match e14 with
  | .inl w=>some w
  | .inr w=>κ12 w)
def b5p(a0:List j2)(a1:Int)(a2:Int):Option ((List j2) × Int × Int):=
 if (a1==0) then
  some (a0,0,2)
 else
 (a7n a0 a1).bind λv1=>
 if (a2==0) then
  (a6E a0 a1).bind λv2=>
  some (v2.1,v1.1,0)
 else
 (b5m a0 a1 a2).bind λv3=>
 if (v3.2 != 0) then
  some (a0,0,v3.2)
 else
 some (v3.1,v1.1,0)
def a6H(a0:g6)(a1:Int)(a2:Int):Option (g6 × Int):=
 if (a1==0) then
  some (a0,2)
 else
 (T2 a0 a1).bind λv1=>
 (n9 ((!v1)==false) false (T3 a0 a2)).bind λv2=>
 if ((!v1)||(!v2)) then
  some (a0,3)
 else
 (b5p a0.T a1 a2).bind λv3=>
 if (v3.2.2 != 0) then
  some (a0,v3.2.2)
 else
 (a0v a0 a2).bind λv4=>
 (G5 (⟨v4.S,v4.Roots,v4.Cells,v3.1,v4.Q⟩:g6) v3.2.1).bind λv5=>
 some (v5,0)
def a0F(a0:g6)(a1:a2f):Option (g6 × Int × Int):=
 if ((a1.Kind==6)&&(decide (a1.B<0))) then
  (a21 a0 a1.A 0 a1.C).bind λv1=>
  some (v1.1,0,v1.2)
 else
 jn (λ(j3:Int)=>
  (T4 a0 j3).bind λv4=>
  if (v4.2 != 0) then
   some (a0,0,v4.2)
  else
  if (a1.Kind==5) then
   (a4F a0 a1.C).bind λv5=>
   (a4C a0 v4.1 a1.B v5).bind λv6=>
   some (v6.1,v5,v6.2)
  else
  if (a1.Kind==6) then
   (a21 a0 a1.A v4.1 a1.C).bind λv7=>
   some (v7.1,v4.1,v7.2)
  else
  (a4F a0 a1.B).bind λv8=>
  (a6H a0 v4.1 v8).bind λv9=>
  some (v9.1,v8,v9.2)) (λκ2=>
  if (a1.Kind==6) then
   κ2 a1.B
  else
  κ2 a1.A)
def a9O(a0:g6)(a1:Int):Option Bool:=
 (C6 a0.S a1).bind λv1=>
 (T2 a0 a1).bind λv2=>
 some ((v2&&(decide (v1.1.Prog≥0)))&&(!v1.1.Started))
def a5r(a0:x6)(a1:p6):Option (x6 × Int):=
 if (decide ((a0.L.length:Int)≥a0.Cap)) then
  some (a0,4)
 else
 (app 24 [] a0.L).bind λv1=>
 (app 24 v1 [a1]).bind λv2=>
 some ((⟨v2,a0.Cap⟩:x6),0)
def a5t(a0:g6)(a1:Int):Option g6:=
 (a9O a0 a1).bind λv1=>
 if (!v1) then
  some a0
 else
 (C6 a0.S a1).bind λv2=>
 (L0 a0.S a1 (⟨v2.1.Serial,v2.1.Strong,v2.1.Weak,v2.1.Prog,true,v2.1.Fields⟩:A5)).bind λv3=>
 (a5r a0.Q (⟨1,a1,v2.1.Prog⟩:p6)).bind λv4=>
 (a0v (⟨v3.1,a0.Roots,a0.Cells,a0.T,v4.1⟩:g6) a1).bind λv5=>
 some v5
def a9P(a0:g6)(a1:List Int):Option (List Int):=
 jn (λ(j17:List Int)=>
  some j17) (λκ16=>
  (lp (S:=Int × (List Int)) (E:=(List Int)) (λ((s19,s20):Int × (List Int))=>
   if (decide (s19<(a1.length:Int))) then
    jn (λ(j28:List Int)=>
     some (.inl (s7 (s19+1),j28))) (λκ27=>
     (ix a1 s19).bind λv29=>
     (T2 a0 v29).bind λv30=>
     (n9 (v30==true) false (a7m s20 v29)).bind λv31=>
     if (v30&&(!v31)) then
      (app 8 s20 [v29]).bind λv32=>
      κ27 v32
     else
     κ27 s20)
   else
   some (.inr s20)) (0,[])).bind λe18=>
  κ16 e18)
def b0K(a0:List p7)(a1:List Int):Option ((List p7) × (List Int)):=
 jn (λ((j18,j19):(List Int) × (List p7))=>
  some (j19,j18)) (λκ17=>
  (lp (S:=Int × (List p7) × (List Int)) (E:=((List Int) × (List p7))) (λ((s22,s23,s24):Int × (List p7) × (List Int))=>
   if (decide (s22<(a0.length:Int))) then
    (ix a0 s22).bind λv27=>
    jn (λ((j31,j32):Bool × (List Int))=>
     (app 24 s23 [(⟨v27.Target,j31,v27.Call⟩:p7)]).bind λv34=>
     some (.inl (s7 (s22+1),v34,j32))) (λκ30=>
     (n9 (v27.Intact==true) 0 (Y1 a1 v27.Target)).bind λv35=>
     if (v27.Intact&&(decide (v35 > 0))) then
      if (decide (v27.Call≥0)) then
       (app 8 s24 [s22]).bind λv36=>
       κ30 (false,v36)
      else
      κ30 (false,s24)
     else
     κ30 (v27.Intact,s24))
   else
   some (.inr (s24,s23))) (0,[],[])).bind λe21=>
  κ17 e21)
def a3L(a0:List j2)(a1:List Int):Option ((List j2) × (List Int)):=
 jn (λ((j18,j19):(List j2) × (List Int))=>
  some (j18,j19)) (λκ17=>
  (lp (S:=(List j2) × Int × (List Int)) (E:=((List j2) × (List Int))) (λ((s22,s23,s24):(List j2) × Int × (List Int))=>
   if (decide (s23<(a1.length:Int))) then
    jn (λ((j31,j32):(List j2) × (List Int))=>
     some (.inl (j31,s7 (s23+1),j32))) (λκ30=>
     (ix a1 s23).bind λv34=>
     (a6E s22 v34).bind λv35=>
     if (v35.2.2==0) then
      (app 8 s24 [v35.2.1]).bind λv36=>
      κ30 (v35.1,v36)
     else
     κ30 (s22,s24))
   else
   some (.inr (s22,s24))) (a0,0,[])).bind λe21=>
  κ17 e21)
def b6Y(a0:B1)(a1:Int):Option (B1 × Int):=
 (a9z a0 a1).bind λv1=>
 if (v1.2 != 0) then
  some (a0,v1.2)
 else
 (K1 a0 a1).bind λv2=>
 (ix a0.Cells v2.1).bind λv3=>
 (a0c a0 v2.1 (⟨2,v3.Gen,v3.Val⟩:z8)).bind λv4=>
 some (v4,0)
def b2M(a0:j1)(a1:Int):Option j1:=
 (J5 a0).bind λv1=>
 (b6Y v1 a1).bind λv2=>
 (a0u a0 v2.1).bind λv3=>
 some v3
def a6I(a0:g6)(a1:Int):Option g6:=
 (C6 a0.S a1).bind λv1=>
 (L0 a0.S a1 (⟨v1.1.Serial,0,v1.1.Weak,v1.1.Prog,v1.1.Started,[]⟩:A5)).bind λv2=>
 (b2M v2.1 a1).bind λv3=>
 if (v1.1.Weak==0) then
  (a9A v3 a1).bind λv4=>
  some (⟨v4,a0.Roots,a0.Cells,a0.T,a0.Q⟩:g6)
 else
 some (⟨v3,a0.Roots,a0.Cells,a0.T,a0.Q⟩:g6)
def a9N(a0:g6)(a1:List Int):Option g6:=
 (a9P a0 a1).bind λv1=>
 (b0K a0.Cells v1).bind λv2=>
 jn (λ(j12:x6)=>
  jn (λ(j23:List Int)=>
   (a3L a0.T v1).bind λv24=>
   (app 8 j23 v24.2).bind λv25=>
   jn (λ(j34:g6)=>
    jn (λ(j43:g6)=>
     some j43) (λκ42=>
     (lp (S:=Int × g6) (E:=g6) (λ((s45,s46):Int × g6)=>
      if (decide (s45<(v25.length:Int))) then
       (ix v25 s45).bind λv49=>
       (G5 s46 v49).bind λv50=>
       some (.inl (s7 (s45+1),v50))
      else
      some (.inr s46)) (0,j34)).bind λe44=>
     κ42 e44)) (λκ33=>
    (lp (S:=Int × g6) (E:=g6) (λ((s52,s53):Int × g6)=>
     if (decide (s52<(v1.length:Int))) then
      (ix v1 s52).bind λv56=>
      (a6I s53 v56).bind λv57=>
      some (.inl (s7 (s52+1),v57))
     else
     some (.inr s53)) (0,(⟨a0.S,a0.Roots,v2.1,v24.1,j12⟩:g6))).bind λe51=>
    κ33 e51)) (λκ22=>
   (lp (S:=Int × (List Int)) (E:=(List Int)) (λ((s59,s60):Int × (List Int))=>
    if (decide (s59<(v1.length:Int))) then
     (ix v1 s59).bind λv63=>
     (C6 a0.S v63).bind λv64=>
     (a1x v64.1.Fields).bind λv65=>
     (app 8 s60 v65).bind λv66=>
     some (.inl (s7 (s59+1),v66))
    else
    some (.inr s60)) (0,[])).bind λe58=>
   κ22 e58)) (λκ11=>
  (lp (S:=Int × x6) (E:=x6) (λ((s68,s69):Int × x6)=>
   if (decide (s68<(v2.2.length:Int))) then
    (ix v2.2 s68).bind λv72=>
    (ix v2.1 v72).bind λv73=>
    (a5r s69 (⟨2,v72,v73.Call⟩:p6)).bind λv74=>
    some (.inl (s7 (s68+1),v74.1))
   else
   some (.inr s69)) (0,a0.Q)).bind λe67=>
  κ11 e67)
def W2(a0:g6):Option g6:=
 jn (λ(j21:g6)=>
  some j21) (λκ20=>
  (lp (S:=Int × g6) (E:=g6 ⊕ g6) (λ((s23,s24):Int × g6)=>
   if (decide (s23<100)) then
    jn (λ(j34:g6)=>
     some (.inl (s7 (s23+1),j34))) (λκ33=>
     (a23 s24).bind λv35=>
     if ((v35.length:Int)==0) then
      some (.inr (.inl s24))
     else
     (ix v35 0).bind λv36=>
     (a9O s24 v36).bind λv37=>
     if v37 then
      (a5t s24 v36).bind λv38=>
      κ33 v38
     else
     (cut v35 0 1).bind λv39=>
     (a9N s24 v39).bind λv40=>
     κ33 v40)
   else
   some (.inr (.inr s24))) (0,a0)).bind λe22=>
  match e22 with
  | .inl w=>some w
  | .inr w=>κ20 w)
def a3a(a0:g6)(a1:Int):Option Int:=
 (C6 a0.S a1).bind λv1=>
 some v1.1.Serial
def b1Q(a0:Int):Option ((List Int) × Int):=
 if ((decide (a0<0))||(decide (a0 > 4))) then
  some ([],1)
 else
 (mk 8 a0 (0:Int)).bind λv1=>
 some (v1,0)
def a6D(a0:B1)(a1:Int):Option (B1 × Int × Int):=
 jn (λ(_:Unit)=>
  some (a0,0,4)) (λκ7=>
  (lp (S:=Int) (E:=(B1 × Int × Int) ⊕ Unit) (λ(s10:Int)=>
   if (decide (s10<(a0.Cells.length:Int))) then
    (ix a0.Cells s10).bind λv12=>
    if (v12.State==0) then
     (a0c a0 s10 (⟨1,v12.Gen,a1⟩:z8)).bind λv13=>
     (a1Z s10 v12.Gen).bind λv14=>
     some (.inr (.inl (v13,v14,0)))
    else
    some (.inl (s7 (s10+1)))
   else
   some (.inr (.inr ()))) 0).bind λe9=>
  match e9 with
  | .inl w=>some w
  | .inr w=>κ7 w)
def a10(a0:j1)(a1:Int)(a2:Int):Option (j1 × Int × Int):=
 (b1Q a1).bind λv1=>
 if (v1.2 != 0) then
  some (a0,0,v1.2)
 else
 if ((decide (a2<(-1)))||(decide (a2 > 5))) then
  some (a0,0,13)
 else
 (J5 a0).bind λv2=>
 (a6D v2 0).bind λv3=>
 if (v3.2.2 != 0) then
  some (a0,0,v3.2.2)
 else
 (a0u a0 v3.1).bind λv4=>
 (a4x v3.2.1).bind λv5=>
 (a11 v4 v5 (⟨s7 (a0.Serial+1),0,0,a2,false,v1.1⟩:A5)).bind λv6=>
 some ((⟨v6.Cells,v6.Last,s7 (a0.Serial+1)⟩:j1),v3.2.1,0)
def a20(a0:g6)(a1:Int)(a2:Int):Option (g6 × Int):=
 if ((decide (a1<0))||(decide (a1 > 5))) then
  some (a0,6)
 else
 (T3 a0 a2).bind λv1=>
 if (!v1) then
  some (a0,3)
 else
 (ix a0.Roots a1).bind λv2=>
 (a0v a0 a2).bind λv3=>
 (app 8 [] a0.Roots).bind λv4=>
 (ix v4 a1).bind λv5=>
 (G5 (⟨v3.S,(v4.set (a1).toNat a2),v3.Cells,v3.T,v3.Q⟩:g6) v2).bind λv6=>
 some (v6,0)
def b0M(a0:g6)(a1:Int):Option Int:=
 if ((decide (a1<0))||(decide (a1 > 5))) then
  some 0
 else
 (ix a0.Roots a1).bind λv1=>
 (a3a a0 v1).bind λv2=>
 some v2
def a9E(a0:List p7)(a1:Int):Option (Int × Int):=
 if ((decide (a1<0))||(decide (a1≥(a0.length:Int)))) then
  some (0,7)
 else
 (ix a0 a1).bind λv1=>
 if ((v1.Target==0)||(!v1.Intact)) then
  some (0,9)
 else
 some (v1.Target,0)
def b1R(a0:List j2)(a1:Int):Option (Int × Int):=
 (a7n a0 a1).bind λv1=>
 some (v1.1,v1.2)
def a1z(a0:g6)(a1:a2f):Option (Int × Int):=
 if (a1.Kind==2) then
  (ix a0.Roots a1.B).bind λv1=>
  some (v1,0)
 else
 if (a1.Kind==4) then
  (T4 a0 a1.B).bind λv2=>
  if (v2.2 != 0) then
   some (0,v2.2)
  else
  (a2B a0.S v2.1 a1.C).bind λv3=>
  some (v3.1,v3.2)
 else
 if (a1.Kind==7) then
  (a9E a0.Cells a1.B).bind λv4=>
  some (v4.1,v4.2)
 else
 if (a1.Kind==9) then
  (T4 a0 a1.B).bind λv5=>
  if (v5.2 != 0) then
   some (0,v5.2)
  else
  (b1R a0.T v5.1).bind λv6=>
  some (v6.1,v6.2)
 else
 some (0,0)
def A8(a0:g6)(a1:a2f):Option (g6 × Int × Int):=
 (b0L a1).bind λv1=>
 if (v1 != 0) then
  some (a0,0,v1)
 else
 (a2E a1).bind λv2=>
 if (!v2) then
  some (a0,0,14)
 else
 if (a1.Kind==10) then
  (ix a0.Roots a1.A).bind λv3=>
  (ix a0.Roots a1.B).bind λv4=>
  if (v3==v4) then
   some (a0,1,0)
  else
  some (a0,0,0)
 else
 jn (λ(j6:Bool)=>
  if j6 then
   (a0F a0 a1).bind λv7=>
   if (v7.2.2 != 0) then
    some (a0,0,v7.2.2)
   else
   (W2 v7.1).bind λv8=>
   (a3a a0 v7.2.1).bind λv9=>
   some (v8,v9,0)
  else
  if (a1.Kind==1) then
   (a10 a0.S a1.B a1.C).bind λv10=>
   if (v10.2.2 != 0) then
    some (a0,0,v10.2.2)
   else
   (a20 (⟨v10.1,a0.Roots,a0.Cells,a0.T,a0.Q⟩:g6) a1.A v10.2.1).bind λv11=>
   (W2 v11.1).bind λv12=>
   (b0M v12 a1.A).bind λv13=>
   some (v12,v13,0)
  else
  (a1z a0 a1).bind λv14=>
  if (v14.2 != 0) then
   some (a0,0,v14.2)
  else
  (a20 a0 a1.A v14.1).bind λv15=>
  (W2 v15.1).bind λv16=>
  (b0M v16 a1.A).bind λv17=>
  some (v16,v17,0)) (λκ5=>
  if (a1.Kind==5) then
   κ5 (a1.Kind==5)
  else
  if (a1.Kind==6) then
   κ5 (a1.Kind==6)
  else
  κ5 (a1.Kind==8))
def b5y(a0:g6)(a1:List a2f):Option (g6 × (List Int)):=
 jn (λ((j11,j12):g6 × (List Int))=>
  some (j11,j12)) (λκ10=>
  (lp (S:=Int × g6 × (List Int)) (E:=(g6 × (List Int))) (λ((s15,s16,s17):Int × g6 × (List Int))=>
   if (decide (s15<(a1.length:Int))) then
    (ix a1 s15).bind λv20=>
    (A8 s16 v20).bind λv21=>
    (app 8 s17 [v21.2.1]).bind λv22=>
    some (.inl (s7 (s15+1),v21.1,v22))
   else
   some (.inr (s16,s17))) (0,a0,[])).bind λe14=>
  κ10 e14)
end
end Go.Sh
