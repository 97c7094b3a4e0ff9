/-
 Plain functions: what the functions of the program come to.
-/
import Derived.Test.YtlkcpapbolbjnaaGreatO20fSh0
import Derived.Test.YtlkcpapbolbjnaaGreatO20fPwD
set_option linter.unusedVariables false
set_option linter.unusedSimpArgs false
set_option linter.unusedSectionVars false
namespace Go.Sh
set_option maxRecDepth 100000
noncomputable section
structure k9 where
 Serial:Int
 Strong:Int
 Weak:Int
 Prog:Int
 Started:Bool
 Fields:List Int
structure b8 where
 State:Int
 Gen:Int
 Val:k9
structure g9 where
 Cells:List b8
 Last:Int
structure a7 where
 S:g9
 Serial:Int
structure g7 where
 Target:Int
 Intact:Bool
 Call:Int
structure c9 where
 State:Int
 Key:Int
 Val:Int
structure g8 where
 Kind:Int
 At:Int
 Prog:Int
instance:BEq g8:=⟨λa b=>((a.Kind==b.Kind)&&((a.At==b.At)&&((a.Prog==b.Prog)&&true)))⟩
theorem g8.beq_eq(a b:g8)(h:(a==b)=true):a=b:=by
 have h:((a.Kind==b.Kind)&&((a.At==b.At)&&((a.Prog==b.Prog)&&true)))=true:=h;simp only[Bool.and_eq_true,beq_iff_eq,and_true] at h;obtain⟨h0,h1,h2⟩:=h;cases a;cases b;simp_all
structure g6 where
 L:List g8
 Cap:Int
structure b7 where
 S:a7
 Roots:List Int
 Cells:List g7
 T:List c9
 Q:g6
structure j2 where
 Kind:Int
 A:Int
 B:Int
 C:Int
structure B0 where
 Serial:Int
 Strong:Int
 Weak:Int
 Prog:Int
 Started:Bool
 Fields:List Int
structure l7 where
 State:Int
 Gen:Int
 Val:B0
structure l5 where
 Target:Int
 Intact:Bool
 Call:Int
structure j8 where
 State:Int
 Key:Int
 Val:Int
structure n0 where
 Kind:Int
 At:Int
 Prog:Int
structure k7 where
 Cells:List l7
 Last:Int
 Serial:Int
structure u9 where
 L:List n0
 Cap:Int
structure c7 where
 S:k7
 Roots:List Int
 Cells:List l5
 T:List j8
 Q:u9
structure x4 where
 State:Int
 Gen:Int
 Val:Int
structure x8 where
 Cells:List x4
 Last:Int
structure D3 where
 Key:Int
 Val:Int
structure p9 where
 Kind:Int
 A:Int
 B:Int
 C:Int
structure j4 where
 part:Fv
 least:Int
 most:Int
 e:Int
structure r9 where
 x:b7
 o:j2
structure I6 where
 r:Int
 h:Int
structure G6 where
 h:Int
 k:Int
 v:Int
structure I5 where
 t:List c9
structure C4 where
 kept:Fv
structure m7 where
 Key:Int
 Val:Int
def a9J(a0:a7):Option Bool:=
 jn (λ(_:Unit)=>
  some (decide ((a0.S.Cells.length:Int)≤30))) (λκ5=>
  (lp (S:=Int) (E:=Bool ⊕ Unit) (λ(s8:Int)=>
   if ((decide (s8<(a0.S.Cells.length:Int)))&&(decide (s8<30))) then
    (ix a0.S.Cells s8).bind λv10=>
    if (decide ((v10.Val.Fields.length:Int) > 10)) then
     some (.inr (.inl false))
    else
    some (.inl (x6 (s8+1)))
   else
   some (.inr (.inr ()))) 0).bind λe7=>
  match e7 with
  | .inl w=>some w
  | .inr w=>κ5 w)
def a7r(a0:b7):Option Bool:=
 (a9J a0.S).bind λv1=>
 some ((((v1&&(decide ((a0.Roots.length:Int)≤20)))&&(decide ((a0.Cells.length:Int)≤20)))&&(decide ((a0.T.length:Int)≤20)))&&(decide ((a0.Q.L.length:Int)≤60)))
def b4r(a0:k9):Option B0:=
 some (⟨a0.Serial,a0.Strong,a0.Weak,a0.Prog,a0.Started,a0.Fields⟩:B0)
def b4q(a0:a7):Option k7:=
 jn (λ(j10:List l7)=>
  some (⟨j10,a0.S.Last,a0.Serial⟩:k7)) (λκ9=>
  (lp (S:=Int × (List l7)) (E:=(List l7)) (λ((s12,s13):Int × (List l7))=>
   if (decide (s12<(a0.S.Cells.length:Int))) then
    (ix a0.S.Cells s12).bind λv16=>
    (b4r v16.Val).bind λv17=>
    (app 80 s13 [(⟨v16.State,v16.Gen,v17⟩:l7)]).bind λv18=>
    some (.inl (x6 (s12+1),v18))
   else
   some (.inr s13)) (0,[])).bind λe11=>
  κ9 e11)
def a9I(a0:List g7):Option (List l5):=
 jn (λ(j9:List l5)=>
  some j9) (λκ8=>
  (lp (S:=Int × (List l5)) (E:=(List l5)) (λ((s11,s12):Int × (List l5))=>
   if (decide (s11<(a0.length:Int))) then
    (ix a0 s11).bind λv15=>
    (app 24 s12 [(⟨v15.Target,v15.Intact,v15.Call⟩:l5)]).bind λv16=>
    some (.inl (x6 (s11+1),v16))
   else
   some (.inr s12)) (0,[])).bind λe10=>
  κ8 e10)
def b4s(a0:List c9):Option (List j8):=
 jn (λ(j9:List j8)=>
  some j9) (λκ8=>
  (lp (S:=Int × (List j8)) (E:=(List j8)) (λ((s11,s12):Int × (List j8))=>
   if (decide (s11<(a0.length:Int))) then
    (ix a0 s11).bind λv15=>
    (app 24 s12 [(⟨v15.State,v15.Key,v15.Val⟩:j8)]).bind λv16=>
    some (.inl (x6 (s11+1),v16))
   else
   some (.inr s12)) (0,[])).bind λe10=>
  κ8 e10)
def a9L(a0:g6):Option u9:=
 jn (λ(j9:List n0)=>
  some (⟨j9,a0.Cap⟩:u9)) (λκ8=>
  (lp (S:=Int × (List n0)) (E:=(List n0)) (λ((s11,s12):Int × (List n0))=>
   if (decide (s11<(a0.L.length:Int))) then
    (ix a0.L s11).bind λv15=>
    (app 24 s12 [(⟨v15.Kind,v15.At,v15.Prog⟩:n0)]).bind λv16=>
    some (.inl (x6 (s11+1),v16))
   else
   some (.inr s12)) (0,[])).bind λe10=>
  κ8 e10)
def a0C(a0:b7):Option c7:=
 (b4q a0.S).bind λv1=>
 (a9I a0.Cells).bind λv2=>
 (b4s a0.T).bind λv3=>
 (a9L a0.Q).bind λv4=>
 some (⟨v1,a0.Roots,v2,v3,v4⟩:c7)
def N5(a0:k7):Option x8:=
 jn (λ(j9:List x4)=>
  some (⟨j9,a0.Last⟩:x8)) (λκ8=>
  (lp (S:=Int × (List x4)) (E:=(List x4)) (λ((s11,s12):Int × (List x4))=>
   if (decide (s11<(a0.Cells.length:Int))) then
    (ix a0.Cells s11).bind λv15=>
    (app 24 s12 [(⟨v15.State,v15.Gen,s11⟩:x4)]).bind λv16=>
    some (.inl (x6 (s11+1),v16))
   else
   some (.inr s12)) (0,[])).bind λe10=>
  κ8 e10)
def a9g(a0:x8):Option Bool:=
 if (((decide ((a0.Cells.length:Int) > 24))||(decide (a0.Last<0)))||(decide (a0.Last > 9))) then
  some false
 else
 jn (λ(_:Unit)=>
  some true) (λκ5=>
  (lp (S:=Int) (E:=Bool ⊕ Unit) (λ(s8:Int)=>
   if (decide (s8<(a0.Cells.length:Int))) then
    (ix a0.Cells s8).bind λv10=>
    if ((((decide (v10.State<0))||(decide (v10.State > 3)))||(decide (v10.Gen<0)))||(decide (v10.Gen > a0.Last))) then
     some (.inr (.inl false))
    else
    some (.inl (x6 (s8+1)))
   else
   some (.inr (.inr ()))) 0).bind λe7=>
  match e7 with
  | .inl w=>some w
  | .inr w=>κ5 w)
def a3X(a0:l7):Option Bool:=
 some ((a0.State==1)||(a0.State==2))
def a9h(a0:k7):Option Bool:=
 (N5 a0).bind λv1=>
 (a9g v1).bind λv2=>
 if ((!v2)||(decide (a0.Serial<0))) then
  some false
 else
 jn (λ(_:Unit)=>
  some true) (λκ22=>
  (lp (S:=Int) (E:=Bool ⊕ Unit) (λ(s25:Int)=>
   if (decide (s25<(a0.Cells.length:Int))) then
    jn (λ(_:Unit)=>
     some (.inl (x6 (s25+1)))) (λκ34=>
     (ix a0.Cells s25).bind λv36=>
     (a3X v36).bind λv37=>
     if (!v37) then
      if ((((((v36.Val.Serial != 0)||(v36.Val.Strong != 0))||(v36.Val.Weak != 0))||(v36.Val.Prog != 0))||v36.Val.Started)||((v36.Val.Fields.length:Int) != 0)) then
       some (.inr (.inl false))
      else
      κ34 ()
     else
     if (((((((decide (v36.Val.Serial<1))||(decide (v36.Val.Serial > a0.Serial)))||(decide (v36.Val.Strong<0)))||(decide (v36.Val.Weak<0)))||(decide (v36.Val.Prog<(-1))))||(decide (v36.Val.Prog > 5)))||(decide ((v36.Val.Fields.length:Int) > 4))) then
      some (.inr (.inl false))
     else
     (lp (S:=Int) (E:=Bool ⊕ Unit) (λ(s39:Int)=>
      if (decide (s39<s25)) then
       (ix a0.Cells s39).bind λv41=>
       (a3X v41).bind λv42=>
       if (v42&&(v41.Val.Serial==v36.Val.Serial)) then
        some (.inr (.inl false))
       else
       some (.inl (x6 (s39+1)))
      else
      some (.inr (.inr ()))) 0).bind λe38=>
     match e38 with
     | .inl w=>some (.inr (.inl w))
     | .inr w=>κ34 w)
   else
   some (.inr (.inr ()))) 0).bind λe24=>
  match e24 with
  | .inl w=>some w
  | .inr w=>κ22 w)
def a08(a0:List j8)(a1:Int):Option Int:=
 jn (λ(_:Unit)=>
  some (-1)) (λκ5=>
  (lp (S:=Int) (E:=Int ⊕ Unit) (λ(s8:Int)=>
   if (decide (s8<(a0.length:Int))) then
    (ix a0 s8).bind λv10=>
    if ((v10.State==1)&&(v10.Key==a1)) then
     some (.inr (.inl s8))
    else
    some (.inl (x6 (s8+1)))
   else
   some (.inr (.inr ()))) 0).bind λe7=>
  match e7 with
  | .inl w=>some w
  | .inr w=>κ5 w)
def b1T(a0:Int)(a1:Int):Option Int:=
 if (decide (a0<1)) then
  some 0
 else
 (rem (x6 ((x6 (5*a1))+1)) a0).bind λv1=>
 if (decide (v1<0)) then
  some (x6 (v1+a0))
 else
 some v1
def a9k(a0:List j8):Option Bool:=
 if ((decide ((a0.length:Int)<1))||(decide ((a0.length:Int) > 8))) then
  some false
 else
 jn (λ(_:Unit)=>
  some true) (λκ22=>
  (lp (S:=Int) (E:=Bool ⊕ Unit) (λ(s25:Int)=>
   if (decide (s25<(a0.length:Int))) then
    jn (λ(_:Unit)=>
     some (.inl (x6 (s25+1)))) (λκ35=>
     (ix a0 s25).bind λv37=>
     if (((decide (v37.State<0))||(decide (v37.State > 2)))||((v37.State != 1)&&((v37.Key != 0)||(v37.Val != 0)))) then
      some (.inr (.inl false))
     else
     if (v37.State != 1) then
      κ35 ()
     else
     (a08 a0 v37.Key).bind λv38=>
     if (v38 != s25) then
      some (.inr (.inl false))
     else
     (b1T (a0.length:Int) v37.Key).bind λv39=>
     (lp (S:=Int) (E:=Bool ⊕ Unit) (λ(s41:Int)=>
      if (s41 != s25) then
       (ix a0 s41).bind λv43=>
       if (v43.State==0) then
        some (.inr (.inl false))
       else
       (rem (x6 (s41+1)) (a0.length:Int)).bind λv44=>
       some (.inl v44)
      else
      some (.inr (.inr ()))) v39).bind λe40=>
     match e40 with
     | .inl w=>some (.inr (.inl w))
     | .inr w=>κ35 w)
   else
   some (.inr (.inr ()))) 0).bind λe24=>
  match e24 with
  | .inl w=>some w
  | .inr w=>κ22 w)
def a3e(a0:Int)(a1:Int):Option Int:=
 if ((((decide (a0<0))||(decide (a0 > 23)))||(decide (a1<0)))||(decide (a1 > 9))) then
  some 0
 else
 some (x6 ((x6 (1+a0))+(x6 (32*a1))))
def a6a(a0:Int):Option Bool:=
 if ((decide (a0<1))||(decide (a0 > 400))) then
  some false
 else
 (rem (x6 (a0-1)) 32).bind λv1=>
 (quo .i64 (x6 (a0-1)) 32).bind λv2=>
 (a3e v1 v2).bind λv3=>
 some (v3==a0)
def a59(a0:Int):Option Int:=
 (a6a a0).bind λv1=>
 if (!v1) then
  some (-1)
 else
 (rem (x6 (a0-1)) 32).bind λv2=>
 some v2
def b4c(a0:Int):Option Int:=
 (a6a a0).bind λv1=>
 if (!v1) then
  some (-1)
 else
 (quo .i64 (x6 (a0-1)) 32).bind λv2=>
 some v2
def O2(a0:x8)(a1:Int):Option (Int × Int):=
 if (a1==0) then
  some ((-1),2)
 else
 (a59 a1).bind λv1=>
 if ((decide (v1<0))||(decide (v1≥(a0.Cells.length:Int)))) then
  some ((-1),3)
 else
 (ix a0.Cells v1).bind λv2=>
 (b4c a1).bind λv3=>
 if ((v2.Gen != v3)||((v2.State != 1)&&(v2.State != 2))) then
  some ((-1),3)
 else
 some (v1,0)
def b1K(a0:x8)(a1:Int):Option (Int × Int):=
 (O2 a0 a1).bind λv1=>
 if (v1.2 != 0) then
  some (0,v1.2)
 else
 (ix a0.Cells v1.1).bind λv2=>
 if (v2.State==2) then
  some (0,3)
 else
 some (v2.Val,0)
def F9(a0:k7)(a1:Int):Option (B0 × Int):=
 (N5 a0).bind λv1=>
 (b1K v1 a1).bind λv2=>
 if (v2.2 != 0) then
  some ((⟨0,0,0,0,false,[]⟩:B0),v2.2)
 else
 (ix a0.Cells v2.1).bind λv3=>
 some (v3.Val,0)
def a9s(a0:c7):Option Bool:=
 jn (λ(_:Unit)=>
  some ((a0.Q.Cap==30)&&(decide ((a0.Q.L.length:Int)≤30)))) (λκ30=>
  (lp (S:=Int) (E:=Bool ⊕ Unit) (λ(s33:Int)=>
   if (decide (s33<(a0.Q.L.length:Int))) then
    jn (λ(_:Unit)=>
     some (.inl (x6 (s33+1)))) (λκ47=>
     (ix a0.Q.L s33).bind λv49=>
     if ((((v49.Kind != 1)&&(v49.Kind != 2))||(decide (v49.Prog<0)))||(decide (v49.Prog > 5))) then
      some (.inr (.inl false))
     else
     jn (λ(_:Unit)=>
      (F9 a0.S v49.At).bind λv56=>
      if (((v49.Kind==1)&&((v56.2 != 0)||(!v56.1.Started)))||((v49.Kind==2)&&((decide (v49.At<0))||(decide (v49.At > 5))))) then
       some (.inr (.inl false))
      else
      κ47 ()) (λκ54=>
      (lp (S:=Int) (E:=Bool ⊕ Unit) (λ(s58:Int)=>
       if (decide (s58<s33)) then
        (ix a0.Q.L s58).bind λv60=>
        if ((v60.Kind==v49.Kind)&&(v60.At==v49.At)) then
         some (.inr (.inl false))
        else
        some (.inl (x6 (s58+1)))
       else
       some (.inr (.inr ()))) 0).bind λe57=>
      match e57 with
      | .inl w=>some (.inr (.inl w))
      | .inr w=>κ54 w))
   else
   some (.inr (.inr ()))) 0).bind λe32=>
  match e32 with
  | .inl w=>some w
  | .inr w=>κ30 w)
def X9(a0:c7)(a1:Int):Option Bool:=
 (F9 a0.S a1).bind λv1=>
 some (v1.2==0)
def Y0(a0:c7)(a1:Int):Option Bool:=
 (p7 ((a1==0)==false) false (X9 a0 a1)).bind λv1=>
 some ((a1==0)||v1)
def a4o(a0:k7)(a1:List Int):Option (List Int):=
 (app 8 [] a1).bind λv1=>
 jn (λ(j36:List Int)=>
  some j36) (λκ35=>
  (lp (S:=Int × (List Int)) (E:=(List Int)) (λ((s38,s39):Int × (List Int))=>
   if (decide (s38<(s39.length:Int))) then
    jn (λ(j56:List Int)=>
     some (.inl (x6 (s38+1),j56))) (λκ55=>
     (lp (S:=Int × (List Int)) (E:=(List Int)) (λ((s58,s59):Int × (List Int))=>
      if (decide (s58 > 0)) then
       (N5 a0).bind λv62=>
       (ix s59 (x6 (s58-1))).bind λv63=>
       (O2 v62 v63).bind λv64=>
       (ix s59 s58).bind λv65=>
       (O2 v62 v65).bind λv66=>
       (p7 (((decide (v64.1<0))||(decide (v66.1<0)))==false) (⟨0,0,⟨0,0,0,0,false,[]⟩⟩:l7) (ix a0.Cells v64.1)).bind λv67=>
       (p7 (((decide (v64.1<0))||(decide (v66.1<0)))==false) (⟨0,0,⟨0,0,0,0,false,[]⟩⟩:l7) (ix a0.Cells v66.1)).bind λv68=>
       if (((decide (v64.1<0))||(decide (v66.1<0)))||(decide (v67.Val.Serial≤v68.Val.Serial))) then
        some (.inr s59)
       else
       (ix (s59.set (s58).toNat v63) (x6 (s58-1))).bind λv69=>
       some (.inl (x6 (s58-1),((s59.set (s58).toNat v63).set (x6 (s58-1)).toNat v65)))
      else
      some (.inr s59)) (s38,s39)).bind λe57=>
     κ55 e57)
   else
   some (.inr s39)) (1,v1)).bind λe37=>
  κ35 e37)
def a4n(a0:k7):Option (List Int):=
 jn (λ(j15:List Int)=>
  (a4o a0 j15).bind λv16=>
  some v16) (λκ14=>
  (lp (S:=Int × (List Int)) (E:=(List Int)) (λ((s18,s19):Int × (List Int))=>
   if (decide (s18<(a0.Cells.length:Int))) then
    jn (λ(j26:List Int)=>
     some (.inl (x6 (s18+1),j26))) (λκ25=>
     (ix a0.Cells s18).bind λv27=>
     if (v27.State==1) then
      (a3e s18 v27.Gen).bind λv28=>
      (app 8 s19 [v28]).bind λv29=>
      κ25 v29
     else
     κ25 s19)
   else
   some (.inr s19)) (0,[])).bind λe17=>
  κ14 e17)
def b1U(a0:List j8):Option (List Int):=
 jn (λ(j13:List Int)=>
  some j13) (λκ12=>
  (lp (S:=Int × (List Int)) (E:=(List Int)) (λ((s15,s16):Int × (List Int))=>
   if (decide (s15<(a0.length:Int))) then
    jn (λ(j22:List Int)=>
     some (.inl (x6 (s15+1),j22))) (λκ21=>
     (ix a0 s15).bind λv23=>
     if (v23.State==1) then
      (app 8 s16 [v23.Key]).bind λv24=>
      κ21 v24
     else
     κ21 s16)
   else
   some (.inr s16)) (0,[])).bind λe14=>
  κ12 e14)
def a9j(a0:List j8)(a1:Int):Option (Int × Int):=
 (a08 a0 a1).bind λv1=>
 if (decide (v1<0)) then
  some (0,9)
 else
 (ix a0 v1).bind λv2=>
 some (v2.Val,0)
def a6e(a0:List j8):Option (List D3):=
 (b1U a0).bind λv1=>
 jn (λ(j11:List D3)=>
  some j11) (λκ10=>
  (lp (S:=Int × (List D3)) (E:=(List D3)) (λ((s13,s14):Int × (List D3))=>
   if (decide (s13<(v1.length:Int))) then
    (ix v1 s13).bind λv17=>
    (a9j a0 v17).bind λv18=>
    (app 16 s14 [(⟨v17,v18.1⟩:D3)]).bind λv19=>
    some (.inl (x6 (s13+1),v19))
   else
   some (.inr s14)) (0,[])).bind λe12=>
  κ10 e12)
def a9r(a0:c7):Option Bool:=
 jn (λ(_:Unit)=>
  (a4n a0.S).bind λv8=>
  jn (λ(_:Unit)=>
   (a6e a0.T).bind λv30=>
   jn (λ(_:Unit)=>
    some true) (λκ37=>
    (lp (S:=Int) (E:=Bool ⊕ Unit) (λ(s40:Int)=>
     if (decide (s40<(v30.length:Int))) then
      (ix v30 s40).bind λv42=>
      (X9 a0 v42.Key).bind λv43=>
      (p7 ((!v43)==false) false (X9 a0 v42.Val)).bind λv44=>
      if ((!v43)||(!v44)) then
       some (.inr (.inl false))
      else
      some (.inl (x6 (s40+1)))
     else
     some (.inr (.inr ()))) 0).bind λe39=>
    match e39 with
    | .inl w=>some w
    | .inr w=>κ37 w)) (λκ28=>
   (lp (S:=Int) (E:=Bool ⊕ Unit) (λ(s46:Int)=>
    if (decide (s46<(v8.length:Int))) then
     jn (λ(_:Unit)=>
      some (.inl (x6 (s46+1)))) (λκ55=>
      (ix v8 s46).bind λv57=>
      (F9 a0.S v57).bind λv58=>
      (lp (S:=Int) (E:=Bool ⊕ Unit) (λ(s60:Int)=>
       if (decide (s60<(v58.1.Fields.length:Int))) then
        (ix v58.1.Fields s60).bind λv62=>
        (Y0 a0 v62).bind λv63=>
        if (!v63) then
         some (.inr (.inl false))
        else
        some (.inl (x6 (s60+1)))
       else
       some (.inr (.inr ()))) 0).bind λe59=>
      match e59 with
      | .inl w=>some (.inr (.inl w))
      | .inr w=>κ55 w)
    else
    some (.inr (.inr ()))) 0).bind λe45=>
   match e45 with
   | .inl w=>some w
   | .inr w=>κ28 w)) (λκ6=>
  (lp (S:=Int) (E:=Bool ⊕ Unit) (λ(s65:Int)=>
   if (decide (s65<(a0.Roots.length:Int))) then
    (ix a0.Roots s65).bind λv67=>
    (Y0 a0 v67).bind λv68=>
    if (!v68) then
     some (.inr (.inl false))
    else
    some (.inl (x6 (s65+1)))
   else
   some (.inr (.inr ()))) 0).bind λe64=>
  match e64 with
  | .inl w=>some w
  | .inr w=>κ6 w)
def a2A(a0:u9)(a1:Int):Option Bool:=
 jn (λ(_:Unit)=>
  some false) (λκ5=>
  (lp (S:=Int) (E:=Bool ⊕ Unit) (λ(s8:Int)=>
   if (decide (s8<(a0.L.length:Int))) then
    (ix a0.L s8).bind λv10=>
    if ((v10.Kind==2)&&(v10.At==a1)) then
     some (.inr (.inl true))
    else
    some (.inl (x6 (s8+1)))
   else
   some (.inr (.inr ()))) 0).bind λe7=>
  match e7 with
  | .inl w=>some w
  | .inr w=>κ5 w)
def a9q(a0:c7):Option Bool:=
 jn (λ(_:Unit)=>
  some true) (λκ9=>
  (lp (S:=Int) (E:=Bool ⊕ Unit) (λ(s12:Int)=>
   if (decide (s12<(a0.Cells.length:Int))) then
    (ix a0.Cells s12).bind λv14=>
    (N5 a0.S).bind λv15=>
    (O2 v15 v14.Target).bind λv16=>
    (p7 ((((((decide (v14.Call<(-1)))||(decide (v14.Call > 5)))||((v14.Target==0)&&v14.Intact))||((v14.Target != 0)&&(v16.2 != 0)))==false)&&(v14.Intact==true)) false (X9 a0 v14.Target)).bind λv17=>
    (p7 (((((((decide (v14.Call<(-1)))||(decide (v14.Call > 5)))||((v14.Target==0)&&v14.Intact))||((v14.Target != 0)&&(v16.2 != 0)))==false)&&(v14.Intact==true))&&((!v17)==false)) false (a2A a0.Q s12)).bind λv18=>
    if (((((decide (v14.Call<(-1)))||(decide (v14.Call > 5)))||((v14.Target==0)&&v14.Intact))||((v14.Target != 0)&&(v16.2 != 0)))||(v14.Intact&&((!v17)||v18))) then
     some (.inr (.inl false))
    else
    some (.inl (x6 (s12+1)))
   else
   some (.inr (.inr ()))) 0).bind λe11=>
  match e11 with
  | .inl w=>some w
  | .inr w=>κ9 w)
def b0E(a0:Int)(a1:Int):Option Int:=
 (a3e a0 a1).bind λv1=>
 some v1
def a67(a0:List l5)(a1:Int):Option Int:=
 jn (λ(j11:Int)=>
  some j11) (λκ10=>
  (lp (S:=Int × Int) (E:=Int) (λ((s13,s14):Int × Int)=>
   if (decide (s14<(a0.length:Int))) then
    jn (λ(j19:Int)=>
     some (.inl (j19,x6 (s14+1)))) (λκ18=>
     (ix a0 s14).bind λv20=>
     if ((v20.Target==a1)&&(a1 != 0)) then
      κ18 (x6 (s13+1))
     else
     κ18 s13)
   else
   some (.inr s13)) (0,0)).bind λe12=>
  κ10 e12)
def a9t(a0:c7):Option Bool:=
 jn (λ(_:Unit)=>
  some true) (λκ12=>
  (lp (S:=Int) (E:=Bool ⊕ Unit) (λ(s15:Int)=>
   if (decide (s15<(a0.S.Cells.length:Int))) then
    jn (λ(_:Unit)=>
     some (.inl (x6 (s15+1)))) (λκ20=>
     (ix a0.S.Cells s15).bind λv22=>
     if ((v22.State != 1)&&(v22.State != 2)) then
      κ20 ()
     else
     (b0E s15 v22.Gen).bind λv23=>
     (a67 a0.Cells v23).bind λv24=>
     if ((v22.Val.Weak != v24)||((v22.State==2)&&(((decide (v22.Val.Weak<1))||(decide ((v22.Val.Fields.length:Int) > 0)))||(v22.Val.Strong != 0)))) then
      some (.inr (.inl false))
     else
     κ20 ())
   else
   some (.inr (.inr ()))) 0).bind λe14=>
  match e14 with
  | .inl w=>some w
  | .inr w=>κ12 w)
def a8u(a0:u9):Option (List Int):=
 jn (λ(j13:List Int)=>
  some j13) (λκ12=>
  (lp (S:=Int × (List Int)) (E:=(List Int)) (λ((s15,s16):Int × (List Int))=>
   if (decide (s15<(a0.L.length:Int))) then
    jn (λ(j22:List Int)=>
     some (.inl (x6 (s15+1),j22))) (λκ21=>
     (ix a0.L s15).bind λv23=>
     if (v23.Kind==1) then
      (app 8 s16 [v23.At]).bind λv24=>
      κ21 v24
     else
     κ21 s16)
   else
   some (.inr s16)) (0,[])).bind λe14=>
  κ12 e14)
def a9o(a0:c7):Option (List Int):=
 jn (λ(j13:List Int)=>
  (a8u a0.Q).bind λv14=>
  (app 8 j13 v14).bind λv15=>
  some v15) (λκ12=>
  (lp (S:=Int × (List Int)) (E:=(List Int)) (λ((s17,s18):Int × (List Int))=>
   if (decide (s17<(a0.Roots.length:Int))) then
    jn (λ(j24:List Int)=>
     some (.inl (x6 (s17+1),j24))) (λκ23=>
     (ix a0.Roots s17).bind λv25=>
     if (v25 != 0) then
      (app 8 s18 [v25]).bind λv26=>
      κ23 v26
     else
     κ23 s18)
   else
   some (.inr s18)) (0,[])).bind λe16=>
  κ12 e16)
def a0N(a0:Int):Option Bool:=
 some (decide (a0≥12))
def a9n(a0:k7)(a1:Int):Option Bool:=
 (F9 a0 a1).bind λv1=>
 (a0N v1.1.Strong).bind λv2=>
 some v2
def a2x(a0:List Int):Option (List Int):=
 jn (λ(j13:List Int)=>
  some j13) (λκ12=>
  (lp (S:=Int × (List Int)) (E:=(List Int)) (λ((s15,s16):Int × (List Int))=>
   if (decide (s15<(a0.length:Int))) then
    jn (λ(j22:List Int)=>
     some (.inl (x6 (s15+1),j22))) (λκ21=>
     (ix a0 s15).bind λv23=>
     if (v23 != 0) then
      (app 8 s16 [v23]).bind λv24=>
      κ21 v24
     else
     κ21 s16)
   else
   some (.inr s16)) (0,[])).bind λe14=>
  κ12 e14)
def b4f(a0:k7)(a1:Int):Option (List Int):=
 (F9 a0 a1).bind λv1=>
 if (v1.2 != 0) then
  some []
 else
 (a2x v1.1.Fields).bind λv2=>
 some v2
def a1x(a0:List Int)(a1:Int):Option Int:=
 jn (λ(j11:Int)=>
  some j11) (λκ10=>
  (lp (S:=Int × Int) (E:=Int) (λ((s13,s14):Int × Int)=>
   if (decide (s14<(a0.length:Int))) then
    jn (λ(j19:Int)=>
     some (.inl (j19,x6 (s14+1)))) (λκ18=>
     (ix a0 s14).bind λv20=>
     if ((v20==a1)&&(a1 != 0)) then
      κ18 (x6 (s13+1))
     else
     κ18 s13)
   else
   some (.inr s13)) (0,0)).bind λe12=>
  κ10 e12)
def b8d(a0:k7)(a1:Int):Option Int:=
 (a4n a0).bind λv1=>
 jn (λ(j11:Int)=>
  some j11) (λκ10=>
  (lp (S:=Int × Int) (E:=Int) (λ((s13,s14):Int × Int)=>
   if (decide (s14<(v1.length:Int))) then
    (ix v1 s14).bind λv17=>
    (b4f a0 v17).bind λv18=>
    (a1x v18 a1).bind λv19=>
    some (.inl (x6 (s13+v19),x6 (s14+1)))
   else
   some (.inr s13)) (0,0)).bind λe12=>
  κ10 e12)
def a9l(a0:List j8)(a1:Int):Option Int:=
 (a6e a0).bind λv1=>
 jn (λ(j12:Int)=>
  some j12) (λκ11=>
  (lp (S:=Int × Int) (E:=Int) (λ((s14,s15):Int × Int)=>
   if (decide (s15<(v1.length:Int))) then
    jn (λ(j20:Int)=>
     some (.inl (j20,x6 (s15+1)))) (λκ19=>
     (ix v1 s15).bind λv21=>
     if ((v21.Val==a1)&&(a1 != 0)) then
      κ19 (x6 (s14+1))
     else
     κ19 s14)
   else
   some (.inr s14)) (0,0)).bind λe13=>
  κ11 e13)
def a9m(a0:k7)(a1:List j8)(a2:Int):Option Int:=
 (b8d a0 a2).bind λv1=>
 (a9l a1 a2).bind λv2=>
 some (x6 (v1+v2))
def b1Z(a0:k7)(a1:List j8)(a2:Int):Option Int:=
 (F9 a0 a2).bind λv1=>
 if (v1.2 != 0) then
  some 0
 else
 (a9m a0 a1 a2).bind λv2=>
 some (x6 (v1.1.Strong-v2))
def b1Y(a0:k7)(a1:List j8)(a2:List Int):Option Bool:=
 (a4n a0).bind λv1=>
 jn (λ(_:Unit)=>
  some true) (λκ9=>
  (lp (S:=Int) (E:=Bool ⊕ Unit) (λ(s12:Int)=>
   if (decide (s12<(v1.length:Int))) then
    (ix v1 s12).bind λv14=>
    (a9n a0 v14).bind λv15=>
    (p7 ((!v15)==true) 0 (b1Z a0 a1 v14)).bind λv16=>
    (p7 ((!v15)==true) 0 (a1x a2 v14)).bind λv17=>
    if ((!v15)&&(v16 != v17)) then
     some (.inr (.inl false))
    else
    some (.inl (x6 (s12+1)))
   else
   some (.inr (.inr ()))) 0).bind λe11=>
  match e11 with
  | .inl w=>some w
  | .inr w=>κ9 w)
def a9p(a0:c7):Option Bool:=
 (a9h a0.S).bind λv1=>
 (p7 ((!v1)==false) false (a9k a0.T)).bind λv2=>
 if ((((!v1)||(!v2))||((a0.Roots.length:Int) != 6))||((a0.Cells.length:Int) != 6)) then
  some false
 else
 (a9s a0).bind λv3=>
 (p7 (v3==true) false (a9r a0)).bind λv4=>
 (p7 ((v3&&v4)==true) false (a9q a0)).bind λv5=>
 (p7 (((v3&&v4)&&v5)==true) false (a9t a0)).bind λv6=>
 (p7 ((((v3&&v4)&&v5)&&v6)==true) [] (a9o a0)).bind λv7=>
 (p7 ((((v3&&v4)&&v5)&&v6)==true) false (b1Y a0.S a0.T v7)).bind λv8=>
 some ((((v3&&v4)&&v5)&&v6)&&v8)
def a9K(a0:b7):Option Bool:=
 (a7r a0).bind λv1=>
 (p7 ((v1&&(decide (a0.S.Serial<1000000000)))==true) ⟨⟨[],0,0⟩,[],[],[],⟨[],0⟩⟩ (a0C a0)).bind λv2=>
 (p7 ((v1&&(decide (a0.S.Serial<1000000000)))==true) false (a9p v2)).bind λv3=>
 some ((v1&&(decide (a0.S.Serial<1000000000)))&&v3)
def a6g(a0:c7):Option (List Int):=
 (a4n a0.S).bind λv1=>
 jn (λ(j16:List Int)=>
  some j16) (λκ15=>
  (lp (S:=Int × (List Int)) (E:=(List Int)) (λ((s18,s19):Int × (List Int))=>
   if (decide (s18<(v1.length:Int))) then
    jn (λ(j26:List Int)=>
     some (.inl (x6 (s18+1),j26))) (λκ25=>
     (ix v1 s18).bind λv27=>
     (F9 a0.S v27).bind λv28=>
     if (v28.1.Strong==0) then
      (app 8 s19 [v27]).bind λv29=>
      κ25 v29
     else
     κ25 s19)
   else
   some (.inr s19)) (0,[])).bind λe17=>
  κ15 e17)
def a5h(a0:c7):Option Bool:=
 (a6g a0).bind λv1=>
 some ((v1.length:Int)==0)
def a6s(a0:b7):Option Bool:=
 (a9K a0).bind λv1=>
 (p7 (v1==true) ⟨⟨[],0,0⟩,[],[],[],⟨[],0⟩⟩ (a0C a0)).bind λv2=>
 (p7 (v1==true) false (a5h v2)).bind λv3=>
 some (v1&&v3)
def a34(a0:List (List j2)):Option (List (List p9)):=
 jn (λ(j47:List (List p9))=>
  some j47) (λκ46=>
  (lp (S:=Int × (List (List p9))) (E:=(List (List p9))) (λ((s49,s50):Int × (List (List p9)))=>
   if (decide (s49<(a0.length:Int))) then
    jn (λ(j73:List (List p9))=>
     some (.inl (x6 (s49+1),j73))) (λκ72=>
     jn (λ(j83:List p9)=>
      (app 24 s50 [j83]).bind λv84=>
      κ72 v84) (λκ82=>
      (lp (S:=Int × (List p9)) (E:=(List p9)) (λ((s86,s87):Int × (List p9))=>
       (ix a0 s49).bind λv90=>
       if (decide (s86<(v90.length:Int))) then
        (ix v90 s86).bind λv91=>
        (app 32 s87 [(⟨v91.Kind,v91.A,v91.B,v91.C⟩:p9)]).bind λv92=>
        some (.inl (x6 (s86+1),v92))
       else
       some (.inr s87)) (0,[])).bind λe85=>
      κ82 e85))
   else
   some (.inr s50)) (0,[])).bind λe48=>
  κ46 e48)
def Q6(a0:p9):Option Bool:=
 some ((decide (a0.Kind≥1))&&(decide (a0.Kind≤10)))
def a01(a0:Int)(a1:Int)(a2:Int)(a3:Int):Option Int:=
 if ((decide (a0<a1))||(decide (a0 > a2))) then
  some a3
 else
 some 0
def Y1(a0:Int)(a1:Int)(a2:Int):Option Int:=
 if (a0 != 0) then
  some a0
 else
 if (a1 != 0) then
  some a1
 else
 some a2
def a2B(a0:p9):Option Int:=
 (a01 a0.A 0 5 6).bind λv1=>
 (a01 a0.B 0 5 6).bind λv2=>
 if (a0.Kind==1) then
  (a01 a0.B 0 4 1).bind λv3=>
  (a01 a0.C (-1) 5 13).bind λv4=>
  (Y1 v1 v3 v4).bind λv5=>
  some v5
 else
 jn (λ(j7:Bool)=>
  if j7 then
   (Y1 v1 v2 0).bind λv8=>
   some v8
  else
  if (a0.Kind==3) then
   some v1
  else
  if (a0.Kind==4) then
   (a01 a0.C 0 3 5).bind λv9=>
   (Y1 v1 v2 v9).bind λv10=>
   some v10
  else
  if (a0.Kind==5) then
   (a01 a0.B 0 3 5).bind λv11=>
   (a01 a0.C (-1) 5 6).bind λv12=>
   (Y1 v1 v11 v12).bind λv13=>
   some v13
  else
  if (a0.Kind==6) then
   (a01 a0.A 0 5 7).bind λv14=>
   (a01 a0.B (-1) 5 6).bind λv15=>
   (a01 a0.C (-1) 5 13).bind λv16=>
   (Y1 v14 v15 v16).bind λv17=>
   some v17
  else
  if (a0.Kind==7) then
   (a01 a0.B 0 5 7).bind λv18=>
   (Y1 v1 v18 0).bind λv19=>
   some v19
  else
  if (a0.Kind==8) then
   (a01 a0.B (-1) 5 6).bind λv20=>
   (Y1 v1 v20 0).bind λv21=>
   some v21
  else
  if (a0.Kind==11) then
   some 0
  else
  if (a0.Kind==12) then
   (a01 a0.A 0 200 12).bind λv22=>
   some v22
  else
  some 14) (λκ6=>
  if (a0.Kind==2) then
   κ6 (a0.Kind==2)
  else
  if (a0.Kind==9) then
   κ6 (a0.Kind==9)
  else
  κ6 (a0.Kind==10))
def a9v(a0:List (List p9)):Option Bool:=
 if (decide ((a0.length:Int) > 6)) then
  some false
 else
 jn (λ(_:Unit)=>
  some true) (λκ20=>
  (lp (S:=Int) (E:=Bool ⊕ Unit) (λ(s23:Int)=>
   if (decide (s23<(a0.length:Int))) then
    jn (λ(_:Unit)=>
     some (.inl (x6 (s23+1)))) (λκ32=>
     (ix a0 s23).bind λv34=>
     if (decide ((v34.length:Int) > 6)) then
      some (.inr (.inl false))
     else
     (lp (S:=Int) (E:=Bool ⊕ Unit) (λ(s36:Int)=>
      if (decide (s36<(v34.length:Int))) then
       (ix v34 s36).bind λv38=>
       (Q6 v38).bind λv39=>
       (p7 ((!v39)==false) 0 (a2B v38)).bind λv40=>
       if ((!v39)||(v40 != 0)) then
        some (.inr (.inl false))
       else
       some (.inl (x6 (s36+1)))
      else
      some (.inr (.inr ()))) 0).bind λe35=>
     match e35 with
     | .inl w=>some (.inr (.inl w))
     | .inr w=>κ32 w)
   else
   some (.inr (.inr ()))) 0).bind λe22=>
  match e22 with
  | .inl w=>some w
  | .inr w=>κ20 w)
def a3Q(a0:List (List j2)):Option Bool:=
 jn (λ(_:Unit)=>
  (p7 ((decide ((a0.length:Int)≤10))==true) [] (a34 a0)).bind λv7=>
  (p7 ((decide ((a0.length:Int)≤10))==true) false (a9v v7)).bind λv8=>
  some ((decide ((a0.length:Int)≤10))&&v8)) (λκ5=>
  (lp (S:=Int) (E:=Bool ⊕ Unit) (λ(s10:Int)=>
   if ((decide (s10<(a0.length:Int)))&&(decide (s10<10))) then
    (ix a0 s10).bind λv12=>
    if (decide ((v12.length:Int) > 10)) then
     some (.inr (.inl false))
    else
    some (.inl (x6 (s10+1)))
   else
   some (.inr (.inr ()))) 0).bind λe9=>
  match e9 with
  | .inl w=>some w
  | .inr w=>κ5 w)
def a1q(a0:Int)(a1:Int):Option g9:=
 if ((((decide (a0<0))||(decide (a0 > 24)))||(decide (a1<0)))||(decide (a1 > 9))) then
  some (⟨[],0⟩:g9)
 else
 (mk 80 a0 (⟨0,0,⟨0,0,0,0,false,[]⟩⟩:b8)).bind λv1=>
 some (⟨v1,a1⟩:g9)
def a9A(a0:Int)(a1:Int):Option a7:=
 (a1q a0 a1).bind λv1=>
 some (⟨v1,0⟩:a7)
def c0A(a0:Int):Option (List g7):=
 if ((decide (a0<0))||(decide (a0 > 6))) then
  some []
 else
 (mk 24 a0 (⟨0,false,0⟩:g7)).bind λv1=>
 jn (λ(j9:List g7)=>
  some j9) (λκ8=>
  (lp (S:=Int × (List g7)) (E:=(List g7)) (λ((s11,s12):Int × (List g7))=>
   if (decide (s11<(v1.length:Int))) then
    (ix s12 s11).bind λv15=>
    some (.inl (x6 (s11+1),(s12.set (s11).toNat (⟨v15.Target,v15.Intact,(-1)⟩:g7))))
   else
   some (.inr s12)) (0,v1)).bind λe10=>
  κ8 e10)
def b1k(a0:Int):Option (List c9):=
 if ((decide (a0<1))||(decide (a0 > 8))) then
  some []
 else
 (mk 24 a0 (⟨0,0,0⟩:c9)).bind λv1=>
 some v1
def a0Z(a0:Int):Option g6:=
 some (⟨[],a0⟩:g6)
def b2h:Option g6:=
 (a0Z 30).bind λv1=>
 some v1
def a8h(a0:Int)(a1:Int)(a2:Int):Option b7:=
 if ((((((decide (a0<1))||(decide (a0 > 24)))||(decide (a1<0)))||(decide (a1 > 9)))||(decide (a2<1)))||(decide (a2 > 8))) then
  some (⟨⟨⟨[],0⟩,0⟩,[],[],[],⟨[],0⟩⟩:b7)
 else
 (a9A a0 a1).bind λv1=>
 (mk 8 6 (0:Int)).bind λv2=>
 (c0A 6).bind λv3=>
 (b1k a2).bind λv4=>
 (b2h).bind λv5=>
 some (⟨v1,v2,v3,v4,v5⟩:b7)
def Y8:Option j4:=
 some (⟨(some 307),0,5,6⟩:j4)
def R5:Option j4:=
 some (⟨(some 310),(-1),5,13⟩:j4)
def J7(a0:List j4):Option (List j4):=
 some a0
def Y9:Option j4:=
 some (⟨(some 308),0,5,6⟩:j4)
def V8:Option j4:=
 some (⟨(some 310),0,3,5⟩:j4)
def V7:Option j4:=
 some (⟨(some 308),0,3,5⟩:j4)
def O8:Option j4:=
 some (⟨(some 310),(-1),5,6⟩:j4)
def Y6:Option j4:=
 some (⟨(some 307),0,5,7⟩:j4)
def O7:Option j4:=
 some (⟨(some 308),(-1),5,6⟩:j4)
def Y7:Option j4:=
 some (⟨(some 308),0,5,7⟩:j4)
def a6K:Option (List (Int × (List j4))):=
 (Y8).bind λv1=>
 (R5).bind λv2=>
 (J7 [v1,(⟨(some 308),0,4,1⟩:j4),v2]).bind λv3=>
 (Y9).bind λv4=>
 (J7 [v1,v4]).bind λv5=>
 (J7 [v1]).bind λv6=>
 (V8).bind λv7=>
 (J7 [v1,v4,v7]).bind λv8=>
 (V7).bind λv9=>
 (O8).bind λv10=>
 (J7 [v1,v9,v10]).bind λv11=>
 (Y6).bind λv12=>
 (O7).bind λv13=>
 (J7 [v12,v13,v2]).bind λv14=>
 (Y7).bind λv15=>
 (J7 [v1,v15]).bind λv16=>
 (J7 [v1,v13]).bind λv17=>
 (J7 []).bind λv18=>
 (J7 [(⟨(some 307),0,200,12⟩:j4)]).bind λv19=>
 some (r7 (r7 (r7 (r7 (r7 (r7 (r7 (r7 (r7 (r7 (r7 (r7 [] 1 v3) 2 v5) 3 v6) 4 v8) 5 v11) 6 v14) 7 v16) 8 v17) 9 v5) 10 v5) 11 v18) 12 v19)
def b0o(a0:j2):Option Int:=
 some a0.A
def b0p(a0:j2):Option Int:=
 some a0.B
def b0q(a0:j2):Option Int:=
 some a0.C
def b1f(f:Fv)(a0:j2):Option Int:=
 if f=some 307 then b0o a0 else
 if f=some 308 then b0p a0 else
 if f=some 310 then b0q a0 else
 none
def a38(a0:j2):Option Int:=
 (a6K).bind λv1=>
 if (!((B4 v1 a0.Kind).isSome)) then
  some 14
 else
 jn (λ(_:Unit)=>
  some 0) (λκ8=>
  (lp (S:=Int) (E:=Int ⊕ Unit) (λ(s11:Int)=>
   if (decide (s11<(((B4 v1 a0.Kind).getD ([]:List j4)).length:Int))) then
    (ix ((B4 v1 a0.Kind).getD ([]:List j4)) s11).bind λv13=>
    (b1f v13.part a0).bind λv14=>
    if ((decide (v14<v13.least))||(decide (v14 > v13.most))) then
     some (.inr (.inl v13.e))
    else
    some (.inl (x6 (s11+1)))
   else
   some (.inr (.inr ()))) 0).bind λe10=>
  match e10 with
  | .inl w=>some w
  | .inr w=>κ8 w)
def a2U:Option (List (Int × Fv)):=
 some (r7 (r7 (r7 (r7 (r7 (r7 (r7 (r7 (r7 (r7 [] 1 (some 242)) 2 (some 243)) 3 (some 244)) 4 (some 245)) 5 (some 246)) 6 (some 247)) 7 (some 248)) 8 (some 249)) 9 (some 250)) 10 (some 251))
def b8Y(a0:Int):Option ((List Int) × Int):=
 if ((decide (a0<0))||(decide (a0 > 4))) then
  some ([],1)
 else
 (mk 8 a0 (0:Int)).bind λv1=>
 some (v1,0)
def J3(a0:Int):Option Bool:=
 some ((decide (a0≥(-1)))&&(decide (a0<6)))
def O4(a0:g9):Option g9:=
 some a0
def y6(a0:List b8):Option (List b8):=
 app 80 [] a0
def D1(a0:g9)(a1:Int)(a2:b8):Option g9:=
 (y6 a0.Cells).bind λv1=>
 (ix v1 a1).bind λv2=>
 some (⟨(v1.set (a1).toNat a2),a0.Last⟩:g9)
def a0k(a0:Int)(a1:Int):Option Int:=
 if ((((decide (a0<0))||(decide (a0≥24)))||(decide (a1<0)))||(decide (a1 > 9))) then
  some 0
 else
 some (x6 ((x6 (1+(x6 (a0*1))))+(x6 (a1*32))))
def J5(a0:g9)(a1:k9):Option (g9 × Int × Int):=
 jn (λ(_:Unit)=>
  some (a0,0,4)) (λκ9=>
  (O4 a0).bind λv11=>
  (lp (S:=Int) (E:=(g9 × Int × Int) ⊕ Unit) (λ(s13:Int)=>
   if (decide (s13<(v11.Cells.length:Int))) then
    (ix v11.Cells s13).bind λv15=>
    if ((v15.State==0)==true) then
     (ix a0.Cells s13).bind λv16=>
     (D1 a0 s13 (⟨1,v16.Gen,a1⟩:b8)).bind λv17=>
     (a0k s13 v16.Gen).bind λv18=>
     some (.inr (.inl (v17,v18,0)))
    else
    some (.inl (x6 (s13+1)))
   else
   some (.inr (.inr ()))) 0).bind λe12=>
  match e12 with
  | .inl w=>some w
  | .inr w=>κ9 w)
def S0(a0:a7)(a1:Int)(a2:Int):Option (a7 × Int × Int):=
 (b8Y a1).bind λv1=>
 if (v1.2 != 0) then
  some (a0,0,v1.2)
 else
 (J3 a2).bind λv2=>
 if (!v2) then
  some (a0,0,13)
 else
 (J5 a0.S (⟨x6 (a0.Serial+1),0,0,a2,false,v1.1⟩:k9)).bind λv3=>
 if (v3.2.2 != 0) then
  some (a0,0,v3.2.2)
 else
 some ((⟨v3.1,x6 (a0.Serial+1)⟩:a7),v3.2.1,0)
def a1Q(a0:Int):Option (Int × Int × Bool):=
 if (decide (a0<1)) then
  some ((-1),(-1),false)
 else
 (rem (x6 (a0-1)) 32).bind λv1=>
 (quo .i64 v1 1).bind λv2=>
 (quo .i64 (x6 (a0-1)) 32).bind λv3=>
 if ((decide (v2≥24))||(decide (v3 > 9))) then
  some ((-1),(-1),false)
 else
 some (v2,v3,true)
def a27(a0:Int):Option Int:=
 (a1Q a0).bind λv1=>
 some v1.1
def a4b(a0:Int):Option Int:=
 (a1Q a0).bind λv1=>
 some v1.2.1
def u7(a0:g9)(a1:Int):Option (Int × Int):=
 if (a1==0) then
  some ((-1),2)
 else
 (a27 a1).bind λv1=>
 if ((decide (v1<0))||(decide (v1≥(a0.Cells.length:Int)))) then
  some ((-1),3)
 else
 (ix a0.Cells v1).bind λv2=>
 (a4b a1).bind λv3=>
 if ((v2.Gen != v3)||((v2.State != 1)&&(v2.State != 2))) then
  some ((-1),3)
 else
 some (v1,0)
def D8(a0:g9)(a1:Int):Option (k9 × Int):=
 (u7 a0 a1).bind λv1=>
 if (v1.2 != 0) then
  some ((⟨0,0,0,0,false,[]⟩:k9),v1.2)
 else
 (ix a0.Cells v1.1).bind λv2=>
 if (v2.State==2) then
  some ((⟨0,0,0,0,false,[]⟩:k9),3)
 else
 some (v2.Val,0)
def y5(a0:a7)(a1:Int):Option (k9 × Int):=
 (D8 a0.S a1).bind λv1=>
 some (v1.1,v1.2)
def a0n(a0:b7)(a1:Int):Option Bool:=
 (y5 a0.S a1).bind λv1=>
 some (v1.2==0)
def I0(a0:b7)(a1:Int):Option Bool:=
 (p7 ((a1==0)==false) false (a0n a0 a1)).bind λv1=>
 some ((a1==0)||v1)
def G3(a0:Int):Option Bool:=
 some (decide (a0≥12))
def a4a(a0:Int):Option (Int × Int):=
 (G3 a0).bind λv1=>
 if v1 then
  some (12,0)
 else
 some (x6 ((if 0 > a0 then 0 else a0)+1),0)
def a81(a0:Int):Option Int:=
 (a4a a0).bind λv1=>
 some v1.1
def K9(a0:g9)(a1:Int)(a2:k9):Option (g9 × Int):=
 (u7 a0 a1).bind λv1=>
 if (v1.2 != 0) then
  some (a0,v1.2)
 else
 (ix a0.Cells v1.1).bind λv2=>
 (D1 a0 v1.1 (⟨v2.State,v2.Gen,a2⟩:b8)).bind λv3=>
 some (v3,0)
def L0(a0:a7)(a1:Int)(a2:k9):Option (a7 × Int):=
 (K9 a0.S a1 a2).bind λv1=>
 some ((⟨v1.1,a0.Serial⟩:a7),v1.2)
def U0(a0:b7)(a1:Int):Option b7:=
 (y5 a0.S a1).bind λv1=>
 if (v1.2==0) then
  (a81 v1.1.Strong).bind λv2=>
  (L0 a0.S a1 (⟨v1.1.Serial,v2,v1.1.Weak,v1.1.Prog,v1.1.Started,v1.1.Fields⟩:k9)).bind λv3=>
  some (⟨v3.1,a0.Roots,a0.Cells,a0.T,a0.Q⟩:b7)
 else
 some a0
def a0l(a0:b7)(a1:Int):Option b7:=
 (U0 a0 a1).bind λv1=>
 some v1
def F6(a0:List Int):Option (List Int):=
 app 8 [] a0
def P6(a0:I6)(a1:b7):Option b7:=
 (F6 a1.Roots).bind λv1=>
 (ix v1 a0.r).bind λv2=>
 some (⟨a1.S,(v1.set (a0.r).toNat a0.h),a1.Cells,a1.T,a1.Q⟩:b7)
def a2n(a0:Int):Option (Int × Int):=
 (G3 a0).bind λv1=>
 if v1 then
  some (12,0)
 else
 if (decide (a0<1)) then
  some (0,11)
 else
 some (x6 (a0-1),0)
def b2F(a0:Int):Option (Int × Int):=
 (a2n a0).bind λv1=>
 some (v1.1,v1.2)
def a1R(a0:Int):Option Int:=
 (b2F a0).bind λv1=>
 if (v1.2 != 0) then
  some a0
 else
 some v1.1
def N9(a0:b7)(a1:Int):Option b7:=
 (y5 a0.S a1).bind λv1=>
 if (v1.2==0) then
  (a1R v1.1.Strong).bind λv2=>
  (L0 a0.S a1 (⟨v1.1.Serial,v2,v1.1.Weak,v1.1.Prog,v1.1.Started,v1.1.Fields⟩:k9)).bind λv3=>
  some (⟨v3.1,a0.Roots,a0.Cells,a0.T,a0.Q⟩:b7)
 else
 some a0
def D0(a0:b7)(a1:Int):Option b7:=
 (N9 a0 a1).bind λv1=>
 some v1
def F3(a0:b7)(a1:Int)(a2:Int)(a3:I6):Option b7:=
 (a0l a0 a2).bind λv1=>
 (P6 a3 v1).bind λv2=>
 (D0 v2 a1).bind λv3=>
 some v3
def a0J(a0:b7)(a1:Int)(a2:Int):Option (b7 × Int):=
 if ((decide (a1<0))||(decide (a1≥(a0.Roots.length:Int)))) then
  some (a0,6)
 else
 (I0 a0 a2).bind λv1=>
 if (!v1) then
  some (a0,3)
 else
 (ix a0.Roots a1).bind λv2=>
 (F3 a0 v2 a2 (⟨a1,a2⟩:I6)).bind λv3=>
 some (v3,0)
def B7(a0:r9)(a1:Int)(a2:Int):Option (b7 × Int):=
 if (a2 != 0) then
  some (a0.x,a2)
 else
 (a0J a0.x a0.o.A a1).bind λv1=>
 some (v1.1,v1.2)
def T0(a0:r9):Option (b7 × Int):=
 (S0 a0.x.S a0.o.B a0.o.C).bind λv1=>
 if (v1.2.2 != 0) then
  some (a0.x,v1.2.2)
 else
 (B7 (⟨⟨v1.1,a0.x.Roots,a0.x.Cells,a0.x.T,a0.x.Q⟩,a0.o⟩:r9) v1.2.1 0).bind λv2=>
 some (v2.1,v2.2)
def L6(a0:b7)(a1:Int):Option Int:=
 if ((decide (a1<0))||(decide (a1≥(a0.Roots.length:Int)))) then
  some 0
 else
 (ix a0.Roots a1).bind λv1=>
 some v1
def I8(a0:r9):Option (b7 × Int):=
 (L6 a0.x a0.o.B).bind λv1=>
 (B7 a0 v1 0).bind λv2=>
 some (v2.1,v2.2)
def Z5(a0:r9):Option (b7 × Int):=
 (B7 a0 0 0).bind λv1=>
 some (v1.1,v1.2)
def M2(a0:b7)(a1:Int):Option (Int × Int):=
 (L6 a0 a1).bind λv1=>
 if (v1==0) then
  some (0,2)
 else
 some (v1,0)
def a7q(a0:List Int)(a1:Int):Option Bool:=
 some ((decide (a1≥0))&&(decide (a1<(a0.length:Int))))
def b3f(a0:List Int)(a1:Int):Option (Int × Int):=
 (a7q a0 a1).bind λv1=>
 if (!v1) then
  some (0,5)
 else
 (ix a0 a1).bind λv2=>
 some (v2,0)
def a0A(a0:a7)(a1:Int)(a2:Int):Option (Int × Int):=
 (y5 a0 a1).bind λv1=>
 if (v1.2 != 0) then
  some (0,v1.2)
 else
 (b3f v1.1.Fields a2).bind λv2=>
 some (v2.1,v2.2)
def Z6(a0:r9):Option (b7 × Int):=
 (M2 a0.x a0.o.B).bind λv1=>
 if (v1.2 != 0) then
  some (a0.x,v1.2)
 else
 (a0A a0.x.S v1.1 a0.o.C).bind λv2=>
 (B7 a0 v2.1 v2.2).bind λv3=>
 some (v3.1,v3.2)
def b5V(a0:List Int)(a1:Int)(a2:Int):Option ((List Int) × Int):=
 (a7q a0 a1).bind λv1=>
 if (!v1) then
  some (a0,5)
 else
 (mk 8 (a0.length:Int) (0:Int)).bind λv2=>
 (cpy v2 a0).bind λv3=>
 (ix v3 a1).bind λv4=>
 some ((v3.set (a1).toNat a2),0)
def a9B(a0:a7)(a1:Int)(a2:Int)(a3:Int):Option (a7 × Int):=
 (y5 a0 a1).bind λv1=>
 if (v1.2 != 0) then
  some (a0,v1.2)
 else
 (b5V v1.1.Fields a2 a3).bind λv2=>
 if (v2.2 != 0) then
  some (a0,v2.2)
 else
 (L0 a0 a1 (⟨v1.1.Serial,v1.1.Strong,v1.1.Weak,v1.1.Prog,v1.1.Started,v2.1⟩:k9)).bind λv3=>
 some (v3.1,v3.2)
def a0Y(a0:G6)(a1:b7):Option b7:=
 (a9B a1.S a0.h a0.k a0.v).bind λv1=>
 some (⟨v1.1,a1.Roots,a1.Cells,a1.T,a1.Q⟩:b7)
def I7(a0:b7)(a1:Int)(a2:Int)(a3:G6):Option b7:=
 (a0l a0 a2).bind λv1=>
 (a0Y a3 v1).bind λv2=>
 (D0 v2 a1).bind λv3=>
 some v3
def a2q(a0:b7)(a1:Int)(a2:Int)(a3:Int):Option (b7 × Int):=
 (a0A a0.S a1 a2).bind λv1=>
 if (v1.2 != 0) then
  some (a0,v1.2)
 else
 (I0 a0 a3).bind λv2=>
 if (!v2) then
  some (a0,3)
 else
 (I7 a0 v1.1 a3 (⟨a1,a2,a3⟩:G6)).bind λv3=>
 some (v3,0)
def W3(a0:r9):Option (b7 × Int):=
 (M2 a0.x a0.o.A).bind λv1=>
 if (v1.2 != 0) then
  some (a0.x,v1.2)
 else
 (L6 a0.x a0.o.C).bind λv2=>
 (a2q a0.x v1.1 a0.o.B v2).bind λv3=>
 some (v3.1,v3.2)
def a9D(a0:g6)(a1:Int):Option (g6 × Int):=
 some (a0,a1)
def a4D(a0:g6)(a1:Int):Option Bool:=
 jn (λ(_:Unit)=>
  some false) (λκ6=>
  (a9D a0 2).bind λv8=>
  (lp (S:=Int) (E:=Bool ⊕ Unit) (λ(s10:Int)=>
   if (decide (s10<(v8.1.L.length:Int))) then
    (ix v8.1.L s10).bind λv12=>
    if ((v12.Kind==v8.2)==true) then
     if (v12.At==a1) then
      some (.inr (.inl true))
     else
     some (.inl (x6 (s10+1)))
    else
    some (.inl (x6 (s10+1)))
   else
   some (.inr (.inr ()))) 0).bind λe9=>
  match e9 with
  | .inl w=>some w
  | .inr w=>κ6 w)
def a6u(a0:List g7)(a1:Int):Option Bool:=
 some ((decide (a1≥0))&&(decide (a1<(a0.length:Int))))
def a0E(a0:List g7):Option (List g7):=
 (mk 24 (a0.length:Int) (⟨0,false,0⟩:g7)).bind λv1=>
 (cpy v1 a0).bind λv2=>
 some v2
def b2r(a0:List g7)(a1:Int)(a2:Int)(a3:Int):Option ((List g7) × Int × Int):=
 (a6u a0 a1).bind λv1=>
 if (!v1) then
  some (a0,0,7)
 else
 (a0E a0).bind λv2=>
 (ix v2 a1).bind λv3=>
 (ix a0 a1).bind λv4=>
 some ((v2.set (a1).toNat (⟨a2,(a2 != 0),a3⟩:g7)),v4.Target,0)
def a1w(a0:b7)(a1:Int)(a2:Int):Option b7:=
 (u7 a0.S.S a1).bind λv1=>
 if (v1.2==0) then
  (ix a0.S.S.Cells v1.1).bind λv2=>
  (L0 a0.S a1 (⟨v2.Val.Serial,v2.Val.Strong,x6 (v2.Val.Weak+a2),v2.Val.Prog,v2.Val.Started,v2.Val.Fields⟩:k9)).bind λv3=>
  some (⟨v3.1,a0.Roots,a0.Cells,a0.T,a0.Q⟩:b7)
 else
 some a0
def O3(a0:g9)(a1:Int):Option (g9 × Int):=
 (u7 a0 a1).bind λv1=>
 if (v1.2 != 0) then
  some (a0,v1.2)
 else
 (ix a0.Cells v1.1).bind λv2=>
 if (v2.Gen==a0.Last) then
  (D1 a0 v1.1 (⟨3,v2.Gen,⟨0,0,0,0,false,[]⟩⟩:b8)).bind λv3=>
  some (v3,0)
 else
 (D1 a0 v1.1 (⟨0,x6 (v2.Gen+1),⟨0,0,0,0,false,[]⟩⟩:b8)).bind λv4=>
 some (v4,0)
def a2T(a0:b7)(a1:Int):Option b7:=
 (a1w a0 a1 (-1)).bind λv1=>
 (u7 v1.S.S a1).bind λv2=>
 if (v2.2 != 0) then
  some v1
 else
 (ix v1.S.S.Cells v2.1).bind λv3=>
 if ((v3.State==2)&&(v3.Val.Weak==0)) then
  (O3 v1.S.S a1).bind λv4=>
  some (⟨⟨v4.1,v1.S.Serial⟩,v1.Roots,v1.Cells,v1.T,v1.Q⟩:b7)
 else
 some v1
def a0K(a0:b7)(a1:Int)(a2:Int)(a3:Int):Option (b7 × Int):=
 (p7 (((decide (a1<0))||(decide (a1≥(a0.Cells.length:Int))))==false) false (a4D a0.Q a1)).bind λv1=>
 if (((decide (a1<0))||(decide (a1≥(a0.Cells.length:Int))))||v1) then
  some (a0,7)
 else
 (I0 a0 a2).bind λv2=>
 if (!v2) then
  some (a0,3)
 else
 (b2r a0.Cells a1 a2 a3).bind λv3=>
 (a1w (⟨a0.S,a0.Roots,v3.1,a0.T,a0.Q⟩:b7) a2 1).bind λv4=>
 (a2T v4 v3.2.1).bind λv5=>
 some (v5,0)
def T1(a0:r9):Option (b7 × Int):=
 if (a0.o.B==(-1)) then
  (a0K a0.x a0.o.A 0 a0.o.C).bind λv1=>
  some (v1.1,v1.2)
 else
 (M2 a0.x a0.o.B).bind λv2=>
 if (v2.2 != 0) then
  some (a0.x,v2.2)
 else
 (a0K a0.x a0.o.A v2.1 a0.o.C).bind λv3=>
 some (v3.1,v3.2)
def a6t(a0:List g7)(a1:Int):Option (Int × Int):=
 (a6u a0 a1).bind λv1=>
 if (!v1) then
  some (0,7)
 else
 (ix a0 a1).bind λv2=>
 if ((v2.Target==0)||(!v2.Intact)) then
  some (0,9)
 else
 some (v2.Target,0)
def W9(a0:r9):Option (b7 × Int):=
 (a6t a0.x.Cells a0.o.B).bind λv1=>
 (B7 a0 v1.1 v1.2).bind λv2=>
 some (v2.1,v2.2)
def a3U(a0:Int)(a1:Int):Option (Int × Int):=
 some (a0,a1)
def a0I(a0:Int)(a1:Int):Option Int:=
 if (decide (a0<1)) then
  some 0
 else
 (rem (x6 ((x6 (5*a1))+1)) a0).bind λv1=>
 if (decide (v1<0)) then
  some (x6 (v1+a0))
 else
 some v1
def N3(a0:List c9)(a1:Int):Option Int:=
 jn (λ(_:Unit)=>
  some (-1)) (λκ8=>
  (a3U (a0.length:Int) a1).bind λv10=>
  (lp (S:=Int) (E:=Int ⊕ Unit) (λ(s12:Int)=>
   if (decide (s12<v10.1)) then
    (a0I v10.1 v10.2).bind λv14=>
    (rem (x6 (v14+s12)) v10.1).bind λv15=>
    (ix a0 v15).bind λv16=>
    if (v16.State==0) then
     some (.inr (.inr ()))
    else
    if ((v16.State==1)&&(v16.Key==a1)) then
     some (.inr (.inl v15))
    else
    some (.inl (x6 (s12+1)))
   else
   some (.inr (.inr ()))) 0).bind λe11=>
  match e11 with
  | .inl w=>some w
  | .inr w=>κ8 w)
def M0(a0:List c9)(a1:Int):Option (Int × Int):=
 (N3 a0 a1).bind λv1=>
 if (decide (v1<0)) then
  some (0,9)
 else
 (ix a0 v1).bind λv2=>
 some (v2.Val,0)
def D9(a0:List c9):Option (List c9):=
 app 24 [] a0
def a1v(a0:List c9)(a1:Int)(a2:c9):Option (List c9):=
 (D9 a0).bind λv1=>
 (ix v1 a1).bind λv2=>
 some (v1.set (a1).toNat a2)
def X8(a0:List c9)(a1:Int):Option ((List c9) × Int × Int):=
 (N3 a0 a1).bind λv1=>
 if (decide (v1<0)) then
  some (a0,0,9)
 else
 (a1v a0 v1 (⟨2,0,0⟩:c9)).bind λv2=>
 (ix a0 v1).bind λv3=>
 some (v2,v3.Val,0)
def a8f(a0:List c9)(a1:Int)(a2:Int):Option ((List c9) × Int):=
 (N3 a0 a1).bind λv1=>
 if (decide (v1≥0)) then
  (a1v a0 v1 (⟨1,a1,a2⟩:c9)).bind λv2=>
  some (v2,0)
 else
 jn (λ(_:Unit)=>
  some (a0,8)) (λκ11=>
  (a3U (a0.length:Int) a1).bind λv13=>
  (lp (S:=Int) (E:=((List c9) × Int) ⊕ Unit) (λ(s15:Int)=>
   if (decide (s15<v13.1)) then
    (a0I v13.1 v13.2).bind λv17=>
    (rem (x6 (v17+s15)) v13.1).bind λv18=>
    (ix a0 v18).bind λv19=>
    if (v19.State != 1) then
     (a1v a0 v18 (⟨1,a1,a2⟩:c9)).bind λv20=>
     some (.inr (.inl (v20,0)))
    else
    some (.inl (x6 (s15+1)))
   else
   some (.inr (.inr ()))) 0).bind λe14=>
  match e14 with
  | .inl w=>some w
  | .inr w=>κ11 w)
def X6(a0:List c9)(a1:Int)(a2:Int):Option ((List c9) × Int × Int):=
 if (a1==0) then
  some (a0,0,2)
 else
 (M0 a0 a1).bind λv1=>
 if (a2==0) then
  (X8 a0 a1).bind λv2=>
  some (v2.1,v1.1,0)
 else
 (a8f a0 a1 a2).bind λv3=>
 if (v3.2 != 0) then
  some (a0,0,v3.2)
 else
 some (v3.1,v1.1,0)
def W1(a0:I5)(a1:b7):Option b7:=
 some (⟨a1.S,a1.Roots,a1.Cells,a0.t,a1.Q⟩:b7)
def K0(a0:b7)(a1:Int)(a2:Int)(a3:I5):Option b7:=
 (a0l a0 a2).bind λv1=>
 (W1 a3 v1).bind λv2=>
 (D0 v2 a1).bind λv3=>
 some v3
def a3V(a0:b7)(a1:Int)(a2:Int):Option (b7 × Int):=
 if (a1==0) then
  some (a0,2)
 else
 (I0 a0 a1).bind λv1=>
 (p7 ((!v1)==false) false (I0 a0 a2)).bind λv2=>
 if ((!v1)||(!v2)) then
  some (a0,3)
 else
 (X6 a0.T a1 a2).bind λv3=>
 if (v3.2.2 != 0) then
  some (a0,v3.2.2)
 else
 (K0 a0 v3.2.1 a2 (⟨v3.1⟩:I5)).bind λv4=>
 some (v4,0)
def Z7(a0:r9):Option (b7 × Int):=
 (M2 a0.x a0.o.A).bind λv1=>
 if (v1.2 != 0) then
  some (a0.x,v1.2)
 else
 (L6 a0.x a0.o.B).bind λv2=>
 (a3V a0.x v1.1 v2).bind λv3=>
 some (v3.1,v3.2)
def b2H(a0:List c9)(a1:Int):Option (Int × Int):=
 (M0 a0 a1).bind λv1=>
 some (v1.1,v1.2)
def a0L(a0:r9):Option (b7 × Int):=
 (M2 a0.x a0.o.B).bind λv1=>
 if (v1.2 != 0) then
  some (a0.x,v1.2)
 else
 (b2H a0.x.T v1.1).bind λv2=>
 (B7 a0 v2.1 v2.2).bind λv3=>
 some (v3.1,v3.2)
def P8(a0:r9):Option (b7 × Int):=
 some (a0.x,0)
def b33(f:Fv)(a0:r9):Option (b7 × Int):=
 if f=some 242 then T0 a0 else
 if f=some 243 then I8 a0 else
 if f=some 244 then Z5 a0 else
 if f=some 245 then Z6 a0 else
 if f=some 246 then W3 a0 else
 if f=some 247 then T1 a0 else
 if f=some 248 then W9 a0 else
 if f=some 249 then Z7 a0 else
 if f=some 250 then a0L a0 else
 if f=some 251 then P8 a0 else
 none
def a04(a0:Int):Option Bool:=
 some (a0 != a0)
def a3q(a0:Int)(a1:Int):Option Int:=
 (a04 a0).bind λv1=>
 (a04 a1).bind λv2=>
 if v1 then
  if v2 then
   some 0
  else
  some (-1)
 else
 if v2 then
  some 1
 else
 if (decide (a0<a1)) then
  some (-1)
 else
 if (decide (a0 > a1)) then
  some 1
 else
 some 0
def a3O(a0:Int)(a1:Int)(a2:List (Int × Int)):Option Int:=
 (a3q ((B4 a2 a0).getD (0:Int)) ((B4 a2 a1).getD (0:Int))).bind λv1=>
 some v1
def J1(a0:a7):Option (List Int):=
 jn (λ((j18,j19):(List (Int × Int)) × (List Int))=>
  (b3a (λp q=>a3O p q j18) j19).bind λv21=>
  some v21) (λκ17=>
  (lp (S:=Int × (List (Int × Int)) × (List Int)) (E:=((List (Int × Int)) × (List Int))) (λ((s23,s24,s25):Int × (List (Int × Int)) × (List Int))=>
   if (decide (s23<(a0.S.Cells.length:Int))) then
    jn (λ((j32,j33):(List (Int × Int)) × (List Int))=>
     some (.inl (x6 (s23+1),j32,j33))) (λκ31=>
     (ix a0.S.Cells s23).bind λv35=>
     if (v35.State==1) then
      (a0k s23 v35.Gen).bind λv36=>
      (app 8 s25 [v36]).bind λv37=>
      κ31 ((r7 s24 v36 v35.Val.Serial),v37)
     else
     κ31 (s24,s25))
   else
   some (.inr (s24,s25))) (0,[],[])).bind λe22=>
  κ17 e22)
def a1A(a0:b7):Option (List Int):=
 jn (λ(j16:List Int)=>
  some j16) (λκ15=>
  (J1 a0.S).bind λv17=>
  (lp (S:=Int × (List Int)) (E:=(List Int)) (λ((s19,s20):Int × (List Int))=>
   if (decide (s19<(v17.length:Int))) then
    jn (λ(j27:List Int)=>
     some (.inl (x6 (s19+1),j27))) (λκ26=>
     (ix v17 s19).bind λv28=>
     (y5 a0.S v28).bind λv29=>
     if (v29.1.Strong==0) then
      (app 8 s20 [v28]).bind λv30=>
      κ26 v30
     else
     κ26 s20)
   else
   some (.inr s20)) (0,[])).bind λe18=>
  κ15 e18)
def M4(a0:k9):Option Bool:=
 some ((decide (a0.Prog≥0))&&(!a0.Started))
def J4(a0:g6):Option Int:=
 some (a0.L.length:Int)
def F4(a0:List g8)(a1:Int)(a2:Int):Option (List g8):=
 (cut a0 a1 a2).bind λv1=>
 some v1
def R2(a0:g6)(a1:g8):Option (g6 × Int):=
 (J4 a0).bind λv1=>
 if (decide (v1≥a0.Cap)) then
  some (a0,4)
 else
 (F4 a0.L 0 v1).bind λv2=>
 (app 24 v2 [a1]).bind λv3=>
 some ((⟨v3,a0.Cap⟩:g6),0)
def a8O(a0:g6)(a1:g8):Option (g6 × Int):=
 (R2 a0 a1).bind λv1=>
 some (v1.1,v1.2)
def Y2(a0:b7)(a1:Int):Option b7:=
 (y5 a0.S a1).bind λv1=>
 (p7 ((v1.2 != 0)==false) false (M4 v1.1)).bind λv2=>
 if ((v1.2 != 0)||(!v2)) then
  some a0
 else
 (L0 a0.S a1 (⟨v1.1.Serial,v1.1.Strong,v1.1.Weak,v1.1.Prog,true,v1.1.Fields⟩:k9)).bind λv3=>
 (a8O a0.Q (⟨1,a1,v1.1.Prog⟩:g8)).bind λv4=>
 (a0l (⟨v3.1,a0.Roots,a0.Cells,a0.T,v4.1⟩:b7) a1).bind λv5=>
 some v5
def U7(a0:b7)(a1:List Int):Option (List Int):=
 jn (λ(j18:List Int)=>
  some j18) (λκ17=>
  (lp (S:=Int × (List (Int × Bool)) × (List Int)) (E:=(List Int)) (λ((s20,s21,s22):Int × (List (Int × Bool)) × (List Int))=>
   if (decide (s20<(a1.length:Int))) then
    jn (λ((j29,j30):(List Int) × (List (Int × Bool)))=>
     some (.inl (x6 (s20+1),j30,j29))) (λκ28=>
     (ix a1 s20).bind λv32=>
     (y5 a0.S v32).bind λv33=>
     if ((v33.2==0)==true) then
      if (!((B4 s21 v32).getD (false:Bool))) then
       (app 8 s22 [v32]).bind λv34=>
       κ28 (v34,(r7 s21 v32 true))
      else
      κ28 (s22,s21)
     else
     κ28 (s22,s21))
   else
   some (.inr s22)) (0,[],[])).bind λe19=>
  κ17 e19)
def R3(a0:List Int)(a1:Int):Option Int:=
 jn (λ(_:Unit)=>
  some (-1)) (λκ5=>
  (lp (S:=Int) (E:=Int ⊕ Unit) (λ(s8:Int)=>
   if (decide (s8<(a0.length:Int))) then
    (ix a0 s8).bind λv10=>
    if (a1==v10) then
     some (.inr (.inl s8))
    else
    some (.inl (x6 (s8+1)))
   else
   some (.inr (.inr ()))) 0).bind λe7=>
  match e7 with
  | .inl w=>some w
  | .inr w=>κ5 w)
def N7(a0:List Int)(a1:Int):Option Bool:=
 (R3 a0 a1).bind λv1=>
 some (decide (v1≥0))
def a0T(a0:g7)(a1:List Int):Option Bool:=
 (p7 ((a0.Intact&&(a0.Target != 0))==true) false (N7 a1 a0.Target)).bind λv1=>
 some ((a0.Intact&&(a0.Target != 0))&&v1)
def K4(a0:List g7)(a1:List Int):Option (List Int):=
 jn (λ(j15:List Int)=>
  some j15) (λκ14=>
  (lp (S:=Int × (List Int)) (E:=(List Int)) (λ((s17,s18):Int × (List Int))=>
   if (decide (s17<(a0.length:Int))) then
    jn (λ(j25:List Int)=>
     some (.inl (x6 (s17+1),j25))) (λκ24=>
     (ix a0 s17).bind λv26=>
     (a0T v26 a1).bind λv27=>
     if v27 then
      (app 8 s18 [s17]).bind λv28=>
      κ24 v28
     else
     κ24 s18)
   else
   some (.inr s18)) (0,[])).bind λe16=>
  κ14 e16)
def a4F(a0:List g7)(a1:List Int):Option ((List g7) × (List Int)):=
 (K4 a0 a1).bind λv1=>
 (a0E a0).bind λv2=>
 jn (λ((j22,j23):(List Int) × (List g7))=>
  some (j23,j22)) (λκ21=>
  (lp (S:=Int × (List g7) × (List Int)) (E:=((List Int) × (List g7))) (λ((s26,s27,s28):Int × (List g7) × (List Int))=>
   if (decide (s26<(v1.length:Int))) then
    jn (λ((j36,j37):(List Int) × (List g7))=>
     some (.inl (x6 (s26+1),j37,j36))) (λκ35=>
     (ix v1 s26).bind λv39=>
     (ix s27 v39).bind λv40=>
     (ix (s27.set (v39).toNat (⟨v40.Target,false,v40.Call⟩:g7)) v39).bind λv41=>
     if (decide (v41.Call≥0)) then
      (app 8 s28 [v39]).bind λv42=>
      κ35 (v42,(s27.set (v39).toNat (⟨v40.Target,false,v40.Call⟩:g7)))
     else
     κ35 (s28,(s27.set (v39).toNat (⟨v40.Target,false,v40.Call⟩:g7))))
   else
   some (.inr (s28,s27))) (0,v2,[])).bind λe25=>
  κ21 e25)
def a18(a0:b7)(a1:List Int):Option b7:=
 (a4F a0.Cells a1).bind λv1=>
 jn (λ(j11:g6)=>
  some (⟨a0.S,a0.Roots,v1.1,a0.T,j11⟩:b7)) (λκ10=>
  (lp (S:=Int × g6) (E:=g6) (λ((s13,s14):Int × g6)=>
   if (decide (s13<(v1.2.length:Int))) then
    (ix v1.2 s13).bind λv17=>
    (ix v1.1 v17).bind λv18=>
    (a8O s14 (⟨2,v17,v18.Call⟩:g8)).bind λv19=>
    some (.inl (x6 (s13+1),v19.1))
   else
   some (.inr s14)) (0,a0.Q)).bind λe12=>
  κ10 e12)
def a33(a0:List Int):Option (List Int):=
 some a0
def a32(a0:List Int):Option (List Int):=
 jn (λ(j10:List Int)=>
  some j10) (λκ9=>
  (a33 a0).bind λv11=>
  (lp (S:=Int × (List Int)) (E:=(List Int)) (λ((s13,s14):Int × (List Int))=>
   if (decide (s13<(v11.length:Int))) then
    (ix v11 s13).bind λv17=>
    if ((v17 != 0)==true) then
     (app 8 s14 [v17]).bind λv18=>
     some (.inl (x6 (s13+1),v18))
    else
    some (.inl (x6 (s13+1),s14))
   else
   some (.inr s14)) (0,[])).bind λe12=>
  κ9 e12)
def X7(a0:List c9)(a1:List Int):Option ((List c9) × (List Int)):=
 jn (λ((j18,j19):(List c9) × (List Int))=>
  some (j18,j19)) (λκ17=>
  (lp (S:=(List c9) × Int × (List Int)) (E:=((List c9) × (List Int))) (λ((s22,s23,s24):(List c9) × Int × (List Int))=>
   if (decide (s23<(a1.length:Int))) then
    jn (λ((j31,j32):(List c9) × (List Int))=>
     some (.inl (j31,x6 (s23+1),j32))) (λκ30=>
     (ix a1 s23).bind λv34=>
     (X8 s22 v34).bind λv35=>
     if (v35.2.2==0) then
      (app 8 s24 [v35.2.1]).bind λv36=>
      κ30 (v35.1,v36)
     else
     κ30 (s22,s24))
   else
   some (.inr (s22,s24))) (a0,0,[])).bind λe21=>
  κ17 e21)
def T2(a0:g9)(a1:Int):Option (g9 × Int):=
 (D8 a0 a1).bind λv1=>
 if (v1.2 != 0) then
  some (a0,v1.2)
 else
 (a27 a1).bind λv2=>
 (a4b a1).bind λv3=>
 (D1 a0 v2 (⟨2,v3,v1.1⟩:b8)).bind λv4=>
 some (v4,0)
def Y3(a0:b7)(a1:Int):Option b7:=
 (y5 a0.S a1).bind λv1=>
 (L0 a0.S a1 (⟨v1.1.Serial,0,v1.1.Weak,v1.1.Prog,v1.1.Started,[]⟩:k9)).bind λv2=>
 (T2 v2.1.S a1).bind λv3=>
 if (v1.1.Weak==0) then
  (O3 v3.1 a1).bind λv4=>
  some (⟨⟨v4.1,v2.1.Serial⟩,a0.Roots,a0.Cells,a0.T,a0.Q⟩:b7)
 else
 some (⟨⟨v3.1,v2.1.Serial⟩,a0.Roots,a0.Cells,a0.T,a0.Q⟩:b7)
def a1z(a0:b7)(a1:List Int):Option b7:=
 (U7 a0 a1).bind λv1=>
 (a18 a0 v1).bind λv2=>
 jn (λ(j13:List Int)=>
  (X7 v2.T v1).bind λv14=>
  (app 8 j13 v14.2).bind λv15=>
  jn (λ(j24:b7)=>
   jn (λ(j33:b7)=>
    some j33) (λκ32=>
    (lp (S:=Int × b7) (E:=b7) (λ((s35,s36):Int × b7)=>
     if (decide (s35<(v15.length:Int))) then
      (ix v15 s35).bind λv39=>
      (D0 s36 v39).bind λv40=>
      some (.inl (x6 (s35+1),v40))
     else
     some (.inr s36)) (0,j24)).bind λe34=>
    κ32 e34)) (λκ23=>
   (lp (S:=Int × b7) (E:=b7) (λ((s42,s43):Int × b7)=>
    if (decide (s42<(v1.length:Int))) then
     (ix v1 s42).bind λv46=>
     (Y3 s43 v46).bind λv47=>
     some (.inl (x6 (s42+1),v47))
    else
    some (.inr s43)) (0,(⟨v2.S,v2.Roots,v2.Cells,v14.1,v2.Q⟩:b7))).bind λe41=>
   κ23 e41)) (λκ12=>
  (lp (S:=Int × (List Int)) (E:=(List Int)) (λ((s49,s50):Int × (List Int))=>
   if (decide (s49<(v1.length:Int))) then
    (ix v1 s49).bind λv53=>
    (y5 v2.S v53).bind λv54=>
    (a32 v54.1.Fields).bind λv55=>
    (app 8 s50 v55).bind λv56=>
    some (.inl (x6 (s49+1),v56))
   else
   some (.inr s50)) (0,[])).bind λe48=>
  κ12 e48)
def R9(a0:b7):Option b7:=
 (lp (S:=b7) (E:=b7) (λ(s2:b7)=>
  (a1A s2).bind λv4=>
  if ((v4.length:Int)==0) then
   some (.inr s2)
  else
  (ix v4 0).bind λv5=>
  (y5 s2.S v5).bind λv6=>
  (M4 v6.1).bind λv7=>
  if v7 then
   (Y2 s2 v5).bind λv8=>
   some (.inl v8)
  else
  (cut v4 0 1).bind λv9=>
  (a1z s2 v9).bind λv10=>
  some (.inl v10)) a0).bind λe1=>
 some e1
def a1Z(a0:b7)(a1:Int):Option Int:=
 (y5 a0.S a1).bind λv1=>
 some v1.1.Serial
def W2(a0:b7)(a1:Int):Option Int:=
 (L6 a0 a1).bind λv1=>
 (a1Z a0 v1).bind λv2=>
 some v2
def U1(a0:b7)(a1:b7)(a2:j2):Option Int:=
 if (a2.Kind==5) then
  (W2 a0 a2.C).bind λv1=>
  some v1
 else
 jn (λ(j3:Bool)=>
  if j3 then
   (W2 a0 a2.B).bind λv4=>
   some v4
  else
  if (a2.Kind==10) then
   (L6 a0 a2.A).bind λv5=>
   (L6 a0 a2.B).bind λv6=>
   if (v5==v6) then
    some 1
   else
   some 0
  else
  (W2 a1 a2.A).bind λv7=>
  some v7) (λκ2=>
  if (a2.Kind==6) then
   κ2 (a2.Kind==6)
  else
  κ2 (a2.Kind==8))
def w9(a0:b7)(a1:j2):Option (b7 × Int × Int):=
 (a38 a1).bind λv1=>
 if (v1 != 0) then
  some (a0,0,v1)
 else
 (a2U).bind λv2=>
 if (!((B4 v2 a1.Kind).isSome)) then
  some (a0,0,14)
 else
 (b33 ((B4 v2 a1.Kind).getD (none:Fv)) (⟨a0,a1⟩:r9)).bind λv3=>
 if (v3.2 != 0) then
  some (a0,0,v3.2)
 else
 (R9 v3.1).bind λv5=>
 (U1 v3.1 v5 a1).bind λv6=>
 some (v5,v6,0)
def a0p(a0:b7)(a1:List j2):Option (b7 × (List Int)):=
 jn (λ((j11,j12):b7 × (List Int))=>
  some (j11,j12)) (λκ10=>
  (lp (S:=Int × b7 × (List Int)) (E:=(b7 × (List Int))) (λ((s15,s16,s17):Int × b7 × (List Int))=>
   if (decide (s15<(a1.length:Int))) then
    (ix a1 s15).bind λv20=>
    (w9 s16 v20).bind λv21=>
    (app 8 s17 [v21.2.1]).bind λv22=>
    some (.inl (x6 (s15+1),v21.1,v22))
   else
   some (.inr (s16,s17))) (0,a0,[])).bind λe14=>
  κ10 e14)
def Z2(a0:g6)(a1:Int):Option (g6 × (List g8)):=
 (J4 a0).bind λv1=>
 (F4 a0.L 0 (if (if v1<a1 then v1 else a1) > 0 then (if v1<a1 then v1 else a1) else 0)).bind λv2=>
 (F4 a0.L (if (if v1<a1 then v1 else a1) > 0 then (if v1<a1 then v1 else a1) else 0) v1).bind λv3=>
 some ((⟨v3,a0.Cap⟩:g6),v2)
def a00(a0:g6):Option (g6 × g8 × Int):=
 (Z2 a0 1).bind λv1=>
 if ((v1.2.length:Int)==0) then
  some (a0,(⟨0,0,0⟩:g8),10)
 else
 (ix v1.2 0).bind λv2=>
 some (v1.1,v2,0)
def a1C(a0:g6):Option (g6 × g8 × Int):=
 (a00 a0).bind λv1=>
 some (v1.1,v1.2.1,v1.2.2)
def a0h(a0:b7):Option Bool:=
 (a1C a0.Q).bind λv1=>
 some (v1.2.2 != 0)
def a2p(a0:List (List j2))(a1:Int):Option (List j2):=
 if ((decide (a1<0))||(decide (a1≥(a0.length:Int)))) then
  some []
 else
 (ix a0 a1).bind λv1=>
 some v1
def a2o(a0:List (List j2))(a1:g8):Option Int:=
 (a2p a0 a1.Prog).bind λv1=>
 some (x6 (1+(v1.length:Int)))
def V9(a0:b7)(a1:List (List j2)):Option (b7 × g8 × Int):=
 (a1C a0.Q).bind λv1=>
 if (v1.2.2 != 0) then
  some (a0,(⟨0,0,0⟩:g8),v1.2.2)
 else
 jn (λ(j6:b7)=>
  (a2p a1 v1.2.1.Prog).bind λv7=>
  (a0p j6 v7).bind λv8=>
  if (v1.2.1.Kind==1) then
   (a0J v8.1 5 0).bind λv9=>
   (R9 v9.1).bind λv10=>
   some (v10,v1.2.1,0)
  else
  some (v8.1,v1.2.1,0)) (λκ5=>
  if (v1.2.1.Kind==1) then
   (a0J (⟨a0.S,a0.Roots,a0.Cells,a0.T,v1.1⟩:b7) 5 v1.2.1.At).bind λv11=>
   (D0 v11.1 v1.2.1.At).bind λv12=>
   (R9 v12).bind λv13=>
   κ5 v13
  else
  κ5 (⟨a0.S,a0.Roots,a0.Cells,a0.T,v1.1⟩:b7))
def V4(a0:b7)(a1:List (List j2))(a2:Int):Option (b7 × Int × Int × Int):=
 jn (λ((j14,j15,j16):Int × Int × b7)=>
  (a0h j16).bind λv18=>
  if (!v18) then
   some (j16,j14,j15,12)
  else
  some (j16,j14,j15,0)) (λκ13=>
  (lp (S:=Int × b7 × Int × Int × b7) (E:=(Int × Int × b7)) (λ((s20,s21,s22,s23,s24):Int × b7 × Int × Int × b7)=>
   (a0h s21).bind λv27=>
   if (!v27) then
    (a1C s21.Q).bind λv28=>
    (a2o a1 v28.2.1).bind λv29=>
    if (decide (v29 > s20)) then
     some (.inr (s22,s23,s24))
    else
    (V9 s21 a1).bind λv30=>
    some (.inl (x6 (s20-v29),v30.1,x6 (s22+1),x6 (s20-v29),v30.1))
   else
   some (.inr (s22,s23,s24))) (a2,a0,0,a2,a0)).bind λe19=>
  κ13 e19)
def a5l:Option (List C4):=
 some [(⟨(some 338)⟩:C4),(⟨(some 339)⟩:C4),(⟨(some 340)⟩:C4),(⟨(some 341)⟩:C4)]
def X5(a0:a7)(a1:b8):Option Bool:=
 some ((decide (a1.State≥0))&&(decide (a1.State≤3)))
def M6(a0:a7)(a1:b8):Option Bool:=
 some ((decide (a1.Gen≥0))&&(decide (a1.Gen≤a0.S.Last)))
def J2(a0:b8):Option Bool:=
 some ((a0.State==1)||(a0.State==2))
def U8(a0:a7)(a1:b8):Option Bool:=
 (J2 a1).bind λv1=>
 (p7 (((!v1)==false)&&(((((decide (a1.Val.Serial≥1))&&(decide (a1.Val.Serial≤a0.Serial)))&&(decide (a1.Val.Strong≥0)))&&(decide (a1.Val.Weak≥0)))==true)) false (J3 a1.Val.Prog)).bind λv2=>
 some ((!v1)||((((((decide (a1.Val.Serial≥1))&&(decide (a1.Val.Serial≤a0.Serial)))&&(decide (a1.Val.Strong≥0)))&&(decide (a1.Val.Weak≥0)))&&v2)&&(decide ((a1.Val.Fields.length:Int)≤4))))
def O5(a0:a7)(a1:b8):Option Bool:=
 (J2 a1).bind λv1=>
 some (v1||((((a1.Val.Serial==0)&&((a1.Val.Strong==0)&&((a1.Val.Weak==0)&&((a1.Val.Prog==0)&&true))))&&(!a1.Val.Started))&&((a1.Val.Fields.length:Int)==0)))
def b34(f:Fv)(a0:a7)(a1:b8):Option Bool:=
 if f=some 338 then X5 a0 a1 else
 if f=some 339 then M6 a0 a1 else
 if f=some 340 then U8 a0 a1 else
 if f=some 341 then O5 a0 a1 else
 none
def T3(a0:a7):Option Bool:=
 jn (λ(_:Unit)=>
  some true) (λκ12=>
  (lp (S:=Int × (List (Int × Bool))) (E:=Bool ⊕ Unit) (λ((s15,s16):Int × (List (Int × Bool)))=>
   if (decide (s15<(a0.S.Cells.length:Int))) then
    jn (λ(j22:List (Int × Bool))=>
     some (.inl (x6 (s15+1),j22))) (λκ21=>
     (ix a0.S.Cells s15).bind λv23=>
     (J2 v23).bind λv24=>
     if (!v24) then
      κ21 s16
     else
     if ((B4 s16 v23.Val.Serial).getD (false:Bool)) then
      some (.inr (.inl false))
     else
     κ21 (r7 s16 v23.Val.Serial true))
   else
   some (.inr (.inr ()))) (0,[])).bind λe14=>
  match e14 with
  | .inl w=>some w
  | .inr w=>κ12 w)
def a3i(a0:a7):Option Bool:=
 if ((((decide ((a0.S.Cells.length:Int) > 24))||(decide (a0.S.Last<0)))||(decide (a0.S.Last > 9)))||(decide (a0.Serial<0))) then
  some false
 else
 jn (λ(_:Unit)=>
  (T3 a0).bind λv24=>
  some v24) (λκ22=>
  (lp (S:=Int) (E:=Bool ⊕ Unit) (λ(s26:Int)=>
   if (decide (s26<(a0.S.Cells.length:Int))) then
    jn (λ(_:Unit)=>
     some (.inl (x6 (s26+1)))) (λκ36=>
     (ix a0.S.Cells s26).bind λv38=>
     (a5l).bind λv39=>
     (lp (S:=Int) (E:=Bool ⊕ Unit) (λ(s41:Int)=>
      if (decide (s41<(v39.length:Int))) then
       (ix v39 s41).bind λv43=>
       (b34 v43.kept a0 v38).bind λv44=>
       if (!v44) then
        some (.inr (.inl false))
       else
       some (.inl (x6 (s41+1)))
      else
      some (.inr (.inr ()))) 0).bind λe40=>
     match e40 with
     | .inl w=>some (.inr (.inl w))
     | .inr w=>κ36 w)
   else
   some (.inr (.inr ()))) 0).bind λe25=>
  match e25 with
  | .inl w=>some w
  | .inr w=>κ22 w)
def a6N(a0:List c9):Option Bool:=
 if ((decide ((a0.length:Int)<1))||(decide ((a0.length:Int) > 8))) then
  some false
 else
 jn (λ(_:Unit)=>
  some true) (λκ6=>
  (lp (S:=Int) (E:=Bool ⊕ Unit) (λ(s9:Int)=>
   if (decide (s9<(a0.length:Int))) then
    (ix a0 s9).bind λv11=>
    (p7 (((!(((v11.State==0)&&((v11.Key==0)&&((v11.Val==0)&&true)))||((v11.State==2)&&((v11.Key==0)&&((v11.Val==0)&&true)))))==true)&&((v11.State != 1)==false)) 0 (N3 a0 v11.Key)).bind λv12=>
    if ((!(((v11.State==0)&&((v11.Key==0)&&((v11.Val==0)&&true)))||((v11.State==2)&&((v11.Key==0)&&((v11.Val==0)&&true)))))&&((v11.State != 1)||(v12 != s9))) then
     some (.inr (.inl false))
    else
    some (.inl (x6 (s9+1)))
   else
   some (.inr (.inr ()))) 0).bind λe8=>
  match e8 with
  | .inl w=>some w
  | .inr w=>κ6 w)
def a1V(a0:b7):Option Bool:=
 (b2h).bind λv1=>
 (a3i a0.S).bind λv2=>
 (p7 (v2==true) false (a6N a0.T)).bind λv3=>
 some (((((v2&&v3)&&((a0.Roots.length:Int)==6))&&((a0.Cells.length:Int)==6))&&(a0.Q.Cap==v1.Cap))&&(decide ((a0.Q.L.length:Int)≤v1.Cap)))
def a2r(a0:Int)(a1:b7):Option Bool:=
 (I0 a1 a0).bind λv1=>
 some v1
def F8(a0:List Int)(a1:b7):Option Bool:=
 jn (λ(_:Unit)=>
  some true) (λκ6=>
  (lp (S:=Int) (E:=Bool ⊕ Unit) (λ(s9:Int)=>
   if (decide (s9<(a0.length:Int))) then
    (ix a0 s9).bind λv11=>
    (a2r v11 a1).bind λv12=>
    if (!v12) then
     some (.inr (.inl false))
    else
    some (.inl (x6 (s9+1)))
   else
   some (.inr (.inr ()))) 0).bind λe8=>
  match e8 with
  | .inl w=>some w
  | .inr w=>κ6 w)
def a0o(a0:b7):Option Bool:=
 (F6 a0.Roots).bind λv1=>
 jn (λ(j12:List Int)=>
  (F8 j12 a0).bind λv13=>
  some v13) (λκ11=>
  (J1 a0.S).bind λv14=>
  (lp (S:=Int × (List Int)) (E:=(List Int)) (λ((s16,s17):Int × (List Int))=>
   if (decide (s16<(v14.length:Int))) then
    (ix v14 s16).bind λv20=>
    (y5 a0.S v20).bind λv21=>
    (app 8 s17 v21.1.Fields).bind λv22=>
    some (.inl (x6 (s16+1),v22))
   else
   some (.inr s17)) (0,v1)).bind λe15=>
  κ11 e15)
def a1t(a0:List c9):Option (List c9):=
 some a0
def a5V(a0:List c9):Option (List Int):=
 jn (λ(j13:List Int)=>
  some j13) (λκ12=>
  (lp (S:=Int × (List Int)) (E:=(List Int)) (λ((s15,s16):Int × (List Int))=>
   if (decide (s15<(a0.length:Int))) then
    jn (λ(j22:List Int)=>
     some (.inl (x6 (s15+1),j22))) (λκ21=>
     (ix a0 s15).bind λv23=>
     if (v23.State==1) then
      (app 8 s16 [v23.Key]).bind λv24=>
      κ21 v24
     else
     κ21 s16)
   else
   some (.inr s16)) (0,[])).bind λe14=>
  κ12 e14)
def a2P(a0:m7):Option Bool:=
 some true
def A7(a0:List c9):Option (List m7):=
 jn (λ(j16:List m7)=>
  some j16) (λκ15=>
  (a5V a0).bind λv17=>
  (lp (S:=Int × (List m7)) (E:=(List m7)) (λ((s19,s20):Int × (List m7))=>
   if (decide (s19<(v17.length:Int))) then
    (ix v17 s19).bind λv23=>
    (M0 a0 v23).bind λv24=>
    jn (λ(j28:List m7)=>
     some (.inl (x6 (s19+1),j28))) (λκ27=>
     (a2P (⟨v23,v24.1⟩:m7)).bind λv29=>
     if v29 then
      (app 16 s20 [(⟨v23,v24.1⟩:m7)]).bind λv30=>
      κ27 v30
     else
     κ27 s20)
   else
   some (.inr s20)) (0,[])).bind λe18=>
  κ15 e18)
def a4U(a0:List c9):Option (List m7):=
 (a1t a0).bind λv1=>
 (A7 v1).bind λv2=>
 some v2
def a2s(a0:m7)(a1:b7):Option Bool:=
 (a0n a1 a0.Key).bind λv1=>
 (p7 (v1==true) false (a0n a1 a0.Val)).bind λv2=>
 some (v1&&v2)
def C5(a0:List m7)(a1:b7):Option Bool:=
 jn (λ(_:Unit)=>
  some true) (λκ6=>
  (lp (S:=Int) (E:=Bool ⊕ Unit) (λ(s9:Int)=>
   if (decide (s9<(a0.length:Int))) then
    (ix a0 s9).bind λv11=>
    (a2s v11 a1).bind λv12=>
    if (!v12) then
     some (.inr (.inl false))
    else
    some (.inl (x6 (s9+1)))
   else
   some (.inr (.inr ()))) 0).bind λe8=>
  match e8 with
  | .inl w=>some w
  | .inr w=>κ6 w)
def a1U(a0:b7):Option Bool:=
 (a4U a0.T).bind λv1=>
 (C5 v1 a0).bind λv2=>
 some v2
def a1W(a0:b7)(a1:g8):Option Bool:=
 if (a1.Kind==1) then
  (y5 a0.S a1.At).bind λv1=>
  some ((v1.2==0)&&v1.1.Started)
 else
 if (a1.Kind==2) then
  (p7 (((decide (a1.At≥0))&&(decide (a1.At<(a0.Cells.length:Int))))==true) (⟨0,false,0⟩:g7) (ix a0.Cells a1.At)).bind λv2=>
  some (((decide (a1.At≥0))&&(decide (a1.At<(a0.Cells.length:Int))))&&(!v2.Intact))
 else
 some false
def a2S(a0:b7):Option Bool:=
 jn (λ((j18,j19):Bool × (List (g8 × Bool)))=>
  some j18) (λκ17=>
  jn (λ(j29:List (g8 × Bool))=>
   κ17 (true,j29)) (λκ28=>
   (lp (S:=Int × (List (g8 × Bool))) (E:=(Bool × (List (g8 × Bool))) ⊕ (List (g8 × Bool))) (λ((s31,s32):Int × (List (g8 × Bool)))=>
    if (decide (s31<(a0.Q.L.length:Int))) then
     (ix a0.Q.L s31).bind λv35=>
     (p7 ((((!((B4 s32 (⟨v35.Kind,v35.At,0⟩:g8)).getD (false:Bool)))&&(decide (v35.Prog≥0)))&&(decide (v35.Prog<6)))==true) false (a1W a0 v35)).bind λv36=>
     if (!((((!((B4 s32 (⟨v35.Kind,v35.At,0⟩:g8)).getD (false:Bool)))&&(decide (v35.Prog≥0)))&&(decide (v35.Prog<6)))&&v36)) then
      some (.inr (.inl (false,(r7 s32 (⟨v35.Kind,v35.At,0⟩:g8) true))))
     else
     some (.inl (x6 (s31+1),(r7 s32 (⟨v35.Kind,v35.At,0⟩:g8) true)))
    else
    some (.inr (.inr s32))) (0,[])).bind λe30=>
   match e30 with
   | .inl w=>κ17 w
   | .inr w=>κ28 w))
def a3s(a0:g7)(a1:b7):Option Bool:=
 if ((decide (a0.Call<(-1)))||(decide (a0.Call≥6))) then
  some false
 else
 if a0.Intact then
  (a0n a1 a0.Target).bind λv1=>
  some v1
 else
 (u7 a1.S.S a0.Target).bind λv2=>
 some ((a0.Target==0)||(v2.2==0))
def D6(a0:List g7)(a1:b7):Option Bool:=
 jn (λ(_:Unit)=>
  some true) (λκ6=>
  (lp (S:=Int) (E:=Bool ⊕ Unit) (λ(s9:Int)=>
   if (decide (s9<(a0.length:Int))) then
    (ix a0 s9).bind λv11=>
    (a3s v11 a1).bind λv12=>
    if (!v12) then
     some (.inr (.inl false))
    else
    some (.inl (x6 (s9+1)))
   else
   some (.inr (.inr ()))) 0).bind λe8=>
  match e8 with
  | .inl w=>some w
  | .inr w=>κ6 w)
def a2Q(a0:b7):Option Bool:=
 (D6 a0.Cells a0).bind λv1=>
 some v1
def a2Z(a0:g7)(a1:Int):Option Bool:=
 some ((a1 != 0)&&(a0.Target==a1))
def Q0(a0:List g7)(a1:Int):Option (List Int):=
 jn (λ(j15:List Int)=>
  some j15) (λκ14=>
  (lp (S:=Int × (List Int)) (E:=(List Int)) (λ((s17,s18):Int × (List Int))=>
   if (decide (s17<(a0.length:Int))) then
    jn (λ(j25:List Int)=>
     some (.inl (x6 (s17+1),j25))) (λκ24=>
     (ix a0 s17).bind λv26=>
     (a2Z v26 a1).bind λv27=>
     if v27 then
      (app 8 s18 [s17]).bind λv28=>
      κ24 v28
     else
     κ24 s18)
   else
   some (.inr s18)) (0,[])).bind λe16=>
  κ14 e16)
def a3l(a0:List g7)(a1:Int):Option Int:=
 (Q0 a0 a1).bind λv1=>
 some (v1.length:Int)
def a2R(a0:b7):Option Bool:=
 jn (λ(_:Unit)=>
  some true) (λκ12=>
  (lp (S:=Int) (E:=Bool ⊕ Unit) (λ(s15:Int)=>
   if (decide (s15<(a0.S.S.Cells.length:Int))) then
    jn (λ(_:Unit)=>
     some (.inl (x6 (s15+1)))) (λκ20=>
     (ix a0.S.S.Cells s15).bind λv22=>
     if ((v22.State != 1)&&(v22.State != 2)) then
      κ20 ()
     else
     (a0k s15 v22.Gen).bind λv23=>
     (a3l a0.Cells v23).bind λv24=>
     if (v22.Val.Weak != v24) then
      some (.inr (.inl false))
     else
     if ((v22.State==2)&&(((decide (v22.Val.Weak<1))||(decide ((v22.Val.Fields.length:Int) > 0)))||(v22.Val.Strong != 0))) then
      some (.inr (.inl false))
     else
     κ20 ())
   else
   some (.inr (.inr ()))) 0).bind λe14=>
  match e14 with
  | .inl w=>some w
  | .inr w=>κ12 w)
def a0H(f:Fv)(a0:b7):Option Bool:=
 if f=some 122 then a0o a0 else
 if f=some 123 then a1U a0 else
 if f=some 124 then a2S a0 else
 if f=some 125 then a2Q a0 else
 if f=some 126 then a2R a0 else
 none
def a6p(a0:g6):Option (List Int):=
 jn (λ(j10:List Int)=>
  some j10) (λκ9=>
  (a9D a0 1).bind λv11=>
  (lp (S:=Int × (List Int)) (E:=(List Int)) (λ((s13,s14):Int × (List Int))=>
   if (decide (s13<(v11.1.L.length:Int))) then
    (ix v11.1.L s13).bind λv17=>
    if ((v17.Kind==v11.2)==true) then
     (app 8 s14 [v17.At]).bind λv18=>
     some (.inl (x6 (s13+1),v18))
    else
    some (.inl (x6 (s13+1),s14))
   else
   some (.inr s14)) (0,[])).bind λe12=>
  κ9 e12)
def a6Q(a0:b7):Option (List Int):=
 jn (λ(j13:List Int)=>
  (a6p a0.Q).bind λv14=>
  (app 8 j13 v14).bind λv15=>
  some v15) (λκ12=>
  (lp (S:=Int × (List Int)) (E:=(List Int)) (λ((s17,s18):Int × (List Int))=>
   if (decide (s17<(a0.Roots.length:Int))) then
    jn (λ(j24:List Int)=>
     some (.inl (x6 (s17+1),j24))) (λκ23=>
     (ix a0.Roots s17).bind λv25=>
     if (v25 != 0) then
      (app 8 s18 [v25]).bind λv26=>
      κ23 v26
     else
     κ23 s18)
   else
   some (.inr s18)) (0,[])).bind λe16=>
  κ12 e16)
def a78(a0:Int):Option Bool:=
 (G3 a0).bind λv1=>
 some v1
def a7a(a0:a7):Option a7:=
 some a0
def b16(a0:a7)(a1:Int):Option (List Int):=
 (y5 a0 a1).bind λv1=>
 (a32 v1.1.Fields).bind λv2=>
 some v2
def b4k(a0:a7)(a1:Int):Option Int:=
 jn (λ(j31:Int)=>
  some j31) (λκ30=>
  (a7a a0).bind λv32=>
  (J1 v32).bind λv33=>
  (lp (S:=Int × Int) (E:=Int) (λ((s35,s36):Int × Int)=>
   if (decide (s35<(v33.length:Int))) then
    jn (λ(j50:Int)=>
     some (.inl (x6 (s35+1),j50))) (λκ49=>
     (ix v33 s35).bind λv51=>
     (b16 v32 v51).bind λv52=>
     (lp (S:=Int × Int) (E:=Int) (λ((s54,s55):Int × Int)=>
      if (decide (s54<(v52.length:Int))) then
       (ix v52 s54).bind λv58=>
       jn (λ(j60:Int)=>
        some (.inl (x6 (s54+1),j60))) (λκ59=>
        if (v58==a1) then
         κ59 (x6 (s55+1))
        else
        κ59 s55)
      else
      some (.inr s55)) (0,s36)).bind λe53=>
     κ49 e53)
   else
   some (.inr s36)) (0,0)).bind λe34=>
  κ30 e34)
def a2O(a0:m7)(a1:Int):Option Bool:=
 some ((a1 != 0)&&(a0.Val==a1))
def A6(a0:List c9)(a1:Int):Option (List m7):=
 jn (λ(j16:List m7)=>
  some j16) (λκ15=>
  (a5V a0).bind λv17=>
  (lp (S:=Int × (List m7)) (E:=(List m7)) (λ((s19,s20):Int × (List m7))=>
   if (decide (s19<(v17.length:Int))) then
    (ix v17 s19).bind λv23=>
    (M0 a0 v23).bind λv24=>
    jn (λ(j28:List m7)=>
     some (.inl (x6 (s19+1),j28))) (λκ27=>
     (a2O (⟨v23,v24.1⟩:m7) a1).bind λv29=>
     if v29 then
      (app 16 s20 [(⟨v23,v24.1⟩:m7)]).bind λv30=>
      κ27 v30
     else
     κ27 s20)
   else
   some (.inr s20)) (0,[])).bind λe18=>
  κ15 e18)
def a4T(a0:List c9)(a1:Int):Option Int:=
 (a1t a0).bind λv1=>
 (A6 v1 a1).bind λv2=>
 some (v2.length:Int)
def a5n(a0:a7)(a1:List c9)(a2:Int):Option Int:=
 (b4k a0 a2).bind λv1=>
 (a4T a1 a2).bind λv2=>
 some (x6 (v1+v2))
def a7p(a0:a7)(a1:List c9)(a2:Int):Option Int:=
 (y5 a0 a2).bind λv1=>
 if (v1.2 != 0) then
  some 0
 else
 (a5n a0 a1 a2).bind λv2=>
 some (x6 (v1.1.Strong-v2))
def a9G(a0:List Int)(a1:Int):Option Int:=
 jn (λ(j11:Int)=>
  some j11) (λκ10=>
  (a33 a0).bind λv12=>
  (lp (S:=Int × Int) (E:=Int) (λ((s14,s15):Int × Int)=>
   if (decide (s14<(v12.length:Int))) then
    (ix v12 s14).bind λv18=>
    if ((v18 != 0)==true) then
     jn (λ(j20:Int)=>
      if ((v18 != 0)&&false) then
       some (.inr j20)
      else
      some (.inl (x6 (s14+1),j20))) (λκ19=>
      if (v18==a1) then
       κ19 (x6 (s15+1))
      else
      κ19 s15)
    else
    some (.inl (x6 (s14+1),s15))
   else
   some (.inr s15)) (0,0)).bind λe13=>
  κ10 e13)
def a69(a0:List Int)(a1:Int):Option Int:=
 (a9G a0 a1).bind λv1=>
 some v1
def a3P(a0:Int)(a1:k9)(a2:a7)(a3:List c9)(a4:List Int):Option Bool:=
 (a78 a1.Strong).bind λv1=>
 (p7 ((!v1)==true) 0 (a7p a2 a3 a0)).bind λv2=>
 (p7 ((!v1)==true) 0 (a69 a4 a0)).bind λv3=>
 some ((!v1)&&(v2 != v3))
def a7o(a0:a7)(a1:List c9)(a2:List Int):Option Bool:=
 jn (λ(j36:List Int)=>
  some ((j36.length:Int)==0)) (λκ35=>
  jn (λ(j54:List Int)=>
   κ35 j54) (λκ53=>
   (J1 a0).bind λv55=>
   (lp (S:=Int × (List Int)) (E:=(List Int)) (λ((s57,s58):Int × (List Int))=>
    if (decide (s57<(v55.length:Int))) then
     jn (λ(j66:List Int)=>
      some (.inl (x6 (s57+1),j66))) (λκ65=>
      (ix v55 s57).bind λv67=>
      (y5 a0 v67).bind λv68=>
      (a3P v67 v68.1 a0 a1 a2).bind λv69=>
      if v69 then
       (app 8 s58 [v67]).bind λv70=>
       κ65 v70
      else
      κ65 s58)
    else
    some (.inr s58)) (0,[])).bind λe56=>
   κ53 e56))
def a6R(a0:b7):Option Bool:=
 (a1V a0).bind λv1=>
 if (!v1) then
  some false
 else
 jn (λ(_:Unit)=>
  (a6Q a0).bind λv10=>
  (a7o a0.S a0.T v10).bind λv11=>
  some v11) (λκ8=>
  (lp (S:=Int) (E:=Bool ⊕ Unit) (λ(s13:Int)=>
   if (decide (s13<([(some 122),(some 123),(some 124),(some 125),(some 126)].length:Int))) then
    (ix [(some 122),(some 123),(some 124),(some 125),(some 126)] s13).bind λv15=>
    (a0H v15 a0).bind λv16=>
    if (!v16) then
     some (.inr (.inl false))
    else
    some (.inl (x6 (s13+1)))
   else
   some (.inr (.inr ()))) 0).bind λe12=>
  match e12 with
  | .inl w=>some w
  | .inr w=>κ8 w)
def Q7:Option Bool:=
 (a8h 3 5 8).bind λv1=>
 (a0p v1 [(⟨1,0,0,0⟩:j2),(⟨6,0,0,1⟩:j2),(⟨3,0,0,0⟩:j2)]).bind λv2=>
 (V4 v2.1 [[(⟨2,2,5,0⟩:j2)],[]] 1).bind λv3=>
 (V4 v2.1 [[(⟨2,2,5,0⟩:j2)],[]] 5).bind λv4=>
 (w9 v4.1 (⟨3,2,0,0⟩:j2)).bind λv5=>
 (V4 v5.1 [[(⟨2,2,5,0⟩:j2)],[]] 5).bind λv6=>
 (V9 v4.1 [[(⟨2,2,5,0⟩:j2)],[]]).bind λv7=>
 if (((v4.1.Cells.length:Int)==0)||((v5.1.Cells.length:Int)==0)) then
  some false
 else
 (p7 (((((((v3.2.1==0)&&(v3.2.2.1==1))&&(v3.2.2.2==12))&&(v4.2.1==1))&&(v4.2.2.1==3))&&(v4.2.2.2==0))==true) 0 (W2 v4.1 2)).bind λv8=>
 (p7 ((((((((v3.2.1==0)&&(v3.2.2.1==1))&&(v3.2.2.2==12))&&(v4.2.1==1))&&(v4.2.2.1==3))&&(v4.2.2.2==0))&&(v8==1))==true) 0 (W2 v4.1 5)).bind λv9=>
 (p7 (((((((((v3.2.1==0)&&(v3.2.2.1==1))&&(v3.2.2.2==12))&&(v4.2.1==1))&&(v4.2.2.1==3))&&(v4.2.2.2==0))&&(v8==1))&&(v9==0))==true) (⟨0,false,0⟩:g7) (ix v4.1.Cells 0)).bind λv10=>
 (p7 ((((((((((((v3.2.1==0)&&(v3.2.2.1==1))&&(v3.2.2.2==12))&&(v4.2.1==1))&&(v4.2.2.1==3))&&(v4.2.2.2==0))&&(v8==1))&&(v9==0))&&v10.Intact)&&(v5.2.1==0))&&((v5.1.Q.L.length:Int)==1))==true) (⟨0,false,0⟩:g7) (ix v5.1.Cells 0)).bind λv11=>
 (p7 (((((((((((((((v3.2.1==0)&&(v3.2.2.1==1))&&(v3.2.2.2==12))&&(v4.2.1==1))&&(v4.2.2.1==3))&&(v4.2.2.2==0))&&(v8==1))&&(v9==0))&&v10.Intact)&&(v5.2.1==0))&&((v5.1.Q.L.length:Int)==1))&&(!v11.Intact))&&(v6.2.1==1))&&(v6.2.2.2==0))==true) false (a0h v6.1)).bind λv12=>
 (p7 ((((((((((((((((((v3.2.1==0)&&(v3.2.2.1==1))&&(v3.2.2.2==12))&&(v4.2.1==1))&&(v4.2.2.1==3))&&(v4.2.2.2==0))&&(v8==1))&&(v9==0))&&v10.Intact)&&(v5.2.1==0))&&((v5.1.Q.L.length:Int)==1))&&(!v11.Intact))&&(v6.2.1==1))&&(v6.2.2.2==0))&&v12)&&((v7.2.1.Kind==0)&&((v7.2.1.At==0)&&((v7.2.1.Prog==0)&&true))))&&(v7.2.2==10))==true) 0 (a2o [[(⟨2,2,5,0⟩:j2)],[]] (⟨0,0,0⟩:g8))).bind λv13=>
 (p7 (((((((((((((((((((v3.2.1==0)&&(v3.2.2.1==1))&&(v3.2.2.2==12))&&(v4.2.1==1))&&(v4.2.2.1==3))&&(v4.2.2.2==0))&&(v8==1))&&(v9==0))&&v10.Intact)&&(v5.2.1==0))&&((v5.1.Q.L.length:Int)==1))&&(!v11.Intact))&&(v6.2.1==1))&&(v6.2.2.2==0))&&v12)&&((v7.2.1.Kind==0)&&((v7.2.1.At==0)&&((v7.2.1.Prog==0)&&true))))&&(v7.2.2==10))&&(v13==2))==true) false (a6R v6.1)).bind λv14=>
 some (((((((((((((((((((v3.2.1==0)&&(v3.2.2.1==1))&&(v3.2.2.2==12))&&(v4.2.1==1))&&(v4.2.2.1==3))&&(v4.2.2.2==0))&&(v8==1))&&(v9==0))&&v10.Intact)&&(v5.2.1==0))&&((v5.1.Q.L.length:Int)==1))&&(!v11.Intact))&&(v6.2.1==1))&&(v6.2.2.2==0))&&v12)&&((v7.2.1.Kind==0)&&((v7.2.1.At==0)&&((v7.2.1.Prog==0)&&true))))&&(v7.2.2==10))&&(v13==2))&&v14)
def b10(a0:u9):Option (u9 × n0 × Int):=
 if ((a0.L.length:Int)==0) then
  some (a0,(⟨0,0,0⟩:n0),10)
 else
 (cut a0.L 1 (a0.L.length:Int)).bind λv1=>
 (ix a0.L 0).bind λv2=>
 some ((⟨v1,a0.Cap⟩:u9),v2,0)
def b1L(a0:Int):Option Int:=
 (a0N a0).bind λv1=>
 if v1 then
  some 12
 else
 if (decide (a0<0)) then
  some 1
 else
 some (x6 (a0+1))
def a07(a0:k7)(a1:Int)(a2:B0):Option k7:=
 (app 80 [] a0.Cells).bind λv1=>
 (ix v1 a1).bind λv2=>
 some (⟨(v1.set (a1).toNat (⟨v2.State,v2.Gen,a2⟩:l7)),a0.Last,a0.Serial⟩:k7)
def N6(a0:k7)(a1:Int)(a2:B0):Option (k7 × Int):=
 (N5 a0).bind λv1=>
 (O2 v1 a1).bind λv2=>
 if (v2.2 != 0) then
  some (a0,v2.2)
 else
 (a07 a0 v2.1 a2).bind λv3=>
 some (v3,0)
def a4p(a0:c7)(a1:Int)(a2:Int):Option c7:=
 (F9 a0.S a1).bind λv1=>
 if (v1.2 != 0) then
  some a0
 else
 (N6 a0.S a1 (⟨v1.1.Serial,a2,v1.1.Weak,v1.1.Prog,v1.1.Started,v1.1.Fields⟩:B0)).bind λv2=>
 some (⟨v2.1,a0.Roots,a0.Cells,a0.T,a0.Q⟩:c7)
def a0t(a0:c7)(a1:Int):Option c7:=
 (F9 a0.S a1).bind λv1=>
 (b1L v1.1.Strong).bind λv2=>
 (a4p a0 a1 v2).bind λv3=>
 some v3
def b4d(a0:Int):Option (Int × Int):=
 (a0N a0).bind λv1=>
 if v1 then
  some (12,0)
 else
 if (decide (a0<1)) then
  some (0,11)
 else
 some (x6 (a0-1),0)
def E4(a0:c7)(a1:Int):Option c7:=
 (F9 a0.S a1).bind λv1=>
 (b4d v1.1.Strong).bind λv2=>
 if (v2.2 != 0) then
  some a0
 else
 (a4p a0 a1 v2.1).bind λv3=>
 some v3
def U5(a0:c7)(a1:Int)(a2:Int):Option (c7 × Int):=
 if ((decide (a1<0))||(decide (a1 > 5))) then
  some (a0,6)
 else
 (Y0 a0 a2).bind λv1=>
 if (!v1) then
  some (a0,3)
 else
 (ix a0.Roots a1).bind λv2=>
 (a0t a0 a2).bind λv3=>
 (app 8 [] a0.Roots).bind λv4=>
 (ix v4 a1).bind λv5=>
 (E4 (⟨v3.S,(v4.set (a1).toNat a2),v3.Cells,v3.T,v3.Q⟩:c7) v2).bind λv6=>
 some (v6,0)
def a9u(a0:c7)(a1:Int):Option Bool:=
 (F9 a0.S a1).bind λv1=>
 (X9 a0 a1).bind λv2=>
 some ((v2&&(decide (v1.1.Prog≥0)))&&(!v1.1.Started))
def a5f(a0:u9)(a1:n0):Option (u9 × Int):=
 if (decide ((a0.L.length:Int)≥a0.Cap)) then
  some (a0,4)
 else
 (app 24 [] a0.L).bind λv1=>
 (app 24 v1 [a1]).bind λv2=>
 some ((⟨v2,a0.Cap⟩:u9),0)
def a4q(a0:c7)(a1:Int):Option c7:=
 (a9u a0 a1).bind λv1=>
 if (!v1) then
  some a0
 else
 (F9 a0.S a1).bind λv2=>
 (N6 a0.S a1 (⟨v2.1.Serial,v2.1.Strong,v2.1.Weak,v2.1.Prog,true,v2.1.Fields⟩:B0)).bind λv3=>
 (a5f a0.Q (⟨1,a1,v2.1.Prog⟩:n0)).bind λv4=>
 (a0t (⟨v3.1,a0.Roots,a0.Cells,a0.T,v4.1⟩:c7) a1).bind λv5=>
 some v5
def b4g(a0:List Int)(a1:Int):Option Bool:=
 (a1x a0 a1).bind λv1=>
 some (decide (v1 > 0))
def a8y(a0:c7)(a1:List Int):Option (List Int):=
 jn (λ(j17:List Int)=>
  some j17) (λκ16=>
  (lp (S:=Int × (List Int)) (E:=(List Int)) (λ((s19,s20):Int × (List Int))=>
   if (decide (s19<(a1.length:Int))) then
    jn (λ(j28:List Int)=>
     some (.inl (x6 (s19+1),j28))) (λκ27=>
     (ix a1 s19).bind λv29=>
     (X9 a0 v29).bind λv30=>
     (p7 (v30==true) false (b4g s20 v29)).bind λv31=>
     if (v30&&(!v31)) then
      (app 8 s20 [v29]).bind λv32=>
      κ27 v32
     else
     κ27 s20)
   else
   some (.inr s20)) (0,[])).bind λe18=>
  κ16 e18)
def a9i(a0:List l5)(a1:List Int):Option ((List l5) × (List Int)):=
 jn (λ((j18,j19):(List Int) × (List l5))=>
  some (j19,j18)) (λκ17=>
  (lp (S:=Int × (List l5) × (List Int)) (E:=((List Int) × (List l5))) (λ((s22,s23,s24):Int × (List l5) × (List Int))=>
   if (decide (s22<(a0.length:Int))) then
    (ix a0 s22).bind λv27=>
    jn (λ((j31,j32):Bool × (List Int))=>
     (app 24 s23 [(⟨v27.Target,j31,v27.Call⟩:l5)]).bind λv34=>
     some (.inl (x6 (s22+1),v34,j32))) (λκ30=>
     (p7 (v27.Intact==true) 0 (a1x a1 v27.Target)).bind λv35=>
     if (v27.Intact&&(decide (v35 > 0))) then
      if (decide (v27.Call≥0)) then
       (app 8 s24 [s22]).bind λv36=>
       κ30 (false,v36)
      else
      κ30 (false,s24)
     else
     κ30 (v27.Intact,s24))
   else
   some (.inr (s24,s23))) (0,[],[])).bind λe21=>
  κ17 e21)
def a09(a0:List j8)(a1:Int)(a2:j8):Option (List j8):=
 (app 24 [] a0).bind λv1=>
 (ix v1 a1).bind λv2=>
 some (v1.set (a1).toNat a2)
def a6d(a0:List j8)(a1:Int):Option ((List j8) × Int × Int):=
 (a08 a0 a1).bind λv1=>
 if (decide (v1<0)) then
  some (a0,0,9)
 else
 (a09 a0 v1 (⟨2,0,0⟩:j8)).bind λv2=>
 (ix a0 v1).bind λv3=>
 some (v2,v3.Val,0)
def a3f(a0:List j8)(a1:List Int):Option ((List j8) × (List Int)):=
 jn (λ((j18,j19):(List j8) × (List Int))=>
  some (j18,j19)) (λκ17=>
  (lp (S:=(List j8) × Int × (List Int)) (E:=((List j8) × (List Int))) (λ((s22,s23,s24):(List j8) × Int × (List Int))=>
   if (decide (s23<(a1.length:Int))) then
    jn (λ((j31,j32):(List j8) × (List Int))=>
     some (.inl (j31,x6 (s23+1),j32))) (λκ30=>
     (ix a1 s23).bind λv34=>
     (a6d s22 v34).bind λv35=>
     if (v35.2.2==0) then
      (app 8 s24 [v35.2.1]).bind λv36=>
      κ30 (v35.1,v36)
     else
     κ30 (s22,s24))
   else
   some (.inr (s22,s24))) (a0,0,[])).bind λe21=>
  κ17 e21)
def X0(a0:x8)(a1:Int)(a2:x4):Option x8:=
 (app 24 [] a0.Cells).bind λv1=>
 (ix v1 a1).bind λv2=>
 some (⟨(v1.set (a1).toNat a2),a0.Last⟩:x8)
def b5q(a0:x8)(a1:Int):Option (x8 × Int):=
 (b1K a0 a1).bind λv1=>
 if (v1.2 != 0) then
  some (a0,v1.2)
 else
 (O2 a0 a1).bind λv2=>
 (ix a0.Cells v2.1).bind λv3=>
 (X0 a0 v2.1 (⟨2,v3.Gen,v3.Val⟩:x4)).bind λv4=>
 some (v4,0)
def a0r(a0:k7)(a1:x8):Option k7:=
 jn (λ(j10:List l7)=>
  some (⟨j10,a0.Last,a0.Serial⟩:k7)) (λκ9=>
  (lp (S:=Int × (List l7)) (E:=(List l7)) (λ((s12,s13):Int × (List l7))=>
   if (decide (s12<(a0.Cells.length:Int))) then
    (ix a1.Cells s12).bind λv16=>
    (ix a0.Cells s12).bind λv17=>
    (app 80 s13 [(⟨v16.State,v16.Gen,v17.Val⟩:l7)]).bind λv18=>
    some (.inl (x6 (s12+1),v18))
   else
   some (.inr s13)) (0,[])).bind λe11=>
  κ9 e11)
def b1P(a0:k7)(a1:Int):Option k7:=
 (N5 a0).bind λv1=>
 (b5q v1 a1).bind λv2=>
 (a0r a0 v2.1).bind λv3=>
 some v3
def b5p(a0:x8)(a1:Int):Option (x8 × Int):=
 (O2 a0 a1).bind λv1=>
 if (v1.2 != 0) then
  some (a0,v1.2)
 else
 (ix a0.Cells v1.1).bind λv2=>
 if (decide (v2.Gen≥a0.Last)) then
  (X0 a0 v1.1 (⟨3,v2.Gen,0⟩:x4)).bind λv3=>
  some (v3,0)
 else
 (X0 a0 v1.1 (⟨0,x6 (v2.Gen+1),0⟩:x4)).bind λv4=>
 some (v4,0)
def a8q(a0:k7)(a1:Int):Option k7:=
 (N5 a0).bind λv1=>
 (b5p v1 a1).bind λv2=>
 if (v2.2 != 0) then
  some a0
 else
 (a0r a0 v2.1).bind λv3=>
 (a59 a1).bind λv4=>
 (a07 v3 v4 (⟨0,0,0,0,false,[]⟩:B0)).bind λv5=>
 some v5
def a6h(a0:c7)(a1:Int):Option c7:=
 (F9 a0.S a1).bind λv1=>
 (N6 a0.S a1 (⟨v1.1.Serial,0,v1.1.Weak,v1.1.Prog,v1.1.Started,[]⟩:B0)).bind λv2=>
 (b1P v2.1 a1).bind λv3=>
 if (v1.1.Weak==0) then
  (a8q v3 a1).bind λv4=>
  some (⟨v4,a0.Roots,a0.Cells,a0.T,a0.Q⟩:c7)
 else
 some (⟨v3,a0.Roots,a0.Cells,a0.T,a0.Q⟩:c7)
def a8x(a0:c7)(a1:List Int):Option c7:=
 (a8y a0 a1).bind λv1=>
 (a9i a0.Cells v1).bind λv2=>
 jn (λ(j12:u9)=>
  jn (λ(j23:List Int)=>
   (a3f a0.T v1).bind λv24=>
   (app 8 j23 v24.2).bind λv25=>
   jn (λ(j34:c7)=>
    jn (λ(j43:c7)=>
     some j43) (λκ42=>
     (lp (S:=Int × c7) (E:=c7) (λ((s45,s46):Int × c7)=>
      if (decide (s45<(v25.length:Int))) then
       (ix v25 s45).bind λv49=>
       (E4 s46 v49).bind λv50=>
       some (.inl (x6 (s45+1),v50))
      else
      some (.inr s46)) (0,j34)).bind λe44=>
     κ42 e44)) (λκ33=>
    (lp (S:=Int × c7) (E:=c7) (λ((s52,s53):Int × c7)=>
     if (decide (s52<(v1.length:Int))) then
      (ix v1 s52).bind λv56=>
      (a6h s53 v56).bind λv57=>
      some (.inl (x6 (s52+1),v57))
     else
     some (.inr s53)) (0,(⟨a0.S,a0.Roots,v2.1,v24.1,j12⟩:c7))).bind λe51=>
    κ33 e51)) (λκ22=>
   (lp (S:=Int × (List Int)) (E:=(List Int)) (λ((s59,s60):Int × (List Int))=>
    if (decide (s59<(v1.length:Int))) then
     (ix v1 s59).bind λv63=>
     (F9 a0.S v63).bind λv64=>
     (a2x v64.1.Fields).bind λv65=>
     (app 8 s60 v65).bind λv66=>
     some (.inl (x6 (s59+1),v66))
    else
    some (.inr s60)) (0,[])).bind λe58=>
   κ22 e58)) (λκ11=>
  (lp (S:=Int × u9) (E:=u9) (λ((s68,s69):Int × u9)=>
   if (decide (s68<(v2.2.length:Int))) then
    (ix v2.2 s68).bind λv72=>
    (ix v2.1 v72).bind λv73=>
    (a5f s69 (⟨2,v72,v73.Call⟩:n0)).bind λv74=>
    some (.inl (x6 (s68+1),v74.1))
   else
   some (.inr s69)) (0,a0.Q)).bind λe67=>
  κ11 e67)
def P9(a0:c7):Option c7:=
 jn (λ(j21:c7)=>
  some j21) (λκ20=>
  (lp (S:=Int × c7) (E:=c7 ⊕ c7) (λ((s23,s24):Int × c7)=>
   if (decide (s23<100)) then
    jn (λ(j34:c7)=>
     some (.inl (x6 (s23+1),j34))) (λκ33=>
     (a6g s24).bind λv35=>
     if ((v35.length:Int)==0) then
      some (.inr (.inl s24))
     else
     (ix v35 0).bind λv36=>
     (a9u s24 v36).bind λv37=>
     if v37 then
      (a4q s24 v36).bind λv38=>
      κ33 v38
     else
     (cut v35 0 1).bind λv39=>
     (a8x s24 v39).bind λv40=>
     κ33 v40)
   else
   some (.inr (.inr s24))) (0,a0)).bind λe22=>
  match e22 with
  | .inl w=>some w
  | .inr w=>κ20 w)
def a4t(a0:List (List p9))(a1:Int):Option (List p9):=
 if ((decide (a1<0))||(decide (a1≥(a0.length:Int)))) then
  some []
 else
 (ix a0 a1).bind λv1=>
 some v1
def b4h(a0:List l5)(a1:Int)(a2:Int)(a3:Int):Option ((List l5) × Int × Int):=
 if ((decide (a1<0))||(decide (a1≥(a0.length:Int)))) then
  some (a0,0,7)
 else
 (app 24 [] a0).bind λv1=>
 (ix v1 a1).bind λv2=>
 (ix a0 a1).bind λv3=>
 some ((v1.set (a1).toNat (⟨a2,(a2 != 0),a3⟩:l5)),v3.Target,0)
def a0u(a0:c7)(a1:Int):Option c7:=
 (N5 a0.S).bind λv1=>
 (O2 v1 a1).bind λv2=>
 if (v2.2 != 0) then
  some a0
 else
 (ix a0.S.Cells v2.1).bind λv3=>
 (N6 a0.S a1 (⟨v3.Val.Serial,v3.Val.Strong,x6 (v3.Val.Weak-1),v3.Val.Prog,v3.Val.Started,v3.Val.Fields⟩:B0)).bind λv4=>
 (ix v4.1.Cells v2.1).bind λv5=>
 if ((v5.State==2)&&(decide ((x6 (v3.Val.Weak-1))<1))) then
  (a8q v4.1 a1).bind λv6=>
  some (⟨v6,a0.Roots,a0.Cells,a0.T,a0.Q⟩:c7)
 else
 some (⟨v4.1,a0.Roots,a0.Cells,a0.T,a0.Q⟩:c7)
def a14(a0:c7)(a1:Int)(a2:Int)(a3:Int):Option (c7 × Int):=
 (p7 (((decide (a1<0))||(decide (a1 > 5)))==false) false (a2A a0.Q a1)).bind λv1=>
 if (((decide (a1<0))||(decide (a1 > 5)))||v1) then
  some (a0,7)
 else
 (Y0 a0 a2).bind λv2=>
 if (!v2) then
  some (a0,3)
 else
 (b4h a0.Cells a1 a2 a3).bind λv3=>
 if (a2 != 0) then
  (F9 a0.S a2).bind λv4=>
  (N6 a0.S a2 (⟨v4.1.Serial,v4.1.Strong,x6 (v4.1.Weak+1),v4.1.Prog,v4.1.Started,v4.1.Fields⟩:B0)).bind λv5=>
  (a0u (⟨v5.1,a0.Roots,v3.1,a0.T,a0.Q⟩:c7) v3.2.1).bind λv6=>
  some (v6,0)
 else
 (a0u (⟨a0.S,a0.Roots,v3.1,a0.T,a0.Q⟩:c7) v3.2.1).bind λv7=>
 some (v7,0)
def U6(a0:c7)(a1:Int):Option (Int × Int):=
 (ix a0.Roots a1).bind λv1=>
 if (v1==0) then
  some (0,2)
 else
 some (v1,0)
def a4r(a0:c7)(a1:Int):Option Int:=
 if (decide (a1<0)) then
  some 0
 else
 (ix a0.Roots a1).bind λv1=>
 some v1
def b21(a0:List Int)(a1:Int):Option (Int × Int):=
 if ((decide (a1<0))||(decide (a1≥(a0.length:Int)))) then
  some (0,5)
 else
 (ix a0 a1).bind λv1=>
 some (v1,0)
def a2y(a0:k7)(a1:Int)(a2:Int):Option (Int × Int):=
 (F9 a0 a1).bind λv1=>
 if (v1.2 != 0) then
  some (0,v1.2)
 else
 (b21 v1.1.Fields a2).bind λv2=>
 some (v2.1,v2.2)
def b5r(a0:List Int)(a1:Int)(a2:Int):Option ((List Int) × Int):=
 if ((decide (a1<0))||(decide (a1≥(a0.length:Int)))) then
  some (a0,5)
 else
 (app 8 [] a0).bind λv1=>
 (ix v1 a1).bind λv2=>
 some ((v1.set (a1).toNat a2),0)
def b4e(a0:k7)(a1:Int)(a2:Int)(a3:Int):Option (k7 × Int):=
 (F9 a0 a1).bind λv1=>
 if (v1.2 != 0) then
  some (a0,v1.2)
 else
 (b5r v1.1.Fields a2 a3).bind λv2=>
 if (v2.2 != 0) then
  some (a0,v2.2)
 else
 (N6 a0 a1 (⟨v1.1.Serial,v1.1.Strong,v1.1.Weak,v1.1.Prog,v1.1.Started,v2.1⟩:B0)).bind λv3=>
 some (v3.1,v3.2)
def a3Y(a0:c7)(a1:Int)(a2:Int)(a3:Int):Option (c7 × Int):=
 (a2y a0.S a1 a2).bind λv1=>
 if (v1.2 != 0) then
  some (a0,v1.2)
 else
 (Y0 a0 a3).bind λv2=>
 if (!v2) then
  some (a0,3)
 else
 (a0t a0 a3).bind λv3=>
 (b4e v3.S a1 a2 a3).bind λv4=>
 (E4 (⟨v4.1,v3.Roots,v3.Cells,v3.T,v3.Q⟩:c7) v1.1).bind λv5=>
 some (v5,0)
def b4i(a0:List j8)(a1:Int)(a2:Int):Option ((List j8) × Int):=
 (a08 a0 a1).bind λv1=>
 if (decide (v1≥0)) then
  (a09 a0 v1 (⟨1,a1,a2⟩:j8)).bind λv2=>
  some (v2,0)
 else
 (b1T (a0.length:Int) a1).bind λv3=>
 jn (λ(_:Unit)=>
  some (a0,8)) (λκ12=>
  (lp (S:=Int × Int) (E:=((List j8) × Int) ⊕ Unit) (λ((s15,s16):Int × Int)=>
   if (decide (s16<(a0.length:Int))) then
    (ix a0 s15).bind λv19=>
    if (v19.State != 1) then
     (a09 a0 s15 (⟨1,a1,a2⟩:j8)).bind λv20=>
     some (.inr (.inl (v20,0)))
    else
    (rem (x6 (s15+1)) (a0.length:Int)).bind λv21=>
    some (.inl (v21,x6 (s16+1)))
   else
   some (.inr (.inr ()))) (v3,0)).bind λe14=>
  match e14 with
  | .inl w=>some w
  | .inr w=>κ12 w)
def b4j(a0:List j8)(a1:Int)(a2:Int):Option ((List j8) × Int × Int):=
 if (a1==0) then
  some (a0,0,2)
 else
 (a9j a0 a1).bind λv1=>
 if (a2==0) then
  (a6d a0 a1).bind λv2=>
  some (v2.1,v1.1,0)
 else
 (b4i a0 a1 a2).bind λv3=>
 if (v3.2 != 0) then
  some (a0,0,v3.2)
 else
 some (v3.1,v1.1,0)
def a6f(a0:c7)(a1:Int)(a2:Int):Option (c7 × Int):=
 if (a1==0) then
  some (a0,2)
 else
 (X9 a0 a1).bind λv1=>
 (p7 ((!v1)==false) false (Y0 a0 a2)).bind λv2=>
 if ((!v1)||(!v2)) then
  some (a0,3)
 else
 (b4j a0.T a1 a2).bind λv3=>
 if (v3.2.2 != 0) then
  some (a0,v3.2.2)
 else
 (a0t a0 a2).bind λv4=>
 (E4 (⟨v4.S,v4.Roots,v4.Cells,v3.1,v4.Q⟩:c7) v3.2.1).bind λv5=>
 some (v5,0)
def a0P(a0:c7)(a1:p9):Option (c7 × Int × Int):=
 if ((a1.Kind==6)&&(decide (a1.B<0))) then
  (a14 a0 a1.A 0 a1.C).bind λv1=>
  some (v1.1,0,v1.2)
 else
 jn (λ(j3:Int)=>
  (U6 a0 j3).bind λv4=>
  if (v4.2 != 0) then
   some (a0,0,v4.2)
  else
  if (a1.Kind==5) then
   (a4r a0 a1.C).bind λv5=>
   (a3Y a0 v4.1 a1.B v5).bind λv6=>
   some (v6.1,v5,v6.2)
  else
  if (a1.Kind==6) then
   (a14 a0 a1.A v4.1 a1.C).bind λv7=>
   some (v7.1,v4.1,v7.2)
  else
  (a4r a0 a1.B).bind λv8=>
  (a6f a0 v4.1 v8).bind λv9=>
  some (v9.1,v8,v9.2)) (λκ2=>
  if (a1.Kind==6) then
   κ2 a1.B
  else
  κ2 a1.A)
def a2C(a0:c7)(a1:Int):Option Int:=
 (F9 a0.S a1).bind λv1=>
 some v1.1.Serial
def b1N(a0:Int):Option ((List Int) × Int):=
 if ((decide (a0<0))||(decide (a0 > 4))) then
  some ([],1)
 else
 (mk 8 a0 (0:Int)).bind λv1=>
 some (v1,0)
def a6b(a0:x8)(a1:Int):Option (x8 × Int × Int):=
 jn (λ(_:Unit)=>
  some (a0,0,4)) (λκ7=>
  (lp (S:=Int) (E:=(x8 × Int × Int) ⊕ Unit) (λ(s10:Int)=>
   if (decide (s10<(a0.Cells.length:Int))) then
    (ix a0.Cells s10).bind λv12=>
    if (v12.State==0) then
     (X0 a0 s10 (⟨1,v12.Gen,a1⟩:x4)).bind λv13=>
     (a3e s10 v12.Gen).bind λv14=>
     some (.inr (.inl (v13,v14,0)))
    else
    some (.inl (x6 (s10+1)))
   else
   some (.inr (.inr ()))) 0).bind λe9=>
  match e9 with
  | .inl w=>some w
  | .inr w=>κ7 w)
def a13(a0:k7)(a1:Int)(a2:Int):Option (k7 × Int × Int):=
 (b1N a1).bind λv1=>
 if (v1.2 != 0) then
  some (a0,0,v1.2)
 else
 if ((decide (a2<(-1)))||(decide (a2 > 5))) then
  some (a0,0,13)
 else
 (N5 a0).bind λv2=>
 (a6b v2 0).bind λv3=>
 if (v3.2.2 != 0) then
  some (a0,0,v3.2.2)
 else
 (a0r a0 v3.1).bind λv4=>
 (a59 v3.2.1).bind λv5=>
 (a07 v4 v5 (⟨x6 (a0.Serial+1),0,0,a2,false,v1.1⟩:B0)).bind λv6=>
 some ((⟨v6.Cells,v6.Last,x6 (a0.Serial+1)⟩:k7),v3.2.1,0)
def b0G(a0:c7)(a1:Int):Option Int:=
 if ((decide (a1<0))||(decide (a1 > 5))) then
  some 0
 else
 (ix a0.Roots a1).bind λv1=>
 (a2C a0 v1).bind λv2=>
 some v2
def a8s(a0:List l5)(a1:Int):Option (Int × Int):=
 if ((decide (a1<0))||(decide (a1≥(a0.length:Int)))) then
  some (0,7)
 else
 (ix a0 a1).bind λv1=>
 if ((v1.Target==0)||(!v1.Intact)) then
  some (0,9)
 else
 some (v1.Target,0)
def b1W(a0:List j8)(a1:Int):Option (Int × Int):=
 (a9j a0 a1).bind λv1=>
 some (v1.1,v1.2)
def a1y(a0:c7)(a1:p9):Option (Int × Int):=
 if (a1.Kind==2) then
  (ix a0.Roots a1.B).bind λv1=>
  some (v1,0)
 else
 if (a1.Kind==4) then
  (U6 a0 a1.B).bind λv2=>
  if (v2.2 != 0) then
   some (0,v2.2)
  else
  (a2y a0.S v2.1 a1.C).bind λv3=>
  some (v3.1,v3.2)
 else
 if (a1.Kind==7) then
  (a8s a0.Cells a1.B).bind λv4=>
  some (v4.1,v4.2)
 else
 if (a1.Kind==9) then
  (U6 a0 a1.B).bind λv5=>
  if (v5.2 != 0) then
   some (0,v5.2)
  else
  (b1W a0.T v5.1).bind λv6=>
  some (v6.1,v6.2)
 else
 some (0,0)
def C7(a0:c7)(a1:p9):Option (c7 × Int × Int):=
 (a2B a1).bind λv1=>
 if (v1 != 0) then
  some (a0,0,v1)
 else
 (Q6 a1).bind λv2=>
 if (!v2) then
  some (a0,0,14)
 else
 if (a1.Kind==10) then
  (ix a0.Roots a1.A).bind λv3=>
  (ix a0.Roots a1.B).bind λv4=>
  if (v3==v4) then
   some (a0,1,0)
  else
  some (a0,0,0)
 else
 jn (λ(j6:Bool)=>
  if j6 then
   (a0P a0 a1).bind λv7=>
   if (v7.2.2 != 0) then
    some (a0,0,v7.2.2)
   else
   (P9 v7.1).bind λv8=>
   (a2C a0 v7.2.1).bind λv9=>
   some (v8,v9,0)
  else
  if (a1.Kind==1) then
   (a13 a0.S a1.B a1.C).bind λv10=>
   if (v10.2.2 != 0) then
    some (a0,0,v10.2.2)
   else
   (U5 (⟨v10.1,a0.Roots,a0.Cells,a0.T,a0.Q⟩:c7) a1.A v10.2.1).bind λv11=>
   (P9 v11.1).bind λv12=>
   (b0G v12 a1.A).bind λv13=>
   some (v12,v13,0)
  else
  (a1y a0 a1).bind λv14=>
  if (v14.2 != 0) then
   some (a0,0,v14.2)
  else
  (U5 a0 a1.A v14.1).bind λv15=>
  (P9 v15.1).bind λv16=>
  (b0G v16 a1.A).bind λv17=>
  some (v16,v17,0)) (λκ5=>
  if (a1.Kind==5) then
   κ5 (a1.Kind==5)
  else
  if (a1.Kind==6) then
   κ5 (a1.Kind==6)
  else
  κ5 (a1.Kind==8))
def a5i(a0:c7)(a1:List p9):Option (c7 × (List Int)):=
 jn (λ((j11,j12):c7 × (List Int))=>
  some (j11,j12)) (λκ10=>
  (lp (S:=Int × c7 × (List Int)) (E:=(c7 × (List Int))) (λ((s15,s16,s17):Int × c7 × (List Int))=>
   if (decide (s15<(a1.length:Int))) then
    (ix a1 s15).bind λv20=>
    (C7 s16 v20).bind λv21=>
    (app 8 s17 [v21.2.1]).bind λv22=>
    some (.inl (x6 (s15+1),v21.1,v22))
   else
   some (.inr (s16,s17))) (0,a0,[])).bind λe14=>
  κ10 e14)
def a3g(a0:c7)(a1:List (List p9)):Option (c7 × n0 × Int):=
 (b10 a0.Q).bind λv1=>
 if (v1.2.2 != 0) then
  some (a0,(⟨0,0,0⟩:n0),v1.2.2)
 else
 jn (λ(j6:c7)=>
  (a4t a1 v1.2.1.Prog).bind λv7=>
  (a5i j6 v7).bind λv8=>
  if (v1.2.1.Kind==1) then
   (U5 v8.1 5 0).bind λv9=>
   (P9 v9.1).bind λv10=>
   some (v10,v1.2.1,0)
  else
  some (v8.1,v1.2.1,0)) (λκ5=>
  if (v1.2.1.Kind==1) then
   (U5 (⟨a0.S,a0.Roots,a0.Cells,a0.T,v1.1⟩:c7) 5 v1.2.1.At).bind λv11=>
   (E4 v11.1 v1.2.1.At).bind λv12=>
   (P9 v12).bind λv13=>
   κ5 v13
  else
  κ5 (⟨a0.S,a0.Roots,a0.Cells,a0.T,v1.1⟩:c7))
def a4m(a0:List Int)(a1:List Int):Option Bool:=
 if ((a0.length:Int) != (a1.length:Int)) then
  some false
 else
 jn (λ(_:Unit)=>
  some true) (λκ6=>
  (lp (S:=Int) (E:=Bool ⊕ Unit) (λ(s9:Int)=>
   if (decide (s9<(a0.length:Int))) then
    (ix a0 s9).bind λv11=>
    (ix a1 s9).bind λv12=>
    if (v11 != v12) then
     some (.inr (.inl false))
    else
    some (.inl (x6 (s9+1)))
   else
   some (.inr (.inr ()))) 0).bind λe8=>
  match e8 with
  | .inl w=>some w
  | .inr w=>κ6 w)
def a6c(a0:B0)(a1:B0):Option Bool:=
 (p7 ((((((a0.Serial==a1.Serial)&&(a0.Strong==a1.Strong))&&(a0.Weak==a1.Weak))&&(a0.Prog==a1.Prog))&&(a0.Started==a1.Started))==true) false (a4m a0.Fields a1.Fields)).bind λv1=>
 some ((((((a0.Serial==a1.Serial)&&(a0.Strong==a1.Strong))&&(a0.Weak==a1.Weak))&&(a0.Prog==a1.Prog))&&(a0.Started==a1.Started))&&v1)
def b1Q(a0:k7)(a1:k7):Option Bool:=
 if (((a0.Last != a1.Last)||(a0.Serial != a1.Serial))||((a0.Cells.length:Int) != (a1.Cells.length:Int))) then
  some false
 else
 jn (λ(_:Unit)=>
  some true) (λκ7=>
  (lp (S:=Int) (E:=Bool ⊕ Unit) (λ(s10:Int)=>
   if (decide (s10<(a0.Cells.length:Int))) then
    (ix a0.Cells s10).bind λv12=>
    (ix a1.Cells s10).bind λv13=>
    (p7 (((v12.State != v13.State)||(v12.Gen != v13.Gen))==false) false (a6c v12.Val v13.Val)).bind λv14=>
    if (((v12.State != v13.State)||(v12.Gen != v13.Gen))||(!v14)) then
     some (.inr (.inl false))
    else
    some (.inl (x6 (s10+1)))
   else
   some (.inr (.inr ()))) 0).bind λe9=>
  match e9 with
  | .inl w=>some w
  | .inr w=>κ7 w)
def b1S(a0:List l5)(a1:List l5):Option Bool:=
 if ((a0.length:Int) != (a1.length:Int)) then
  some false
 else
 jn (λ(_:Unit)=>
  some true) (λκ6=>
  (lp (S:=Int) (E:=Bool ⊕ Unit) (λ(s9:Int)=>
   if (decide (s9<(a0.length:Int))) then
    (ix a0 s9).bind λv11=>
    (ix a1 s9).bind λv12=>
    if (!((v11.Target==v12.Target)&&((v11.Intact==v12.Intact)&&((v11.Call==v12.Call)&&true)))) then
     some (.inr (.inl false))
    else
    some (.inl (x6 (s9+1)))
   else
   some (.inr (.inr ()))) 0).bind λe8=>
  match e8 with
  | .inl w=>some w
  | .inr w=>κ6 w)
def b1V(a0:List j8)(a1:List j8):Option Bool:=
 if ((a0.length:Int) != (a1.length:Int)) then
  some false
 else
 jn (λ(_:Unit)=>
  some true) (λκ6=>
  (lp (S:=Int) (E:=Bool ⊕ Unit) (λ(s9:Int)=>
   if (decide (s9<(a0.length:Int))) then
    (ix a0 s9).bind λv11=>
    (ix a1 s9).bind λv12=>
    if (!((v11.State==v12.State)&&((v11.Key==v12.Key)&&((v11.Val==v12.Val)&&true)))) then
     some (.inr (.inl false))
    else
    some (.inl (x6 (s9+1)))
   else
   some (.inr (.inr ()))) 0).bind λe8=>
  match e8 with
  | .inl w=>some w
  | .inr w=>κ6 w)
def b11(a0:u9)(a1:u9):Option Bool:=
 if ((a0.Cap != a1.Cap)||((a0.L.length:Int) != (a1.L.length:Int))) then
  some false
 else
 jn (λ(_:Unit)=>
  some true) (λκ6=>
  (lp (S:=Int) (E:=Bool ⊕ Unit) (λ(s9:Int)=>
   if (decide (s9<(a0.L.length:Int))) then
    (ix a0.L s9).bind λv11=>
    (ix a1.L s9).bind λv12=>
    if (!((v11.Kind==v12.Kind)&&((v11.At==v12.At)&&((v11.Prog==v12.Prog)&&true)))) then
     some (.inr (.inl false))
    else
    some (.inl (x6 (s9+1)))
   else
   some (.inr (.inr ()))) 0).bind λe8=>
  match e8 with
  | .inl w=>some w
  | .inr w=>κ6 w)
def a8v(a0:c7)(a1:c7):Option Bool:=
 (b1Q a0.S a1.S).bind λv1=>
 (p7 (v1==true) false (a4m a0.Roots a1.Roots)).bind λv2=>
 (p7 ((v1&&v2)==true) false (b1S a0.Cells a1.Cells)).bind λv3=>
 (p7 (((v1&&v2)&&v3)==true) false (b1V a0.T a1.T)).bind λv4=>
 (p7 ((((v1&&v2)&&v3)&&v4)==true) false (b11 a0.Q a1.Q)).bind λv5=>
 some ((((v1&&v2)&&v3)&&v4)&&v5)
def a4s(a0:List (List p9))(a1:n0):Option Int:=
 (a4t a0 a1.Prog).bind λv1=>
 some (x6 (1+(v1.length:Int)))
def a30(a0:c7):Option Bool:=
 some ((a0.Q.L.length:Int)==0)
def a4E(a0:b7)(a1:List (List j2))(a2:g8):Option Bool:=
 (a6s a0).bind λv1=>
 (p7 ((!v1)==false) false (a3Q a1)).bind λv2=>
 (p7 (((!v1)||(!v2))==false) false Q7).bind λv3=>
 if (((!v1)||(!v2))||(!v3)) then
  (Q7).bind λv4=>
  some v4
 else
 (a34 a1).bind λv5=>
 (V9 a0 a1).bind λv6=>
 (a0C a0).bind λv7=>
 (a3g v7 v5).bind λv8=>
 (a7r v6.1).bind λv9=>
 (p7 (v9==true) ⟨⟨[],0,0⟩,[],[],[],⟨[],0⟩⟩ (a0C v6.1)).bind λv10=>
 (p7 (v9==true) false (a8v v10 v8.1)).bind λv11=>
 (p7 ((((v9&&v11)&&((v6.2.1.Kind==v8.2.1.Kind)&&((v6.2.1.At==v8.2.1.At)&&((v6.2.1.Prog==v8.2.1.Prog)&&true))))&&(v6.2.2==v8.2.2))==true) 0 (a2o a1 a2)).bind λv12=>
 (p7 ((((v9&&v11)&&((v6.2.1.Kind==v8.2.1.Kind)&&((v6.2.1.At==v8.2.1.At)&&((v6.2.1.Prog==v8.2.1.Prog)&&true))))&&(v6.2.2==v8.2.2))==true) 0 (a4s v5 (⟨a2.Kind,a2.At,a2.Prog⟩:n0))).bind λv13=>
 (p7 (((((v9&&v11)&&((v6.2.1.Kind==v8.2.1.Kind)&&((v6.2.1.At==v8.2.1.At)&&((v6.2.1.Prog==v8.2.1.Prog)&&true))))&&(v6.2.2==v8.2.2))&&(v12==v13))==true) false (a0h a0)).bind λv14=>
 (p7 (((((v9&&v11)&&((v6.2.1.Kind==v8.2.1.Kind)&&((v6.2.1.At==v8.2.1.At)&&((v6.2.1.Prog==v8.2.1.Prog)&&true))))&&(v6.2.2==v8.2.2))&&(v12==v13))==true) false (a30 v7)).bind λv15=>
 (p7 ((((((v9&&v11)&&((v6.2.1.Kind==v8.2.1.Kind)&&((v6.2.1.At==v8.2.1.At)&&((v6.2.1.Prog==v8.2.1.Prog)&&true))))&&(v6.2.2==v8.2.2))&&(v12==v13))&&(v14==v15))==true) [] (a2p a1 a2.At)).bind λv16=>
 (p7 ((((((v9&&v11)&&((v6.2.1.Kind==v8.2.1.Kind)&&((v6.2.1.At==v8.2.1.At)&&((v6.2.1.Prog==v8.2.1.Prog)&&true))))&&(v6.2.2==v8.2.2))&&(v12==v13))&&(v14==v15))==true) [] (a4t v5 a2.At)).bind λv17=>
 some ((((((v9&&v11)&&((v6.2.1.Kind==v8.2.1.Kind)&&((v6.2.1.At==v8.2.1.At)&&((v6.2.1.Prog==v8.2.1.Prog)&&true))))&&(v6.2.2==v8.2.2))&&(v12==v13))&&(v14==v15))&&((v16.length:Int)==(v17.length:Int)))
def a3Z(a0:c7)(a1:List (List p9))(a2:Int):Option (c7 × Int × Int × Int):=
 jn (λ((j12,j13,j14):Int × Int × c7)=>
  some (j14,j13,j12,0)) (λκ11=>
  (lp (S:=Int × Int × c7) (E:=(c7 × Int × Int × Int) ⊕ (Int × Int × c7)) (λ((s17,s18,s19):Int × Int × c7)=>
   (a30 s19).bind λv22=>
   if (!v22) then
    (ix s19.Q.L 0).bind λv23=>
    (a4s a1 v23).bind λv24=>
    if (decide (v24 > s17)) then
     some (.inr (.inl (s19,s18,s17,12)))
    else
    (a3g s19 a1).bind λv25=>
    some (.inl (x6 (s17-v24),x6 (s18+1),v25.1))
   else
   some (.inr (.inr (s17,s18,s19)))) (a2,0,a0)).bind λe16=>
  match e16 with
  | .inl w=>some w
  | .inr w=>κ11 w)
def a5G(a0:b7)(a1:List (List j2))(a2:Int):Option Bool:=
 (a6s a0).bind λv1=>
 (p7 ((!v1)==false) false (a3Q a1)).bind λv2=>
 (p7 (((!v1)||(!v2))==false) false Q7).bind λv3=>
 if (((!v1)||(!v2))||(!v3)) then
  (Q7).bind λv4=>
  some v4
 else
 (V4 a0 a1 (x6 a2)).bind λv5=>
 (a0C a0).bind λv6=>
 (a34 a1).bind λv7=>
 (a3Z v6 v7 (x6 a2)).bind λv8=>
 (a7r v5.1).bind λv9=>
 (p7 (v9==true) ⟨⟨[],0,0⟩,[],[],[],⟨[],0⟩⟩ (a0C v5.1)).bind λv10=>
 (p7 (v9==true) false (a8v v10 v8.1)).bind λv11=>
 some ((((v9&&v11)&&(v5.2.1==v8.2.1))&&(v5.2.2.1==v8.2.2.1))&&(v5.2.2.2==v8.2.2.2))
end
end Go.Sh
