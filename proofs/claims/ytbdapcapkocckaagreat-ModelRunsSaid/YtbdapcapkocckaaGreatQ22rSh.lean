/- A part. -/
import Derived.Test.YtbdapcapkocckaaGreatQ22rSh0
import Derived.Test.YtbdapcapkocckaaGreatQ22rPwD
import Derived.Test.YtbdapcapkocckaaGreatQ22rPwC
set_option linter.unusedVariables false
set_option linter.unusedSimpArgs false
set_option linter.unusedSectionVars false
namespace Go.Sh
set_option maxRecDepth 100000
noncomputable section
structure k8 where
 Kind:Int
 A:Int
 B:Int
 C:Int
structure b8 where
 Serial:Int
 Slot:Int
 Prog:Int
 Started:Bool
 Alive:Bool
 Stuck:Bool
 Fields:List Int
structure l4 where
 Target:Int
 Intact:Bool
 Call:Int
structure l5 where
 Key:Int
 Val:Int
structure k7 where
 Kind:Int
 At:Int
 Prog:Int
structure p9 where
 Serial:Int
 Strong:Int
 Weak:Int
 Prog:Int
 Started:Bool
 Fields:List Int
structure g7 where
 State:Int
 Gen:Int
 Val:p9
structure g8 where
 State:Int
 Key:Int
 Val:Int
structure n0 where
 part:Fv
 least:Int
 most:Int
 e:Int
structure m8 where
 b7:List g7
 Last:Int
structure b6 where
 S:m8
 Serial:Int
structure k9 where
 L:List k7
 Cap:Int
structure c7 where
 S:b6
 Roots:List Int
 b7:List l4
 T:List g8
 Q:k9
structure y5 where
 X:c7
 Progs:List (List k8)
structure a8 where
 Nodes:List b8
 Slots:List Int
 Gens:List Int
 Last:Int
 Places:Int
 Serial:Int
 Roots:List Int
 b7:List l4
 Pairs:List l5
 Tasks:List k7
 Progs:List (List k8)
structure l6 where
 V:Int
 E:Int
structure g9 where
 L:List Int
 Cap:Int
structure x6 where
 x:c7
 o:k8
structure O5 where
 r:Int
 h:Int
structure K6 where
 h:Int
 k:Int
 v:Int
structure O4 where
 t:List g8
structure w8 where
 V:Int
 E:Int
structure s6 where
 Kind:Int
 A:Int
 B:Int
 C:Int
structure o5 where
 Serial:Int
 Slot:Int
 Prog:Int
 Started:Bool
 Alive:Bool
 Stuck:Bool
 Fields:List Int
structure n7 where
 Target:Int
 Intact:Bool
 Call:Int
structure r9 where
 Key:Int
 Val:Int
structure o7 where
 Kind:Int
 At:Int
 Prog:Int
structure mo where
 Serial:Int
 Strong:Int
 Weak:Int
 Prog:Int
 Started:Bool
 Fields:List Int
structure M7 where
 State:Int
 Gen:Int
 Val:mo
structure C7 where
 State:Int
 Key:Int
 Val:Int
structure eQ where
 State:Int
 Gen:Int
 Val:Int
structure jv where
 b7:List eQ
 Last:Int
structure aQ where
 b7:List M7
 Last:Int
 Serial:Int
structure F6 where
 L:List o7
 Cap:Int
structure df where
 S:aQ
 Roots:List Int
 b7:List n7
 T:List C7
 Q:F6
structure bA where
 X:df
 Progs:List (List s6)
structure e6 where
 Nodes:List o5
 Slots:List Int
 Gens:List Int
 Last:Int
 Places:Int
 Serial:Int
 Roots:List Int
 b7:List n7
 Pairs:List r9
 Tasks:List o7
 Progs:List (List s6)
def jF(b:List (List k8)):Option Bool:=
 jn (λ(_:Unit)=>
  some (decide ((b.length:Int)<=10))) (λe=>
  (lp (E:=Bool ⊕ Unit) (λ(a:Int)=>
   if ((decide (a<(b.length:Int)))&&(decide (a<10))) then
    (ix b a).bind λc=>
    if (decide ((c.length:Int) > 10)) then
     some (.inr (.inl false))
    else
    some (.inl (y4 (a+1)))
   else
   some (.inr (.inr ()))) 0).bind λf=>
  match f with
  | .inl w=>some w
  | .inr w=>e w)
def iM(b:List (List Int))(f:Int):Option Bool:=
 jn (λ(_:Unit)=>
  some (decide ((b.length:Int)<=f))) (λe=>
  (lp (E:=Bool ⊕ Unit) (λ(a:Int)=>
   if ((decide (a<(b.length:Int)))&&(decide (a<200))) then
    (ix b a).bind λc=>
    if (decide ((c.length:Int) > 10)) then
     some (.inr (.inl false))
    else
    some (.inl (y4 (a+1)))
   else
   some (.inr (.inr ()))) 0).bind λg=>
  match g with
  | .inl w=>some w
  | .inr w=>e w)
def iq(a:k8):Option Bool:=
 some ((decide (a.Kind>=1))&&(decide (a.Kind<=10)))
def cq:Option n0:=
 some (⟨(some 174),0,5,6⟩:n0)
def ao:Option n0:=
 some (⟨(some 177),(-1),5,13⟩:n0)
def P6(a:List n0):Option (List n0):=
 some a
def cr:Option n0:=
 some (⟨(some 175),0,5,6⟩:n0)
def bm:Option n0:=
 some (⟨(some 177),0,3,5⟩:n0)
def bk:Option n0:=
 some (⟨(some 175),0,3,5⟩:n0)
def V7:Option n0:=
 some (⟨(some 177),(-1),5,6⟩:n0)
def cm:Option n0:=
 some (⟨(some 174),0,5,7⟩:n0)
def V6:Option n0:=
 some (⟨(some 175),(-1),5,6⟩:n0)
def cp:Option n0:=
 some (⟨(some 175),0,5,7⟩:n0)
def oE:Option (List (Int × (List n0))):=
 (cq).bind λa=>
 (ao).bind λv2=>
 (P6 [a,(⟨(some 175),0,4,1⟩:n0),v2]).bind λv3=>
 (cr).bind λp=>
 (P6 [a,p]).bind λo=>
 (P6 [a]).bind λq=>
 (bm).bind λr=>
 (P6 [a,p,r]).bind λs=>
 (bk).bind λt=>
 (V7).bind λc=>
 (P6 [a,t,c]).bind λe=>
 (cm).bind λf=>
 (V6).bind λb=>
 (P6 [f,b,v2]).bind λg=>
 (cp).bind λi=>
 (P6 [a,i]).bind λj=>
 (P6 [a,b]).bind λk=>
 (P6 []).bind λm=>
 (P6 [(⟨(some 174),0,200,12⟩:n0)]).bind λn=>
 some (u6 (u6 (u6 (u6 (u6 (u6 (u6 (u6 (u6 (u6 (u6 (u6 [] 1 v3) 2 o) 3 q) 4 s) 5 e) 6 g) 7 j) 8 k) 9 o) 10 o) 11 m) 12 n)
def tT(a:k8):Option Int:=
 some a.A
def tU(a:k8):Option Int:=
 some a.B
def tV(a:k8):Option Int:=
 some a.C
def vr(f:Fv)(a:k8):Option Int:=
 if f=some 174 then tT a else
 if f=some 175 then tU a else
 if f=some 177 then tV a else
 none
def al(f:k8):Option Int:=
 (oE).bind λi=>
 if (!((C4 i f.Kind).isSome)) then
  some 14
 else
 jn (λ(_:Unit)=>
  some 0) (λj=>
  (lp (E:=Int ⊕ Unit) (λ(b:Int)=>
   if (decide (b<(((C4 i f.Kind).getD ([]:List n0)).length:Int))) then
    (ix ((C4 i f.Kind).getD ([]:List n0)) b).bind λa=>
    (vr a.part f).bind λc=>
    if ((decide (c<a.least))||(decide (c > a.most))) then
     some (.inr (.inl a.e))
    else
    some (.inl (y4 (b+1)))
   else
   some (.inr (.inr ()))) 0).bind λg=>
  match g with
  | .inl w=>some w
  | .inr w=>j w)
def ir(j:List (List k8)):Option Bool:=
 if (decide ((j.length:Int) > 6)) then
  some false
 else
 jn (λ(_:Unit)=>
  some true) (λg=>
  (lp (E:=Bool ⊕ Unit) (λ(a:Int)=>
   if (decide (a<(j.length:Int))) then
    jn (λ(_:Unit)=>
     some (.inl (y4 (a+1)))) (λi=>
     (ix j a).bind λc=>
     if (decide ((c.length:Int) > 6)) then
      some (.inr (.inl false))
     else
     (lp (E:=Bool ⊕ Unit) (λ(b:Int)=>
      if (decide (b<(c.length:Int))) then
       (ix c b).bind λe=>
       (iq e).bind λf=>
       (y6 ((!f)==false) 0 (al e)).bind λn=>
       if ((!f)||(n != 0)) then
        some (.inr (.inl false))
       else
       some (.inl (y4 (b+1)))
      else
      some (.inr (.inr ()))) 0).bind λm=>
     match m with
     | .inl w=>some (.inr (.inl w))
     | .inr w=>i w)
   else
   some (.inr (.inr ()))) 0).bind λk=>
  match k with
  | .inl w=>some w
  | .inr w=>g w)
def bE(a:Int)(b:Int):Option m8:=
 if ((((decide (a<0))||(decide (a > 24)))||(decide (b<0)))||(decide (b > 9))) then
  some (⟨[],0⟩:m8)
 else
 (mk 80 a (⟨0,0,⟨0,0,0,0,false,[]⟩⟩:g7)).bind λc=>
 some (⟨c,b⟩:m8)
def kM(a:Int)(b:Int):Option b6:=
 (bE a b).bind λc=>
 some (⟨c,0⟩:b6)
def Dk(e:Int):Option (List l4):=
 if ((decide (e<0))||(decide (e > 6))) then
  some []
 else
 (mk 24 e (⟨0,false,0⟩:l4)).bind λi=>
 jn (λ(j:List l4)=>
  some j) (λg=>
  (lp (E:=(List l4)) (λ((a,b):Int × (List l4))=>
   if (decide (a<(i.length:Int))) then
    (ix b a).bind λc=>
    some (.inl (y4 (a+1),(b.set (a).toNat (⟨c.Target,c.Intact,(-1)⟩:l4))))
   else
   some (.inr b)) (0,i)).bind λf=>
  g f)
def vy(a:Int):Option (List g8):=
 if ((decide (a<1))||(decide (a > 8))) then
  some []
 else
 (mk 24 a (⟨0,0,0⟩:g8)).bind λb=>
 some b
def dU(a:Int):Option k9:=
 some (⟨[],a⟩:k9)
def CX:Option k9:=
 (dU 30).bind λa=>
 some a
def nj(a:Int)(b:Int)(c:Int):Option c7:=
 if ((((((decide (a<1))||(decide (a > 24)))||(decide (b<0)))||(decide (b > 9)))||(decide (c<1)))||(decide (c > 8))) then
  some (⟨⟨⟨[],0⟩,0⟩,[],[],[],⟨[],0⟩⟩:c7)
 else
 (kM a b).bind λe=>
 (mk 8 6 (0:Int)).bind λv2=>
 (Dk 6).bind λv3=>
 (vy c).bind λf=>
 (CX).bind λg=>
 some (⟨e,v2,v3,f,g⟩:c7)
def bo(b:Int)(c:Int)(e:Int)(a:List (List k8)):Option (y5 × Int):=
 (ir a).bind λf=>
 if (!f) then
  some ((⟨⟨⟨⟨[],0⟩,0⟩,[],[],[],⟨[],0⟩⟩,[]⟩:y5),13)
 else
 (nj b c e).bind λv2=>
 if ((v2.Roots.length:Int)==0) then
  some ((⟨⟨⟨⟨[],0⟩,0⟩,[],[],[],⟨[],0⟩⟩,[]⟩:y5),1)
 else
 some ((⟨v2,a⟩:y5),0)
def dA(a:Int)(b:Int)(c:Int)(e:List (List k8)):Option (a8 × Int):=
 (bo a b c e).bind λf=>
 if (f.2 != 0) then
  some ((⟨[],[],[],0,0,0,[],[],[],[],[]⟩:a8),f.2)
 else
 (mk 8 a (0:Int)).bind λv2=>
 (mk 8 6 (0:Int)).bind λv3=>
 (Dk 6).bind λg=>
 some ((⟨[],v2,v2,b,c,0,v3,g,[],[],e⟩:a8),0)
def Z2(a:List Int):Option (k8 × Int):=
 if ((a.length:Int) != 4) then
  some ((⟨0,0,0,0⟩:k8),14)
 else
 (ix a 0).bind λb=>
 (ix a 1).bind λv2=>
 (ix a 2).bind λv3=>
 (ix a 3).bind λc=>
 (al (⟨b,v2,v3,c⟩:k8)).bind λe=>
 if (e != 0) then
  some ((⟨0,0,0,0⟩:k8),e)
 else
 some ((⟨b,v2,v3,c⟩:k8),0)
def jQ(a:b8):Option Bool:=
 some a.Stuck
def F1(n:List b8):Option (List b8):=
 jn (λ(i:List b8)=>
  some i) (λf=>
  (lp (E:=(List b8)) (λ((b,c):Int × (List b8))=>
   if (decide (b<(n.length:Int))) then
    jn (λ(j:List b8)=>
     some (.inl (y4 (b+1),j))) (λa=>
     (ix n b).bind λe=>
     (jQ e).bind λk=>
     if k then
      (app 56 c [e]).bind λm=>
      a m
     else
     a c)
   else
   some (.inr c)) (0,[])).bind λg=>
  f g)
def jS(a:b8):Option Int:=
 some a.Serial
def D8(k:List b8):Option (List Int):=
 jn (λ(e:List Int)=>
  some e) (λj=>
  (lp (E:=(List Int)) (λ((a,b):Int × (List Int))=>
   if (decide (a<(k.length:Int))) then
    (ix k a).bind λf=>
    (jS f).bind λg=>
    (app 8 b [g]).bind λi=>
    some (.inl (y4 (a+1),i))
   else
   some (.inr b)) (0,[])).bind λc=>
  j c)
def L6(a:List b8):Option (List Int):=
 (D8 a).bind λb=>
 some b
def eP(a:Int):Option g9:=
 some (⟨[],a⟩:g9)
def ar(a:a8):Option k9:=
 (CX).bind λb=>
 some (⟨a.Tasks,b.Cap⟩:k9)
def sF(a:k9)(b:Int):Option (k9 × Int):=
 some (a,b)
def iJ(k:k9):Option (List Int):=
 jn (λ(g:List Int)=>
  some g) (λj=>
  (sF k 1).bind λc=>
  (lp (E:=(List Int)) (λ((a,b):Int × (List Int))=>
   if (decide (a<(c.1.L.length:Int))) then
    (ix c.1.L a).bind λe=>
    if ((e.Kind==c.2)==true) then
     (app 8 b [e.At]).bind λi=>
     some (.inl (y4 (a+1),i))
    else
    some (.inl (y4 (a+1),b))
   else
   some (.inr b)) (0,[])).bind λf=>
  j f)
def J1(g:List (List Int)):Option (List Int):=
 jn (λ(a:Int)=>
  jn (λ(_:Unit)=>
   if (decide ((y4 (a-(y4 (0-0)))) > 0)) then
    (mk 8 (y4 (a-(y4 (0-0)))) (0:Int)).bind λA=>
    jn (λ(u:List Int)=>
     some u) (λo=>
     (lp (E:=(List Int)) (λ((b,i):Int × (List Int))=>
      if (decide (b<(g.length:Int))) then
       (ix g b).bind λx=>
       (app 8 i x).bind λy=>
       some (.inl (y4 (b+1),y))
      else
      some (.inr i)) (0,[])).bind λr=>
     o r)
   else
   jn (λ(v:List Int)=>
    some v) (λp=>
    (lp (E:=(List Int)) (λ((c,j):Int × (List Int))=>
     if (decide (c<(g.length:Int))) then
      (ix g c).bind λz=>
      (app 8 j z).bind λh=>
      some (.inl (y4 (c+1),h))
     else
     some (.inr j)) (0,[])).bind λs=>
    p s)) (λn=>
   if (decide (a<0)) then
    none
   else
   n ())) (λm=>
  (lp (E:=Int) (λ((e,f):Int × Int)=>
   if (decide (f<(g.length:Int))) then
    jn (λ(w:Int)=>
     some (.inl (w,y4 (f+1)))) (λq=>
     (ix g f).bind λk=>
     if (decide ((y4 (e+(k.length:Int)))<0)) then
      none
     else
     q (y4 (e+(k.length:Int))))
   else
   some (.inr e)) (0,0)).bind λt=>
  m t)
def N9(a:g9):Option Int:=
 some (a.L.length:Int)
def X8(a:List Int)(b:Int)(c:Int):Option (List Int):=
 (cut a b c).bind λe=>
 some e
def H0(a:g9)(c:Int):Option (g9 × Int):=
 (N9 a).bind λb=>
 if (decide (b>=a.Cap)) then
  some (a,4)
 else
 (X8 a.L 0 b).bind λv2=>
 (app 8 v2 [c]).bind λv3=>
 some ((⟨v3,a.Cap⟩:g9),0)
def jV(c:g9)(b:Int):Option (g9 × (List Int)):=
 (N9 c).bind λa=>
 (X8 c.L 0 (if (if a<b then a else b) > 0 then (if a<b then a else b) else 0)).bind λv2=>
 (X8 c.L (if (if a<b then a else b) > 0 then (if a<b then a else b) else 0) a).bind λv3=>
 some ((⟨v3,c.Cap⟩:g9),v2)
def bW(b:g9):Option (g9 × Int × Int):=
 (jV b 1).bind λa=>
 if ((a.2.length:Int)==0) then
  some (b,0,10)
 else
 (ix a.2 0).bind λv2=>
 some (a.1,v2,0)
def gE(a:b8)(b:Int):Option Bool:=
 some (a.Serial==b)
def B6(f:List b8)(g:Int):Option Int:=
 jn (λ(_:Unit)=>
  some (-1)) (λe=>
  (lp (E:=Int ⊕ Unit) (λ(a:Int)=>
   if (decide (a<(f.length:Int))) then
    (ix f a).bind λb=>
    (gE b g).bind λc=>
    if c then
     some (.inr (.inl a))
    else
    some (.inl (y4 (a+1)))
   else
   some (.inr (.inr ()))) 0).bind λi=>
  match i with
  | .inl w=>some w
  | .inr w=>e w)
def M3(a:a8)(b:Int):Option Int:=
 (B6 a.Nodes b).bind λc=>
 some c
def dD(a:l5)(b:Int):Option Bool:=
 some (a.Key==b)
def E7(n:List l5)(o:Int):Option (List l5):=
 jn (λ(i:List l5)=>
  some i) (λf=>
  (lp (E:=(List l5)) (λ((b,c):Int × (List l5))=>
   if (decide (b<(n.length:Int))) then
    jn (λ(j:List l5)=>
     some (.inl (y4 (b+1),j))) (λa=>
     (ix n b).bind λe=>
     (dD e o).bind λk=>
     if k then
      (app 16 c [e]).bind λm=>
      a m
     else
     a c)
   else
   some (.inr c)) (0,[])).bind λg=>
  f g)
def iA(a:l5):Option Int:=
 some a.Val
def G8(k:List l5):Option (List Int):=
 jn (λ(e:List Int)=>
  some e) (λj=>
  (lp (E:=(List Int)) (λ((a,b):Int × (List Int))=>
   if (decide (a<(k.length:Int))) then
    (ix k a).bind λf=>
    (iA f).bind λg=>
    (app 8 b [g]).bind λi=>
    some (.inl (y4 (a+1),i))
   else
   some (.inr b)) (0,[])).bind λc=>
  j c)
def O8(a:a8)(b:Int):Option (List Int):=
 (E7 a.Pairs b).bind λc=>
 (G8 c).bind λv2=>
 some v2
def iY(x:a8):Option (List (Int × Bool)):=
 (F1 x.Nodes).bind λv1=>
 (L6 v1).bind λv2=>
 (eP (x.Nodes.length:Int)).bind λv3=>
 (ar x).bind λv4=>
 (iJ v4).bind λv5=>
 (J1 [x.Roots,v5,v2]).bind λv6=>
 jn (λ((j22,j23):g9 × (List (Int × Bool)))=>
  jn (λ(F:List (Int × Bool))=>
   some F) (λκ99=>
   (lp (E:=(List (Int × Bool))) (λ((t,u):g9 × (List (Int × Bool)))=>
    (N9 t).bind λv106=>
    if (decide (v106 > 0)) then
     (bW t).bind λm=>
     (M3 x m.2.1).bind λv108=>
     (ix x.Nodes v108).bind λv=>
     jn (λ((G,H):g9 × (List (Int × Bool)))=>
      (O8 x m.2.1).bind λw=>
      jn (λ((K,N):g9 × (List (Int × Bool)))=>
       some (.inl (K,N))) (λz=>
       (lp (E:=(g9 × (List (Int × Bool)))) (λ((e,f,a):Int × g9 × (List (Int × Bool)))=>
        if (decide (e<(w.length:Int))) then
         jn (λ((P,Q):g9 × (List (Int × Bool)))=>
          some (.inl (y4 (e+1),P,Q))) (λq=>
          (ix w e).bind λn=>
          if (!((C4 a n).getD (false:Bool))) then
           (H0 f n).bind λv160=>
           q (v160.1,(u6 a n true))
          else
          q (f,a))
        else
        some (.inr (f,a))) (0,G,H)).bind λA=>
       z A)) (λy=>
      (lp (E:=(g9 × (List (Int × Bool)))) (λ((g,i,b):Int × g9 × (List (Int × Bool)))=>
       if (decide (g<(v.Fields.length:Int))) then
        jn (λ((R,S):g9 × (List (Int × Bool)))=>
         some (.inl (y4 (g+1),R,S))) (λr=>
         (ix v.Fields g).bind λo=>
         if (!((C4 b o).getD (false:Bool))) then
          (H0 i o).bind λv174=>
          r (v174.1,(u6 b o true))
         else
         r (i,b))
       else
       some (.inr (i,b))) (0,m.1,u)).bind λB=>
      y B)
    else
    some (.inr u)) (j22,j23)).bind λh=>
   κ99 h)) (λκ21=>
  (lp (E:=(g9 × (List (Int × Bool)))) (λ((j,k,c):Int × g9 × (List (Int × Bool)))=>
   if (decide (j<(v6.length:Int))) then
    jn (λ((T,V):g9 × (List (Int × Bool)))=>
     some (.inl (y4 (j+1),T,V))) (λs=>
     (ix v6 j).bind λp=>
     if (!((C4 c p).getD (false:Bool))) then
      (H0 k p).bind λv188=>
      s (v188.1,(u6 c p true))
     else
     s (k,c))
   else
   some (.inr (k,c))) (0,v3,(u6 [] 0 true))).bind λC=>
  κ21 C)
def cL(a:b8)(b:List (Int × Bool)):Option Bool:=
 some (a.Alive&&(!((C4 b a.Serial).getD (false:Bool))))
def E5(n:List b8)(o:List (Int × Bool)):Option (List b8):=
 jn (λ(i:List b8)=>
  some i) (λf=>
  (lp (E:=(List b8)) (λ((b,c):Int × (List b8))=>
   if (decide (b<(n.length:Int))) then
    jn (λ(j:List b8)=>
     some (.inl (y4 (b+1),j))) (λa=>
     (ix n b).bind λe=>
     (cL e o).bind λk=>
     if k then
      (app 56 c [e]).bind λm=>
      a m
     else
     a c)
   else
   some (.inr c)) (0,[])).bind λg=>
  f g)
def eI(a:b8):Option Bool:=
 some ((decide (a.Prog>=0))&&(!a.Started))
def G0(n:List b8):Option (List b8):=
 jn (λ(i:List b8)=>
  some i) (λf=>
  (lp (E:=(List b8)) (λ((b,c):Int × (List b8))=>
   if (decide (b<(n.length:Int))) then
    jn (λ(j:List b8)=>
     some (.inl (y4 (b+1),j))) (λa=>
     (ix n b).bind λe=>
     (eI e).bind λk=>
     if k then
      (app 56 c [e]).bind λm=>
      a m
     else
     a c)
   else
   some (.inr c)) (0,[])).bind λg=>
  f g)
def mh(a:a8):Option a8:=
 some a
def jP(a:l5):Option Int:=
 some a.Val
def D7(k:List l5):Option (List Int):=
 jn (λ(e:List Int)=>
  some e) (λj=>
  (lp (E:=(List Int)) (λ((a,b):Int × (List Int))=>
   if (decide (a<(k.length:Int))) then
    (ix k a).bind λf=>
    (jP f).bind λg=>
    (app 8 b [g]).bind λi=>
    some (.inl (y4 (a+1),i))
   else
   some (.inr b)) (0,[])).bind λc=>
  j c)
def mQ(a:b8):Option Bool:=
 some a.Alive
def D1(n:List b8):Option (List b8):=
 jn (λ(i:List b8)=>
  some i) (λf=>
  (lp (E:=(List b8)) (λ((b,c):Int × (List b8))=>
   if (decide (b<(n.length:Int))) then
    jn (λ(j:List b8)=>
     some (.inl (y4 (b+1),j))) (λa=>
     (ix n b).bind λe=>
     (mQ e).bind λk=>
     if k then
      (app 56 c [e]).bind λm=>
      a m
     else
     a c)
   else
   some (.inr c)) (0,[])).bind λg=>
  f g)
def da(z:a8)(y:Int):Option Int:=
 jn (λ(p:Int)=>
  some p) (λk=>
  (mh z).bind λa=>
  (D7 a.Pairs).bind λs=>
  (ar a).bind λt=>
  (iJ t).bind λu=>
  jn (λ(q:List (List Int))=>
   (J1 q).bind λi=>
   (lp (E:=Int) (λ((c,e):Int × Int)=>
    if (decide (c<(i.length:Int))) then
     (ix i c).bind λv=>
     jn (λ(r:Int)=>
      some (.inl (y4 (c+1),r))) (λb=>
      if ((y != 0)&&(v==y)) then
       b (y4 (e+1))
      else
      b e)
    else
    some (.inr e)) (0,0)).bind λn=>
   k n) (λm=>
   (D1 a.Nodes).bind λj=>
   (lp (E:=(List (List Int))) (λ((f,g):Int × (List (List Int)))=>
    if (decide (f<(j.length:Int))) then
     (ix j f).bind λw=>
     (app 24 g [w.Fields]).bind λx=>
     some (.inl (y4 (f+1),x))
    else
    some (.inr g)) (0,[a.Roots,s,u])).bind λo=>
   m o))
def w9(a:List b8):Option (List b8):=
 app 56 [] a
def oY(a:b8):Option b8:=
 some (⟨a.Serial,a.Slot,a.Prog,a.Started,a.Alive,true,a.Fields⟩:b8)
def V8(a:a8)(c:Int):Option a8:=
 (M3 a c).bind λb=>
 (w9 a.Nodes).bind λv2=>
 (ix v2 b).bind λv3=>
 (oY v3).bind λe=>
 some (⟨(v2.set (b).toNat e),a.Slots,a.Gens,a.Last,a.Places,a.Serial,a.Roots,a.b7,a.Pairs,a.Tasks,a.Progs⟩:a8)
def fy(a:a8)(b:Int):Option a8:=
 (da a b).bind λc=>
 if (decide (c<11)) then
  some a
 else
 (V8 a b).bind λv2=>
 some v2
def jT(a:b8):Option b8:=
 some (⟨a.Serial,a.Slot,a.Prog,true,a.Alive,a.Stuck,a.Fields⟩:b8)
def Q8(a:a8)(c:Int):Option a8:=
 (M3 a c).bind λb=>
 (w9 a.Nodes).bind λv2=>
 (ix v2 b).bind λv3=>
 (jT v3).bind λe=>
 some (⟨(v2.set (b).toNat e),a.Slots,a.Gens,a.Last,a.Places,a.Serial,a.Roots,a.b7,a.Pairs,a.Tasks,a.Progs⟩:a8)
def J5(a:List k7):Option (List k7):=
 app 24 [] a
def bV(e:a8)(b:Int):Option a8:=
 (fy e b).bind λc=>
 (M3 c b).bind λv2=>
 (ix c.Nodes v2).bind λv3=>
 (Q8 c b).bind λa=>
 (J5 a.Tasks).bind λf=>
 (app 24 f [(⟨1,b,v3.Prog⟩:k7)]).bind λg=>
 some (⟨a.Nodes,a.Slots,a.Gens,a.Last,a.Places,a.Serial,a.Roots,a.b7,a.Pairs,g,a.Progs⟩:a8)
def K3(e:List Int)(f:Int):Option Int:=
 jn (λ(_:Unit)=>
  some (-1)) (λc=>
  (lp (E:=Int ⊕ Unit) (λ(a:Int)=>
   if (decide (a<(e.length:Int))) then
    (ix e a).bind λb=>
    if (f==b) then
     some (.inr (.inl a))
    else
    some (.inl (y4 (a+1)))
   else
   some (.inr (.inr ()))) 0).bind λg=>
  match g with
  | .inl w=>some w
  | .inr w=>c w)
def H2(a:List Int)(b:Int):Option Bool:=
 (K3 a b).bind λc=>
 some (decide (c>=0))
def dJ(a:l4)(b:List Int):Option Bool:=
 (y6 ((a.Intact&&(a.Target != 0))==true) false (H2 b a.Target)).bind λc=>
 some ((a.Intact&&(a.Target != 0))&&c)
def Q2(n:List l4)(o:List Int):Option (List Int):=
 jn (λ(g:List Int)=>
  some g) (λe=>
  (lp (E:=(List Int)) (λ((a,c):Int × (List Int))=>
   if (decide (a<(n.length:Int))) then
    jn (λ(i:List Int)=>
     some (.inl (y4 (a+1),i))) (λb=>
     (ix n a).bind λj=>
     (dJ j o).bind λk=>
     if k then
      (app 8 c [a]).bind λm=>
      b m
     else
     b c)
   else
   some (.inr c)) (0,[])).bind λf=>
  e f)
def dt(a:List l4):Option (List l4):=
 (mk 24 (a.length:Int) (⟨0,false,0⟩:l4)).bind λb=>
 (AE b a).bind λv2=>
 some v2
def iN(r:List l4)(t:List Int):Option ((List l4) × (List Int)):=
 (Q2 r t).bind λs=>
 (dt r).bind λv2=>
 jn (λ((k,m):(List Int) × (List l4))=>
  some (m,k)) (λi=>
  (lp (E:=((List Int) × (List l4))) (λ((f,c,g):Int × (List l4) × (List Int))=>
   if (decide (f<(s.length:Int))) then
    jn (λ((n,o):(List Int) × (List l4))=>
     some (.inl (y4 (f+1),o,n))) (λe=>
     (ix s f).bind λa=>
     (ix c a).bind λb=>
     (ix (c.set (a).toNat (⟨b.Target,false,b.Call⟩:l4)) a).bind λp=>
     if (decide (p.Call>=0)) then
      (app 8 g [a]).bind λq=>
      e (q,(c.set (a).toNat (⟨b.Target,false,b.Call⟩:l4)))
     else
     e (g,(c.set (a).toNat (⟨b.Target,false,b.Call⟩:l4))))
   else
   some (.inr (g,c))) (0,v2,[])).bind λj=>
  i j)
def gA(a:Int)(b:List l4):Option k7:=
 (ix b a).bind λc=>
 some (⟨2,a,c.Call⟩:k7)
def E4(k:List Int)(m:List l4):Option (List k7):=
 jn (λ(e:List k7)=>
  some e) (λj=>
  (lp (E:=(List k7)) (λ((a,b):Int × (List k7))=>
   if (decide (a<(k.length:Int))) then
    (ix k a).bind λf=>
    (gA f m).bind λg=>
    (app 24 b [g]).bind λi=>
    some (.inl (y4 (a+1),i))
   else
   some (.inr b)) (0,[])).bind λc=>
  j c)
def I7(g:List (List k7)):Option (List k7):=
 jn (λ(a:Int)=>
  jn (λ(_:Unit)=>
   if (decide ((y4 (a-(y4 (0-0)))) > 0)) then
    (mk 24 (y4 (a-(y4 (0-0)))) (⟨0,0,0⟩:k7)).bind λA=>
    jn (λ(u:List k7)=>
     some u) (λo=>
     (lp (E:=(List k7)) (λ((b,i):Int × (List k7))=>
      if (decide (b<(g.length:Int))) then
       (ix g b).bind λx=>
       (app 24 i x).bind λy=>
       some (.inl (y4 (b+1),y))
      else
      some (.inr i)) (0,[])).bind λr=>
     o r)
   else
   jn (λ(v:List k7)=>
    some v) (λp=>
    (lp (E:=(List k7)) (λ((c,j):Int × (List k7))=>
     if (decide (c<(g.length:Int))) then
      (ix g c).bind λz=>
      (app 24 j z).bind λh=>
      some (.inl (y4 (c+1),h))
     else
     some (.inr j)) (0,[])).bind λs=>
    p s)) (λn=>
   if (decide (a<0)) then
    none
   else
   n ())) (λm=>
  (lp (E:=Int) (λ((e,f):Int × Int)=>
   if (decide (f<(g.length:Int))) then
    jn (λ(w:Int)=>
     some (.inl (w,y4 (f+1)))) (λq=>
     (ix g f).bind λk=>
     if (decide ((y4 (e+(k.length:Int)))<0)) then
      none
     else
     q (y4 (e+(k.length:Int))))
   else
   some (.inr e)) (0,0)).bind λt=>
  m t)
def gB(a:l5)(b:List Int):Option Bool:=
 (H2 b a.Key).bind λc=>
 some (!c)
def F7(n:List l5)(o:List Int):Option (List l5):=
 jn (λ(i:List l5)=>
  some i) (λf=>
  (lp (E:=(List l5)) (λ((b,c):Int × (List l5))=>
   if (decide (b<(n.length:Int))) then
    jn (λ(j:List l5)=>
     some (.inl (y4 (b+1),j))) (λa=>
     (ix n b).bind λe=>
     (gB e o).bind λk=>
     if k then
      (app 16 c [e]).bind λm=>
      a m
     else
     a c)
   else
   some (.inr c)) (0,[])).bind λg=>
  f g)
def ll(a:b8):Option b8:=
 some (⟨a.Serial,a.Slot,a.Prog,a.Started,false,a.Stuck,[]⟩:b8)
def F5(a:a8)(c:Int):Option a8:=
 (M3 a c).bind λb=>
 (w9 a.Nodes).bind λv2=>
 (ix v2 b).bind λv3=>
 (ll v3).bind λe=>
 some (⟨(v2.set (b).toNat e),a.Slots,a.Gens,a.Last,a.Places,a.Serial,a.Roots,a.b7,a.Pairs,a.Tasks,a.Progs⟩:a8)
def jd(b:l4)(a:Int):Option Bool:=
 some ((a != 0)&&(b.Target==a))
def Y0(n:List l4)(o:Int):Option (List Int):=
 jn (λ(g:List Int)=>
  some g) (λe=>
  (lp (E:=(List Int)) (λ((a,c):Int × (List Int))=>
   if (decide (a<(n.length:Int))) then
    jn (λ(i:List Int)=>
     some (.inl (y4 (a+1),i))) (λb=>
     (ix n a).bind λj=>
     (jd j o).bind λk=>
     if k then
      (app 8 c [a]).bind λm=>
      b m
     else
     b c)
   else
   some (.inr c)) (0,[])).bind λf=>
  e f)
def fP(a:List l4)(b:Int):Option Int:=
 (Y0 a b).bind λc=>
 some (c.length:Int)
def dB(a:b8)(b:Int):Option Bool:=
 some (a.Serial != b)
def E8(n:List b8)(o:Int):Option (List b8):=
 jn (λ(i:List b8)=>
  some i) (λf=>
  (lp (E:=(List b8)) (λ((b,c):Int × (List b8))=>
   if (decide (b<(n.length:Int))) then
    jn (λ(j:List b8)=>
     some (.inl (y4 (b+1),j))) (λa=>
     (ix n b).bind λe=>
     (dB e o).bind λk=>
     if k then
      (app 56 c [e]).bind λm=>
      a m
     else
     a c)
   else
   some (.inr c)) (0,[])).bind λg=>
  f g)
def C2(a:List Int):Option (List Int):=
 app 8 [] a
def T5(a:a8)(f:Int):Option a8:=
 (M3 a f).bind λc=>
 (y6 ((decide (c<0))==false) (⟨0,0,0,false,false,false,[]⟩:b8) (ix a.Nodes c)).bind λv2=>
 (y6 (((decide (c<0))||v2.Alive)==false) 0 (fP a.b7 f)).bind λv3=>
 if (((decide (c<0))||v2.Alive)||(decide (v3 > 0))) then
  some a
 else
 (ix a.Nodes c).bind λb=>
 (E8 a.Nodes f).bind λi=>
 (C2 a.Slots).bind λe=>
 (C2 a.Gens).bind λg=>
 (ix g b.Slot).bind λj=>
 if (j==a.Last) then
  (ix e b.Slot).bind λm=>
  some (⟨i,(e.set (b.Slot).toNat (-1)),g,a.Last,a.Places,a.Serial,a.Roots,a.b7,a.Pairs,a.Tasks,a.Progs⟩:a8)
 else
 (ix e b.Slot).bind λk=>
 some (⟨i,(e.set (b.Slot).toNat 0),(g.set (b.Slot).toNat (y4 (j+1))),a.Last,a.Places,a.Serial,a.Roots,a.b7,a.Pairs,a.Tasks,a.Progs⟩:a8)
def gz(a:a8)(g:List Int):Option a8:=
 (iN a.b7 g).bind λk=>
 (E4 k.2 k.1).bind λv2=>
 (I7 [a.Tasks,v2]).bind λv3=>
 (F7 a.Pairs g).bind λo=>
 jn (λ(j:a8)=>
  some j) (λf=>
  (lp (E:=a8) (λ((b,c):Int × a8)=>
   if (decide (b<(g.length:Int))) then
    (ix g b).bind λe=>
    (F5 c e).bind λm=>
    (T5 m e).bind λn=>
    some (.inl (y4 (b+1),n))
   else
   some (.inr c)) (0,(⟨a.Nodes,a.Slots,a.Gens,a.Last,a.Places,a.Serial,a.Roots,k.1,o,v3,a.Progs⟩:a8))).bind λi=>
  f i)
def bN(a:b8)(b:a8):Option Bool:=
 (y6 ((a.Alive&&(!a.Stuck))==true) 0 (da b a.Serial)).bind λc=>
 some ((a.Alive&&(!a.Stuck))&&(c==0))
def A7(f:List b8)(g:a8):Option Int:=
 jn (λ(_:Unit)=>
  some (-1)) (λe=>
  (lp (E:=Int ⊕ Unit) (λ(a:Int)=>
   if (decide (a<(f.length:Int))) then
    (ix f a).bind λb=>
    (bN b g).bind λc=>
    if c then
     some (.inr (.inl a))
    else
    some (.inl (y4 (a+1)))
   else
   some (.inr (.inr ()))) 0).bind λi=>
  match i with
  | .inl w=>some w
  | .inr w=>e w)
def K7(c:a8):Option a8:=
 (lp (E:=a8) (λ(s2:a8)=>
  (A7 s2.Nodes s2).bind λb=>
  if (decide (b<0)) then
   some (.inr s2)
  else
  (ix s2.Nodes b).bind λa=>
  (eI a).bind λf=>
  if f then
   (bV s2 a.Serial).bind λg=>
   some (.inl g)
  else
  (gz s2 [a.Serial]).bind λi=>
  some (.inl i)) c).bind λe=>
 some e
def ba(a:a8):Option (List Int):=
 (D1 a.Nodes).bind λb=>
 (L6 b).bind λv2=>
 some v2
def bL(i:a8):Option (a8 × l6):=
 (iY i).bind λr=>
 (E5 i.Nodes r).bind λv2=>
 (G0 v2).bind λv3=>
 (L6 v3).bind λg=>
 jn (λ(a:a8)=>
  if (decide ((g.length:Int) > 0)) then
   some (a,(⟨y4 (0-(g.length:Int)),0⟩:l6))
  else
  (L6 v2).bind λk=>
  (gz a k).bind λm=>
  (K7 m).bind λe=>
  (ba a).bind λn=>
  (ba e).bind λo=>
  some (e,(⟨y4 ((n.length:Int)-(o.length:Int)),0⟩:l6))) (λf=>
  (lp (E:=a8) (λ((b,c):Int × a8)=>
   if (decide (b<(g.length:Int))) then
    (ix g b).bind λp=>
    (bV c p).bind λq=>
    some (.inl (y4 (b+1),q))
   else
   some (.inr c)) (0,i)).bind λj=>
  f j)
def iw(b:List (List k8))(a:Int):Option (List k8):=
 if ((decide (a<0))||(decide (a>=(b.length:Int)))) then
  some []
 else
 (ix b a).bind λc=>
 some c
def fm(a:List (List k8))(b:k7):Option Int:=
 (iw a b.Prog).bind λc=>
 some (y4 (1+(c.length:Int)))
def Z6(e:a8)(b:Int)(c:Int):Option a8:=
 (fy e c).bind λa=>
 (C2 a.Roots).bind λv2=>
 (ix v2 b).bind λv3=>
 some (⟨a.Nodes,a.Slots,a.Gens,a.Last,a.Places,a.Serial,(v2.set (b).toNat c),a.b7,a.Pairs,a.Tasks,a.Progs⟩:a8)
def P3(a:k9):Option Int:=
 some (a.L.length:Int)
def K0(a:List k7)(b:Int)(c:Int):Option (List k7):=
 (cut a b c).bind λe=>
 some e
def cv(c:k9)(b:Int):Option (k9 × (List k7)):=
 (P3 c).bind λa=>
 (K0 c.L 0 (if (if a<b then a else b) > 0 then (if a<b then a else b) else 0)).bind λv2=>
 (K0 c.L (if (if a<b then a else b) > 0 then (if a<b then a else b) else 0) a).bind λv3=>
 some ((⟨v3,c.Cap⟩:k9),v2)
def dV(b:k9):Option (k9 × k7 × Int):=
 (cv b 1).bind λa=>
 if ((a.2.length:Int)==0) then
  some (b,(⟨0,0,0⟩:k7),10)
 else
 (ix a.2 0).bind λv2=>
 some (a.1,v2,0)
def fN(b:k9):Option (k9 × k7 × Int):=
 (dV b).bind λa=>
 some (a.1,a.2.1,a.2.2)
def X7(b:a8)(a:Int):Option Int:=
 if (decide (a<0)) then
  some 0
 else
 (ix b.Roots a).bind λc=>
 some c
def L9(a:a8)(c:Int):Option (b8 × Int):=
 (X7 a c).bind λb=>
 if (b==0) then
  some ((⟨0,0,0,false,false,false,[]⟩:b8),2)
 else
 (M3 a b).bind λv2=>
 (ix a.Nodes v2).bind λv3=>
 some (v3,0)
def jc(b:List Int)(a:Int):Option Bool:=
 some ((decide (a>=0))&&(decide (a<(b.length:Int))))
def nX(a:List Int)(b:Int)(c:Int):Option ((List Int) × Int):=
 (jc a b).bind λe=>
 if (!e) then
  some (a,5)
 else
 (mk 8 (a.length:Int) (0:Int)).bind λv2=>
 (AE v2 a).bind λv3=>
 (ix v3 b).bind λf=>
 some ((v3.set (b).toNat c),0)
def gG(a:b8)(b:List Int):Option b8:=
 some (⟨a.Serial,a.Slot,a.Prog,a.Started,a.Alive,a.Stuck,b⟩:b8)
def T4(a:a8)(c:Int)(e:List Int):Option a8:=
 (M3 a c).bind λb=>
 (w9 a.Nodes).bind λv2=>
 (ix v2 b).bind λv3=>
 (gG v3 e).bind λf=>
 some (⟨(v2.set (b).toNat f),a.Slots,a.Gens,a.Last,a.Places,a.Serial,a.Roots,a.b7,a.Pairs,a.Tasks,a.Progs⟩:a8)
def ko(a:a8)(c:Int)(e:k8):Option (a8 × Int):=
 (L9 a e.A).bind λb=>
 if (b.2 != 0) then
  some (a,b.2)
 else
 (nX b.1.Fields e.B c).bind λv2=>
 if (v2.2 != 0) then
  some (a,v2.2)
 else
 (fy a c).bind λv3=>
 (T4 v3 b.1.Serial v2.1).bind λf=>
 some (f,0)
def N5(b:a8)(c:Int)(e:k8):Option (a8 × l6):=
 (ko b c e).bind λa=>
 if (a.2 != 0) then
  some (b,(⟨0,a.2⟩:l6))
 else
 (K7 a.1).bind λv2=>
 some (v2,(⟨c,0⟩:l6))
def bG(f:k9)(g:Int):Option Bool:=
 jn (λ(_:Unit)=>
  some false) (λe=>
  (sF f 2).bind λc=>
  (lp (E:=Bool ⊕ Unit) (λ(a:Int)=>
   if (decide (a<(c.1.L.length:Int))) then
    (ix c.1.L a).bind λb=>
    if ((b.Kind==c.2)==true) then
     if (b.At==g) then
      some (.inr (.inl true))
     else
     some (.inl (y4 (a+1)))
    else
    some (.inl (y4 (a+1)))
   else
   some (.inr (.inr ()))) 0).bind λi=>
  match i with
  | .inl w=>some w
  | .inr w=>e w)
def lK(b:List l4)(a:Int):Option Bool:=
 some ((decide (a>=0))&&(decide (a<(b.length:Int))))
def lJ(a:List l4)(b:Int)(c:Int)(e:Int):Option ((List l4) × Int × Int):=
 (lK a b).bind λf=>
 if (!f) then
  some (a,0,7)
 else
 (dt a).bind λv2=>
 (ix v2 b).bind λv3=>
 (ix a b).bind λg=>
 some ((v2.set (b).toNat (⟨c,(c != 0),e⟩:l4)),g.Target,0)
def gH(a:a8)(c:Int)(b:k8):Option (a8 × Int):=
 if ((decide (b.B>=0))&&(c==0)) then
  some (a,2)
 else
 (ar a).bind λe=>
 (bG e b.A).bind λv2=>
 if v2 then
  some (a,7)
 else
 (lJ a.b7 b.A c b.C).bind λv3=>
 if (v3.2.2 != 0) then
  some (a,v3.2.2)
 else
 (T5 (⟨a.Nodes,a.Slots,a.Gens,a.Last,a.Places,a.Serial,a.Roots,v3.1,a.Pairs,a.Tasks,a.Progs⟩:a8) v3.2.1).bind λf=>
 some (f,0)
def L3(b:a8)(c:Int)(e:k8):Option (a8 × l6):=
 (gH b c e).bind λa=>
 if (a.2 != 0) then
  some (b,(⟨0,a.2⟩:l6))
 else
 (K7 a.1).bind λv2=>
 some (v2,(⟨c,0⟩:l6))
def gF(a:l5)(b:b8):Option Bool:=
 some (a.Key != b.Serial)
def F8(n:List l5)(o:b8):Option (List l5):=
 jn (λ(i:List l5)=>
  some i) (λf=>
  (lp (E:=(List l5)) (λ((b,c):Int × (List l5))=>
   if (decide (b<(n.length:Int))) then
    jn (λ(j:List l5)=>
     some (.inl (y4 (b+1),j))) (λa=>
     (ix n b).bind λe=>
     (gF e o).bind λk=>
     if k then
      (app 16 c [e]).bind λm=>
      a m
     else
     a c)
   else
   some (.inr c)) (0,[])).bind λg=>
  f g)
def km(a:a8)(c:Int)(e:k8):Option (a8 × Int):=
 (L9 a e.A).bind λb=>
 if (b.2 != 0) then
  some (a,b.2)
 else
 (F8 a.Pairs b.1).bind λv2=>
 if (c==0) then
  some ((⟨a.Nodes,a.Slots,a.Gens,a.Last,a.Places,a.Serial,a.Roots,a.b7,v2,a.Tasks,a.Progs⟩:a8),0)
 else
 if (decide ((v2.length:Int)>=a.Places)) then
  some (a,8)
 else
 (fy a c).bind λv3=>
 (app 16 v2 [(⟨b.1.Serial,c⟩:l5)]).bind λf=>
 some ((⟨v3.Nodes,v3.Slots,v3.Gens,v3.Last,v3.Places,v3.Serial,v3.Roots,v3.b7,f,v3.Tasks,v3.Progs⟩:a8),0)
def N4(b:a8)(c:Int)(e:k8):Option (a8 × l6):=
 (km b c e).bind λa=>
 if (a.2 != 0) then
  some (b,(⟨0,a.2⟩:l6))
 else
 (K7 a.1).bind λv2=>
 some (v2,(⟨c,0⟩:l6))
def sI(a:Int):Option ((List Int) × Int):=
 if ((decide (a<0))||(decide (a > 4))) then
  some ([],1)
 else
 (mk 8 a (0:Int)).bind λb=>
 some (b,0)
def bx(b:a8)(a:Int)(c:Int):Option (a8 × l6):=
 (Z6 b a c).bind λe=>
 (K7 e).bind λv2=>
 (ix v2.Roots a).bind λv3=>
 some (v2,(⟨v3,0⟩:l6))
def eG(a:a8)(b:k8):Option (a8 × l6):=
 (sI b.B).bind λc=>
 if (c.2 != 0) then
  some (a,(⟨0,c.2⟩:l6))
 else
 (K3 a.Slots 0).bind λv2=>
 if (decide (v2<0)) then
  some (a,(⟨0,4⟩:l6))
 else
 (C2 a.Slots).bind λv3=>
 (ix v3 v2).bind λi=>
 (w9 a.Nodes).bind λf=>
 (app 56 f [(⟨y4 (a.Serial+1),v2,b.C,false,true,false,c.1⟩:b8)]).bind λg=>
 (bx (⟨g,(v3.set (v2).toNat (y4 (a.Serial+1))),a.Gens,a.Last,a.Places,y4 (a.Serial+1),a.Roots,a.b7,a.Pairs,a.Tasks,a.Progs⟩:a8) b.A (y4 (a.Serial+1))).bind λe=>
 some (e.1,e.2)
def iK(a:List Int)(b:Int):Option (Int × Int):=
 (jc a b).bind λc=>
 if (!c) then
  some (0,5)
 else
 (ix a b).bind λv2=>
 some (v2,0)
def ca(a:List l4)(b:Int):Option (Int × Int):=
 (lK a b).bind λc=>
 if (!c) then
  some (0,7)
 else
 (ix a b).bind λv2=>
 if ((v2.Target==0)||(!v2.Intact)) then
  some (0,9)
 else
 some (v2.Target,0)
def db(b:a8)(a:k8):Option (Int × Int):=
 if (a.Kind==2) then
  (ix b.Roots a.B).bind λg=>
  some (g,0)
 else
 if (a.Kind==4) then
  (L9 b a.B).bind λv2=>
  if (v2.2 != 0) then
   some (0,v2.2)
  else
  (iK v2.1.Fields a.C).bind λv3=>
  some (v3.1,v3.2)
 else
 if (a.Kind==7) then
  (ca b.b7 a.B).bind λe=>
  some (e.1,e.2)
 else
 if (a.Kind==9) then
  (L9 b a.B).bind λc=>
  if (c.2 != 0) then
   some (0,c.2)
  else
  (O8 b c.1.Serial).bind λf=>
  if (decide ((f.length:Int) > 0)) then
   (ix f 0).bind λi=>
   some (i,0)
  else
  some (0,9)
 else
 some (0,0)
def aq(b:a8)(a:k8):Option (a8 × l6):=
 if (a.Kind==10) then
  (ix b.Roots a.A).bind λk=>
  (ix b.Roots a.B).bind λv2=>
  if (k==v2) then
   some (b,(⟨1,0⟩:l6))
  else
  some (b,(⟨0,0⟩:l6))
 else
 if (a.Kind==5) then
  (X7 b a.C).bind λv3=>
  (N5 b v3 a).bind λf=>
  some (f.1,f.2)
 else
 if (a.Kind==6) then
  (X7 b a.B).bind λm=>
  (L3 b m a).bind λg=>
  some (g.1,g.2)
 else
 if (a.Kind==8) then
  (X7 b a.B).bind λn=>
  (N4 b n a).bind λi=>
  some (i.1,i.2)
 else
 if (a.Kind==1) then
  (eG b a).bind λj=>
  some (j.1,j.2)
 else
 (db b a).bind λc=>
 if (c.2 != 0) then
  some (b,(⟨0,c.2⟩:l6))
 else
 (bx b a.A c.1).bind λe=>
 some (e.1,e.2)
def nv(j:a8)(i:List k8):Option a8:=
 jn (λ(k:a8)=>
  some k) (λg=>
  (lp (E:=a8) (λ((a,b):Int × a8)=>
   if (decide (a<(i.length:Int))) then
    (ix i a).bind λe=>
    (aq b e).bind λf=>
    some (.inl (y4 (a+1),f.1))
   else
   some (.inr b)) (0,j)).bind λc=>
  g c)
def eN(m:a8)(b:k7):Option a8:=
 jn (λ(a:a8)=>
  (ar a).bind λp=>
  (fN p).bind λo=>
  jn (λ(n:a8)=>
   (iw n.Progs b.Prog).bind λq=>
   (nv n q).bind λc=>
   if (b.Kind==1) then
    (Z6 c 5 0).bind λg=>
    (K7 g).bind λi=>
    some i
   else
   some c) (λf=>
   if (b.Kind==1) then
    (K7 (⟨a.Nodes,a.Slots,a.Gens,a.Last,a.Places,a.Serial,a.Roots,a.b7,a.Pairs,o.1.L,a.Progs⟩:a8)).bind λj=>
    f j
   else
   f (⟨a.Nodes,a.Slots,a.Gens,a.Last,a.Places,a.Serial,a.Roots,a.b7,a.Pairs,o.1.L,a.Progs⟩:a8))) (λe=>
  if (b.Kind==1) then
   (Z6 m 5 b.At).bind λk=>
   e k
  else
  e m)
def eH(n:a8)(o:Int):Option (a8 × l6):=
 jn (λ((j,k):Int × a8)=>
  some (k,(⟨j,0⟩:l6))) (λg=>
  (lp (E:=(a8 × l6) ⊕ (Int × a8)) (λ((c,b,a):Int × Int × a8)=>
   if (decide ((a.Tasks.length:Int) > 0)) then
    (ix a.Tasks 0).bind λe=>
    (fm a.Progs e).bind λf=>
    if (decide (f > c)) then
     some (.inr (.inl (a,(⟨b,12⟩:l6))))
    else
    (eN a e).bind λm=>
    some (.inl (y4 (c-f),y4 (b+1),m))
   else
   some (.inr (.inr (b,a)))) (o,0,n)).bind λi=>
  match i with
  | .inl w=>some w
  | .inr w=>g w)
def ns(b:a8)(e:List Int):Option (a8 × l6):=
 (Z2 e).bind λa=>
 if (a.2 != 0) then
  some (b,(⟨0,a.2⟩:l6))
 else
 if (a.1.Kind==11) then
  (bL b).bind λv2=>
  some (v2.1,v2.2)
 else
 if (a.1.Kind==12) then
  (eH b a.1.A).bind λv3=>
  some (v3.1,v3.2)
 else
 (aq b a.1).bind λc=>
 some (c.1,c.2)
def EO(o:a8)(n:List (List Int)):Option (a8 × (List l6)):=
 jn (λ((i,j):a8 × (List l6))=>
  some (i,j)) (λf=>
  (lp (E:=(a8 × (List l6))) (λ((a,b,c):Int × a8 × (List l6))=>
   if (decide (a<(n.length:Int))) then
    (ix n a).bind λk=>
    (ns b k).bind λe=>
    (app 16 c [e.2]).bind λm=>
    some (.inl (y4 (a+1),e.1,m))
   else
   some (.inr (b,c))) (0,o,[])).bind λg=>
  f g)
def vg(a:k8):Option TI:=
 if (a.Kind==11) then
  some (⟨187,[]⟩:TI)
 else
 if (a.Kind==12) then
  some (⟨191,[a.A]⟩:TI)
 else
 some (⟨183,[a.Kind,a.A,a.B,a.C]⟩:TI)
def iW:Option (List (Int × Fv)):=
 some (u6 (u6 (u6 (u6 (u6 (u6 (u6 (u6 (u6 (u6 [] 1 (some 201)) 2 (some 202)) 3 (some 203)) 4 (some 204)) 5 (some 205)) 6 (some 206)) 7 (some 207)) 8 (some 208)) 9 (some 209)) 10 (some 210))
def ah(a:Int):Option Bool:=
 some ((decide (a>=(-1)))&&(decide (a<6)))
def V3(a:m8):Option m8:=
 some a
def B5(a:List g7):Option (List g7):=
 app 80 [] a
def G9(a:m8)(b:Int)(e:g7):Option m8:=
 (B5 a.b7).bind λc=>
 (ix c b).bind λv2=>
 some (⟨(c.set (b).toNat e),a.Last⟩:m8)
def fE(a:Int)(b:Int):Option Int:=
 if ((((decide (a<0))||(decide (a>=24)))||(decide (b<0)))||(decide (b > 9))) then
  some 0
 else
 some (y4 ((y4 (1+(y4 (a*1))))+(y4 (b*32))))
def P4(e:m8)(m:p9):Option (m8 × Int × Int):=
 jn (λ(_:Unit)=>
  some (e,0,4)) (λk=>
  (V3 e).bind λb=>
  (lp (E:=(m8 × Int × Int) ⊕ Unit) (λ(a:Int)=>
   if (decide (a<(b.b7.length:Int))) then
    (ix b.b7 a).bind λg=>
    if ((g.State==0)==true) then
     (ix e.b7 a).bind λc=>
     (G9 e a (⟨1,c.Gen,m⟩:g7)).bind λi=>
     (fE a c.Gen).bind λj=>
     some (.inr (.inl (i,j,0)))
    else
    some (.inl (y4 (a+1)))
   else
   some (.inr (.inr ()))) 0).bind λf=>
  match f with
  | .inl w=>some w
  | .inr w=>k w)
def aw(a:b6)(e:Int)(c:Int):Option (b6 × Int × Int):=
 (sI e).bind λb=>
 if (b.2 != 0) then
  some (a,0,b.2)
 else
 (ah c).bind λv2=>
 if (!v2) then
  some (a,0,13)
 else
 (P4 a.S (⟨y4 (a.Serial+1),0,0,c,false,b.1⟩:p9)).bind λv3=>
 if (v3.2.2 != 0) then
  some (a,0,v3.2.2)
 else
 some ((⟨v3.1,y4 (a.Serial+1)⟩:b6),v3.2.1,0)
def gh(a:Int):Option (Int × Int × Bool):=
 if (decide (a<1)) then
  some ((-1),(-1),false)
 else
 (rem (y4 (a-1)) 32).bind λb=>
 (quo .i64 b 1).bind λv2=>
 (quo .i64 (y4 (a-1)) 32).bind λv3=>
 if ((decide (v2>=24))||(decide (v3 > 9))) then
  some ((-1),(-1),false)
 else
 some (v2,v3,true)
def jh(a:Int):Option Int:=
 (gh a).bind λb=>
 some b.1
def kX(a:Int):Option Int:=
 (gh a).bind λb=>
 some b.2.1
def C0(c:m8)(b:Int):Option (Int × Int):=
 if (b==0) then
  some ((-1),2)
 else
 (jh b).bind λa=>
 if ((decide (a<0))||(decide (a>=(c.b7.length:Int)))) then
  some ((-1),3)
 else
 (ix c.b7 a).bind λv2=>
 (kX b).bind λv3=>
 if ((v2.Gen != v3)||((v2.State != 1)&&(v2.State != 2))) then
  some ((-1),3)
 else
 some (a,0)
def K2(b:m8)(c:Int):Option (p9 × Int):=
 (C0 b c).bind λa=>
 if (a.2 != 0) then
  some ((⟨0,0,0,0,false,[]⟩:p9),a.2)
 else
 (ix b.b7 a.1).bind λv2=>
 if (v2.State==2) then
  some ((⟨0,0,0,0,false,[]⟩:p9),3)
 else
 some (v2.Val,0)
def A9(b:b6)(c:Int):Option (p9 × Int):=
 (K2 b.S c).bind λa=>
 some (a.1,a.2)
def mb(a:c7)(b:Int):Option Bool:=
 (A9 a.S b).bind λc=>
 some (c.2==0)
def R9(b:c7)(a:Int):Option Bool:=
 (y6 ((a==0)==false) false (mb b a)).bind λc=>
 some ((a==0)||c)
def O3(a:Int):Option Bool:=
 some (decide (a>=12))
def kW(a:Int):Option (Int × Int):=
 (O3 a).bind λb=>
 if b then
  some (12,0)
 else
 some (y4 ((if 0 > a then 0 else a)+1),0)
def rY(a:Int):Option Int:=
 (kW a).bind λb=>
 some b.1
def bF(a:m8)(c:Int)(e:p9):Option (m8 × Int):=
 (C0 a c).bind λb=>
 if (b.2 != 0) then
  some (a,b.2)
 else
 (ix a.b7 b.1).bind λv2=>
 (G9 a b.1 (⟨v2.State,v2.Gen,e⟩:g7)).bind λv3=>
 some (v3,0)
def X0(a:b6)(c:Int)(e:p9):Option (b6 × Int):=
 (bF a.S c e).bind λb=>
 some ((⟨b.1,a.Serial⟩:b6),b.2)
def aI(a:c7)(c:Int):Option c7:=
 (A9 a.S c).bind λb=>
 if (b.2==0) then
  (rY b.1.Strong).bind λv2=>
  (X0 a.S c (⟨b.1.Serial,v2,b.1.Weak,b.1.Prog,b.1.Started,b.1.Fields⟩:p9)).bind λv3=>
  some (⟨v3.1,a.Roots,a.b7,a.T,a.Q⟩:c7)
 else
 some a
def cZ(a:c7)(b:Int):Option c7:=
 (aI a b).bind λc=>
 some c
def bt(b:O5)(a:c7):Option c7:=
 (C2 a.Roots).bind λc=>
 (ix c b.r).bind λv2=>
 some (⟨a.S,(c.set (b.r).toNat b.h),a.b7,a.T,a.Q⟩:c7)
def iv(a:Int):Option (Int × Int):=
 (O3 a).bind λb=>
 if b then
  some (12,0)
 else
 if (decide (a<1)) then
  some (0,11)
 else
 some (y4 (a-1),0)
def xp(b:Int):Option (Int × Int):=
 (iv b).bind λa=>
 some (a.1,a.2)
def gk(a:Int):Option Int:=
 (xp a).bind λb=>
 if (b.2 != 0) then
  some a
 else
 some b.1
def U6(a:c7)(c:Int):Option c7:=
 (A9 a.S c).bind λb=>
 if (b.2==0) then
  (gk b.1.Strong).bind λv2=>
  (X0 a.S c (⟨b.1.Serial,v2,b.1.Weak,b.1.Prog,b.1.Started,b.1.Fields⟩:p9)).bind λv3=>
  some (⟨v3.1,a.Roots,a.b7,a.T,a.Q⟩:c7)
 else
 some a
def J3(a:c7)(b:Int):Option c7:=
 (U6 a b).bind λc=>
 some c
def P9(a:c7)(b:Int)(c:Int)(e:O5):Option c7:=
 (cZ a c).bind λf=>
 (bt e f).bind λv2=>
 (J3 v2 b).bind λv3=>
 some v3
def kH(a:c7)(b:Int)(c:Int):Option (c7 × Int):=
 if ((decide (b<0))||(decide (b>=(a.Roots.length:Int)))) then
  some (a,6)
 else
 (R9 a c).bind λe=>
 if (!e) then
  some (a,3)
 else
 (ix a.Roots b).bind λv2=>
 (P9 a v2 c (⟨b,c⟩:O5)).bind λv3=>
 some (v3,0)
def E6(a:x6)(e:Int)(b:Int):Option (c7 × Int):=
 if (b != 0) then
  some (a.x,b)
 else
 (kH a.x a.o.A e).bind λc=>
 some (c.1,c.2)
def aB(a:x6):Option (c7 × Int):=
 (aw a.x.S a.o.B a.o.C).bind λb=>
 if (b.2.2 != 0) then
  some (a.x,b.2.2)
 else
 (E6 (⟨⟨b.1,a.x.Roots,a.x.b7,a.x.T,a.x.Q⟩,a.o⟩:x6) b.2.1 0).bind λv2=>
 some (v2.1,v2.2)
def T0(b:c7)(a:Int):Option Int:=
 if ((decide (a<0))||(decide (a>=(b.Roots.length:Int)))) then
  some 0
 else
 (ix b.Roots a).bind λc=>
 some c
def O7(a:x6):Option (c7 × Int):=
 (T0 a.x a.o.B).bind λb=>
 (E6 a b 0).bind λv2=>
 some (v2.1,v2.2)
def cI(b:x6):Option (c7 × Int):=
 (E6 b 0 0).bind λa=>
 some (a.1,a.2)
def T3(b:c7)(c:Int):Option (Int × Int):=
 (T0 b c).bind λa=>
 if (a==0) then
  some (0,2)
 else
 some (a,0)
def N2(b:b6)(c:Int)(e:Int):Option (Int × Int):=
 (A9 b c).bind λa=>
 if (a.2 != 0) then
  some (0,a.2)
 else
 (iK a.1.Fields e).bind λv2=>
 some (v2.1,v2.2)
def cJ(a:x6):Option (c7 × Int):=
 (T3 a.x a.o.B).bind λb=>
 if (b.2 != 0) then
  some (a.x,b.2)
 else
 (N2 a.x.S b.1 a.o.C).bind λv2=>
 (E6 a v2.1 v2.2).bind λv3=>
 some (v3.1,v3.2)
def sD(b:b6)(c:Int)(e:Int)(f:Int):Option (b6 × Int):=
 (A9 b c).bind λa=>
 if (a.2 != 0) then
  some (b,a.2)
 else
 (nX a.1.Fields e f).bind λv2=>
 if (v2.2 != 0) then
  some (b,v2.2)
 else
 (X0 b c (⟨a.1.Serial,a.1.Strong,a.1.Weak,a.1.Prog,a.1.Started,v2.1⟩:p9)).bind λv3=>
 some (v3.1,v3.2)
def dR(b:K6)(a:c7):Option c7:=
 (sD a.S b.h b.k b.v).bind λc=>
 some (⟨c.1,a.Roots,a.b7,a.T,a.Q⟩:c7)
def J4(a:c7)(b:Int)(c:Int)(e:K6):Option c7:=
 (cZ a c).bind λf=>
 (dR e f).bind λv2=>
 (J3 v2 b).bind λv3=>
 some v3
def bq(a:c7)(e:Int)(f:Int)(b:Int):Option (c7 × Int):=
 (N2 a.S e f).bind λc=>
 if (c.2 != 0) then
  some (a,c.2)
 else
 (R9 a b).bind λv2=>
 if (!v2) then
  some (a,3)
 else
 (J4 a c.1 b (⟨e,f,b⟩:K6)).bind λv3=>
 some (v3,0)
def bu(a:x6):Option (c7 × Int):=
 (T3 a.x a.o.A).bind λb=>
 if (b.2 != 0) then
  some (a.x,b.2)
 else
 (T0 a.x a.o.C).bind λv2=>
 (bq a.x b.1 a.o.B v2).bind λv3=>
 some (v3.1,v3.2)
def aZ(a:c7)(b:Int)(e:Int):Option c7:=
 (C0 a.S.S b).bind λc=>
 if (c.2==0) then
  (ix a.S.S.b7 c.1).bind λv2=>
  (X0 a.S b (⟨v2.Val.Serial,v2.Val.Strong,y4 (v2.Val.Weak+e),v2.Val.Prog,v2.Val.Started,v2.Val.Fields⟩:p9)).bind λv3=>
  some (⟨v3.1,a.Roots,a.b7,a.T,a.Q⟩:c7)
 else
 some a
def V2(a:m8)(c:Int):Option (m8 × Int):=
 (C0 a c).bind λb=>
 if (b.2 != 0) then
  some (a,b.2)
 else
 (ix a.b7 b.1).bind λv2=>
 if (v2.Gen==a.Last) then
  (G9 a b.1 (⟨3,v2.Gen,⟨0,0,0,0,false,[]⟩⟩:g7)).bind λv3=>
  some (v3,0)
 else
 (G9 a b.1 (⟨0,y4 (v2.Gen+1),⟨0,0,0,0,false,[]⟩⟩:g7)).bind λe=>
 some (e,0)
def bU(c:c7)(b:Int):Option c7:=
 (aZ c b (-1)).bind λa=>
 (C0 a.S.S b).bind λv2=>
 if (v2.2 != 0) then
  some a
 else
 (ix a.S.S.b7 v2.1).bind λv3=>
 if ((v3.State==2)&&(v3.Val.Weak==0)) then
  (V2 a.S.S b).bind λe=>
  some (⟨⟨e.1,a.S.Serial⟩,a.Roots,a.b7,a.T,a.Q⟩:c7)
 else
 some a
def W7(a:c7)(b:Int)(c:Int)(e:Int):Option (c7 × Int):=
 (y6 (((decide (b<0))||(decide (b>=(a.b7.length:Int))))==false) false (bG a.Q b)).bind λf=>
 if (((decide (b<0))||(decide (b>=(a.b7.length:Int))))||f) then
  some (a,7)
 else
 (R9 a c).bind λv2=>
 if (!v2) then
  some (a,3)
 else
 (lJ a.b7 b c e).bind λv3=>
 (aZ (⟨a.S,a.Roots,v3.1,a.T,a.Q⟩:c7) c 1).bind λg=>
 (bU g v3.2.1).bind λi=>
 some (i,0)
def P2(a:x6):Option (c7 × Int):=
 if (a.o.B==(-1)) then
  (W7 a.x a.o.A 0 a.o.C).bind λb=>
  some (b.1,b.2)
 else
 (T3 a.x a.o.B).bind λv2=>
 if (v2.2 != 0) then
  some (a.x,v2.2)
 else
 (W7 a.x a.o.A v2.1 a.o.C).bind λv3=>
 some (v3.1,v3.2)
def bK(a:x6):Option (c7 × Int):=
 (ca a.x.b7 a.o.B).bind λb=>
 (E6 a b.1 b.2).bind λv2=>
 some (v2.1,v2.2)
def kG(a:Int)(b:Int):Option (Int × Int):=
 some (a,b)
def fF(a:Int)(c:Int):Option Int:=
 if (decide (a<1)) then
  some 0
 else
 (rem (y4 ((y4 (5*c))+1)) a).bind λb=>
 if (decide (b<0)) then
  some (y4 (b+a))
 else
 some b
def bT(j:List g8)(k:Int):Option Int:=
 jn (λ(_:Unit)=>
  some (-1)) (λi=>
  (kG (j.length:Int) k).bind λa=>
  (lp (E:=Int ⊕ Unit) (λ(b:Int)=>
   if (decide (b<a.1)) then
    (fF a.1 a.2).bind λg=>
    (rem (y4 (g+b)) a.1).bind λe=>
    (ix j e).bind λc=>
    if (c.State==0) then
     some (.inr (.inr ()))
    else
    if ((c.State==1)&&(c.Key==k)) then
     some (.inr (.inl e))
    else
    some (.inl (y4 (b+1)))
   else
   some (.inr (.inr ()))) 0).bind λf=>
  match f with
  | .inl w=>some w
  | .inr w=>i w)
def bI(a:List g8)(c:Int):Option (Int × Int):=
 (bT a c).bind λb=>
 if (decide (b<0)) then
  some (0,9)
 else
 (ix a b).bind λv2=>
 some (v2.Val,0)
def H9(a:List g8):Option (List g8):=
 app 24 [] a
def fG(c:List g8)(a:Int)(e:g8):Option (List g8):=
 (H9 c).bind λb=>
 (ix b a).bind λv2=>
 some (b.set (a).toNat e)
def bS(a:List g8)(c:Int):Option ((List g8) × Int × Int):=
 (bT a c).bind λb=>
 if (decide (b<0)) then
  some (a,0,9)
 else
 (fG a b (⟨2,0,0⟩:g8)).bind λv2=>
 (ix a b).bind λv3=>
 some (v2,v3.Val,0)
def qN(c:List g8)(g:Int)(n:Int):Option ((List g8) × Int):=
 (bT c g).bind λo=>
 if (decide (o>=0)) then
  (fG c o (⟨1,g,n⟩:g8)).bind λv2=>
  some (v2,0)
 else
 jn (λ(_:Unit)=>
  some (c,8)) (λf=>
  (kG (c.length:Int) g).bind λa=>
  (lp (E:=((List g8) × Int) ⊕ Unit) (λ(b:Int)=>
   if (decide (b<a.1)) then
    (fF a.1 a.2).bind λj=>
    (rem (y4 (j+b)) a.1).bind λe=>
    (ix c e).bind λk=>
    if (k.State != 1) then
     (fG c e (⟨1,g,n⟩:g8)).bind λm=>
     some (.inr (.inl (m,0)))
    else
    some (.inl (y4 (b+1)))
   else
   some (.inr (.inr ()))) 0).bind λi=>
  match i with
  | .inl w=>some w
  | .inr w=>f w)
def Y9(a:List g8)(b:Int)(c:Int):Option ((List g8) × Int × Int):=
 if (b==0) then
  some (a,0,2)
 else
 (bI a b).bind λe=>
 if (c==0) then
  (bS a b).bind λv2=>
  some (v2.1,e.1,0)
 else
 (qN a b c).bind λv3=>
 if (v3.2 != 0) then
  some (a,0,v3.2)
 else
 some (v3.1,e.1,0)
def br(b:O4)(a:c7):Option c7:=
 some (⟨a.S,a.Roots,a.b7,b.t,a.Q⟩:c7)
def G7(a:c7)(b:Int)(c:Int)(e:O4):Option c7:=
 (cZ a c).bind λf=>
 (br e f).bind λv2=>
 (J3 v2 b).bind λv3=>
 some v3
def dy(a:c7)(b:Int)(c:Int):Option (c7 × Int):=
 if (b==0) then
  some (a,2)
 else
 (R9 a b).bind λe=>
 (y6 ((!e)==false) false (R9 a c)).bind λv2=>
 if ((!e)||(!v2)) then
  some (a,3)
 else
 (Y9 a.T b c).bind λv3=>
 if (v3.2.2 != 0) then
  some (a,v3.2.2)
 else
 (G7 a v3.2.1 c (⟨v3.1⟩:O4)).bind λf=>
 some (f,0)
def cK(a:x6):Option (c7 × Int):=
 (T3 a.x a.o.A).bind λb=>
 if (b.2 != 0) then
  some (a.x,b.2)
 else
 (T0 a.x a.o.B).bind λv2=>
 (dy a.x b.1 v2).bind λv3=>
 some (v3.1,v3.2)
def xq(b:List g8)(c:Int):Option (Int × Int):=
 (bI b c).bind λa=>
 some (a.1,a.2)
def dz(a:x6):Option (c7 × Int):=
 (T3 a.x a.o.B).bind λb=>
 if (b.2 != 0) then
  some (a.x,b.2)
 else
 (xq a.x.T b.1).bind λv2=>
 (E6 a v2.1 v2.2).bind λv3=>
 some (v3.1,v3.2)
def X6(a:x6):Option (c7 × Int):=
 some (a.x,0)
def AG(f:Fv)(a:x6):Option (c7 × Int):=
 if f=some 201 then aB a else
 if f=some 202 then O7 a else
 if f=some 203 then cI a else
 if f=some 204 then cJ a else
 if f=some 205 then bu a else
 if f=some 206 then P2 a else
 if f=some 207 then bK a else
 if f=some 208 then cK a else
 if f=some 209 then dz a else
 if f=some 210 then X6 a else
 none
def bQ(a:Int):Option Bool:=
 some (a != a)
def fb(a:Int)(b:Int):Option Int:=
 (bQ a).bind λc=>
 (bQ b).bind λv2=>
 if c then
  if v2 then
   some 0
  else
  some (-1)
 else
 if v2 then
  some 1
 else
 if (decide (a<b)) then
  some (-1)
 else
 if (decide (a > b)) then
  some 1
 else
 some 0
def gS(b:Int)(c:Int)(a:List (Int × Int)):Option Int:=
 (fb ((C4 a b).getD (0:Int)) ((C4 a c).getD (0:Int))).bind λe=>
 some e
def K4(t:b6):Option (List Int):=
 jn (λ((k,m):(List (Int × Int)) × (List Int))=>
  (rF (λp q=>gS p q k) m).bind λr=>
  some r) (λi=>
  (lp (E:=((List (Int × Int)) × (List Int))) (λ((a,c,e):Int × (List (Int × Int)) × (List Int))=>
   if (decide (a<(t.S.b7.length:Int))) then
    jn (λ((n,o):(List (Int × Int)) × (List Int))=>
     some (.inl (y4 (a+1),n,o))) (λb=>
     (ix t.S.b7 a).bind λf=>
     if (f.State==1) then
      (fE a f.Gen).bind λg=>
      (app 8 e [g]).bind λs=>
      b ((u6 c g f.Val.Serial),s)
     else
     b (c,e))
   else
   some (.inr (c,e))) (0,[],[])).bind λj=>
  i j)
def fK(o:c7):Option (List Int):=
 jn (λ(j:List Int)=>
  some j) (λg=>
  (K4 o.S).bind λe=>
  (lp (E:=(List Int)) (λ((b,c):Int × (List Int))=>
   if (decide (b<(e.length:Int))) then
    jn (λ(k:List Int)=>
     some (.inl (y4 (b+1),k))) (λa=>
     (ix e b).bind λf=>
     (A9 o.S f).bind λm=>
     if (m.1.Strong==0) then
      (app 8 c [f]).bind λn=>
      a n
     else
     a c)
   else
   some (.inr c)) (0,[])).bind λi=>
  g i)
def T7(a:p9):Option Bool:=
 some ((decide (a.Prog>=0))&&(!a.Started))
def Z9(a:k9)(c:k7):Option (k9 × Int):=
 (P3 a).bind λb=>
 if (decide (b>=a.Cap)) then
  some (a,4)
 else
 (K0 a.L 0 b).bind λv2=>
 (app 24 v2 [c]).bind λv3=>
 some ((⟨v3,a.Cap⟩:k9),0)
def rI(b:k9)(c:k7):Option (k9 × Int):=
 (Z9 b c).bind λa=>
 some (a.1,a.2)
def au(b:c7)(c:Int):Option c7:=
 (A9 b.S c).bind λa=>
 (y6 ((a.2 != 0)==false) false (T7 a.1)).bind λv2=>
 if ((a.2 != 0)||(!v2)) then
  some b
 else
 (X0 b.S c (⟨a.1.Serial,a.1.Strong,a.1.Weak,a.1.Prog,true,a.1.Fields⟩:p9)).bind λv3=>
 (rI b.Q (⟨1,c,a.1.Prog⟩:k7)).bind λe=>
 (cZ (⟨v3.1,b.Roots,b.b7,b.T,e.1⟩:c7) c).bind λf=>
 some f
def aU(q:c7)(p:List Int):Option (List Int):=
 jn (λ(j:List Int)=>
  some j) (λg=>
  (lp (E:=(List Int)) (λ((f,b,c):Int × (List (Int × Bool)) × (List Int))=>
   if (decide (f<(p.length:Int))) then
    jn (λ((k,m):(List Int) × (List (Int × Bool)))=>
     some (.inl (y4 (f+1),m,k))) (λa=>
     (ix p f).bind λe=>
     (A9 q.S e).bind λn=>
     if ((n.2==0)==true) then
      if (!((C4 b e).getD (false:Bool))) then
       (app 8 c [e]).bind λo=>
       a (o,(u6 b e true))
      else
      a (c,b)
     else
     a (c,b))
   else
   some (.inr c)) (0,[],[])).bind λi=>
  g i)
def gN(b:c7)(n:List Int):Option c7:=
 (iN b.b7 n).bind λg=>
 jn (λ(j:k9)=>
  some (⟨b.S,b.Roots,g.1,b.T,j⟩:c7)) (λf=>
  (lp (E:=k9) (λ((a,c):Int × k9)=>
   if (decide (a<(g.2.length:Int))) then
    (ix g.2 a).bind λe=>
    (ix g.1 e).bind λk=>
    (rI c (⟨2,e,k.Call⟩:k7)).bind λm=>
    some (.inl (y4 (a+1),m.1))
   else
   some (.inr c)) (0,b.Q)).bind λi=>
  f i)
def sJ(a:List Int):Option (List Int):=
 some a
def kN(k:List Int):Option (List Int):=
 jn (λ(g:List Int)=>
  some g) (λj=>
  (sJ k).bind λc=>
  (lp (E:=(List Int)) (λ((a,b):Int × (List Int))=>
   if (decide (a<(c.length:Int))) then
    (ix c a).bind λe=>
    if ((e != 0)==true) then
     (app 8 b [e]).bind λi=>
     some (.inl (y4 (a+1),i))
    else
    some (.inl (y4 (a+1),b))
   else
   some (.inr b)) (0,[])).bind λf=>
  j f)
def bR(r:List g8)(q:List Int):Option ((List g8) × (List Int)):=
 jn (λ((j,k):(List g8) × (List Int))=>
  some (j,k)) (λg=>
  (lp (E:=((List g8) × (List Int))) (λ((b,c,e):(List g8) × Int × (List Int))=>
   if (decide (c<(q.length:Int))) then
    jn (λ((m,n):(List g8) × (List Int))=>
     some (.inl (m,y4 (c+1),n))) (λa=>
     (ix q c).bind λo=>
     (bS b o).bind λf=>
     if (f.2.2==0) then
      (app 8 e [f.2.1]).bind λp=>
      a (f.1,p)
     else
     a (b,e))
   else
   some (.inr (b,e))) (r,0,[])).bind λi=>
  g i)
def aC(a:m8)(b:Int):Option (m8 × Int):=
 (K2 a b).bind λc=>
 if (c.2 != 0) then
  some (a,c.2)
 else
 (jh b).bind λv2=>
 (kX b).bind λv3=>
 (G9 a v2 (⟨2,v3,c.1⟩:g7)).bind λe=>
 some (e,0)
def bZ(a:c7)(c:Int):Option c7:=
 (A9 a.S c).bind λb=>
 (X0 a.S c (⟨b.1.Serial,0,b.1.Weak,b.1.Prog,b.1.Started,[]⟩:p9)).bind λv2=>
 (aC v2.1.S c).bind λv3=>
 if (b.1.Weak==0) then
  (V2 v3.1 c).bind λe=>
  some (⟨⟨e.1,v2.1.Serial⟩,a.Roots,a.b7,a.T,a.Q⟩:c7)
 else
 some (⟨⟨v3.1,v2.1.Serial⟩,a.Roots,a.b7,a.T,a.Q⟩:c7)
def dj(C:c7)(F:List Int):Option c7:=
 (aU C F).bind λe=>
 (gN C e).bind λv2=>
 jn (λ(s:List Int)=>
  (bR v2.T e).bind λj=>
  (app 8 s j.2).bind λk=>
  jn (λ(t:c7)=>
   jn (λ(u:c7)=>
    some u) (λo=>
    (lp (E:=c7) (λ((a,f):Int × c7)=>
     if (decide (a<(k.length:Int))) then
      (ix k a).bind λv=>
      (J3 f v).bind λw=>
      some (.inl (y4 (a+1),w))
     else
     some (.inr f)) (0,t)).bind λp=>
    o p)) (λn=>
   (lp (E:=c7) (λ((b,g):Int × c7)=>
    if (decide (b<(e.length:Int))) then
     (ix e b).bind λx=>
     (bZ g x).bind λy=>
     some (.inl (y4 (b+1),y))
    else
    some (.inr g)) (0,(⟨v2.S,v2.Roots,v2.b7,j.1,v2.Q⟩:c7))).bind λq=>
   n q)) (λm=>
  (lp (E:=(List Int)) (λ((c,i):Int × (List Int))=>
   if (decide (c<(e.length:Int))) then
    (ix e c).bind λz=>
    (A9 v2.S z).bind λh=>
    (kN h.1.Fields).bind λA=>
    (app 8 i A).bind λB=>
    some (.inl (y4 (c+1),B))
   else
   some (.inr i)) (0,[])).bind λr=>
  m r)
def W5(e:c7):Option c7:=
 (lp (E:=c7) (λ(s2:c7)=>
  (fK s2).bind λb=>
  if ((b.length:Int)==0) then
   some (.inr s2)
  else
  (ix b 0).bind λc=>
  (A9 s2.S c).bind λg=>
  (T7 g.1).bind λi=>
  if i then
   (au s2 c).bind λj=>
   some (.inl j)
  else
  (cut b 0 1).bind λk=>
  (dj s2 k).bind λa=>
  some (.inl a)) e).bind λf=>
 some f
def gr(a:c7)(b:Int):Option Int:=
 (A9 a.S b).bind λc=>
 some c.1.Serial
def fw(a:c7)(b:Int):Option Int:=
 (T0 a b).bind λc=>
 (gr a c).bind λv2=>
 some v2
def aL(c:c7)(e:c7)(a:k8):Option Int:=
 if (a.Kind==5) then
  (fw c a.C).bind λg=>
  some g
 else
 jn (λ(f:Bool)=>
  if f then
   (fw c a.B).bind λi=>
   some i
  else
  if (a.Kind==10) then
   (T0 c a.A).bind λj=>
   (T0 c a.B).bind λk=>
   if (j==k) then
    some 1
   else
   some 0
  else
  (fw e a.A).bind λm=>
  some m) (λb=>
  if (a.Kind==6) then
   b (a.Kind==6)
  else
  b (a.Kind==8))
def z7(b:c7)(a:k8):Option (c7 × Int × Int):=
 (al a).bind λc=>
 if (c != 0) then
  some (b,0,c)
 else
 (iW).bind λv2=>
 if (!((C4 v2 a.Kind).isSome)) then
  some (b,0,14)
 else
 (AG ((C4 v2 a.Kind).getD (none:Fv)) (⟨b,a⟩:x6)).bind λv3=>
 if (v3.2 != 0) then
  some (b,0,v3.2)
 else
 (W5 v3.1).bind λe=>
 (aL v3.1 e a).bind λf=>
 some (e,f,0)
def uA(a:b6):Option b6:=
 some a
def CE(a:b6)(b:Int):Option (List Int):=
 (A9 a b).bind λc=>
 (kN c.1.Fields).bind λv2=>
 some v2
def Nu(u:b6)(v:Int):Option Int:=
 jn (λ(p:Int)=>
  some p) (λk=>
  (uA u).bind λg=>
  (K4 g).bind λi=>
  (lp (E:=Int) (λ((b,f):Int × Int)=>
   if (decide (b<(i.length:Int))) then
    jn (λ(q:Int)=>
     some (.inl (y4 (b+1),q))) (λm=>
     (ix i b).bind λs=>
     (CE g s).bind λj=>
     (lp (E:=Int) (λ((c,e):Int × Int)=>
      if (decide (c<(j.length:Int))) then
       (ix j c).bind λt=>
       jn (λ(r:Int)=>
        some (.inl (y4 (c+1),r))) (λa=>
        if (t==v) then
         a (y4 (e+1))
        else
        a e)
      else
      some (.inr e)) (0,f)).bind λo=>
     m o)
   else
   some (.inr f)) (0,0)).bind λn=>
  k n)
def lZ(a:List g8):Option (List g8):=
 some a
def xy(m:List g8):Option (List Int):=
 jn (λ(i:List Int)=>
  some i) (λf=>
  (lp (E:=(List Int)) (λ((b,c):Int × (List Int))=>
   if (decide (b<(m.length:Int))) then
    jn (λ(j:List Int)=>
     some (.inl (y4 (b+1),j))) (λa=>
     (ix m b).bind λe=>
     if (e.State==1) then
      (app 8 c [e.Key]).bind λk=>
      a k
     else
     a c)
   else
   some (.inr c)) (0,[])).bind λg=>
  f g)
def mL(b:l5)(a:Int):Option Bool:=
 some ((a != 0)&&(b.Val==a))
def I1(p:List g8)(q:Int):Option (List l5):=
 jn (λ(k:List l5)=>
  some k) (λi=>
  (xy p).bind λf=>
  (lp (E:=(List l5)) (λ((b,c):Int × (List l5))=>
   if (decide (b<(f.length:Int))) then
    (ix f b).bind λe=>
    (bI p e).bind λg=>
    jn (λ(m:List l5)=>
     some (.inl (y4 (b+1),m))) (λa=>
     (mL (⟨e,g.1⟩:l5) q).bind λn=>
     if n then
      (app 16 c [(⟨e,g.1⟩:l5)]).bind λo=>
      a o
     else
     a c)
   else
   some (.inr c)) (0,[])).bind λj=>
  i j)
def yt(a:List g8)(b:Int):Option Int:=
 (lZ a).bind λc=>
 (I1 c b).bind λv2=>
 some (v2.length:Int)
def yM(b:b6)(c:List g8)(a:Int):Option Int:=
 (Nu b a).bind λe=>
 (yt c a).bind λv2=>
 some (y4 (e+v2))
def Dc(a:b6)(e:List g8)(b:Int):Option Int:=
 (A9 a b).bind λc=>
 if (c.2 != 0) then
  some 0
 else
 (yM a e b).bind λv2=>
 some (y4 (c.1.Strong-v2))
def ym(a:Int):Option Bool:=
 (O3 a).bind λb=>
 some b
def wN(b:Int)(c:p9)(e:b6)(f:List g8):Option Bool:=
 (Dc e f b).bind λa=>
 (y6 ((decide (a > 0))==false) false (ym c.Strong)).bind λv2=>
 some ((decide (a > 0))||v2)
def Da(j:b6)(s:List g8):Option (List Int):=
 jn (λ(m:List Int)=>
  some m) (λg=>
  jn (λ(n:List Int)=>
   g n) (λi=>
   (K4 j).bind λf=>
   (lp (E:=(List Int)) (λ((b,c):Int × (List Int))=>
    if (decide (b<(f.length:Int))) then
     jn (λ(o:List Int)=>
      some (.inl (y4 (b+1),o))) (λa=>
      (ix f b).bind λe=>
      (A9 j e).bind λp=>
      (wN e p.1 j s).bind λq=>
      if q then
       (app 8 c [e]).bind λr=>
       a r
      else
      a c)
    else
    some (.inr c)) (0,[])).bind λk=>
   i k))
def pn(a:b6)(b:Int):Option Bool:=
 (A9 a b).bind λc=>
 some (c.2==0)
def po(C:b6)(S:List Int):Option (List (Int × Bool)):=
 (K4 C).bind λT=>
 (eP (T.length:Int)).bind λv2=>
 jn (λ((H,K):g9 × (List (Int × Bool)))=>
  jn (λ(N:List (Int × Bool))=>
   some N) (λA=>
   (lp (E:=(List (Int × Bool))) (λ((s,t):g9 × (List (Int × Bool)))=>
    (N9 s).bind λR=>
    if (decide (R > 0)) then
     (bW s).bind λy=>
     (CE C y.2.1).bind λz=>
     jn (λ((P,Q):g9 × (List (Int × Bool)))=>
      some (.inl (P,Q))) (λB=>
      (lp (E:=(g9 × (List (Int × Bool)))) (λ((m,k,a):Int × g9 × (List (Int × Bool)))=>
       if (decide (m<(z.length:Int))) then
        jn (λ((o,p):g9 × (List (Int × Bool)))=>
         some (.inl (y4 (m+1),o,p))) (λc=>
         (ix z m).bind λg=>
         (pn C g).bind λu=>
         if (u==true) then
          if (!((C4 a g).getD (false:Bool))) then
           (H0 k g).bind λv=>
           c (v.1,(u6 a g true))
          else
          c (k,a)
         else
         c (k,a))
       else
       some (.inr (k,a))) (0,y.1,t)).bind λG=>
      B G)
    else
    some (.inr t)) (H,K)).bind λF=>
   A F)) (λh=>
  (lp (E:=(g9 × (List (Int × Bool)))) (λ((j,f,b):Int × g9 × (List (Int × Bool)))=>
   if (decide (j<(S.length:Int))) then
    jn (λ((q,r):g9 × (List (Int × Bool)))=>
     some (.inl (y4 (j+1),q,r))) (λe=>
     (ix S j).bind λi=>
     (pn C i).bind λw=>
     if (w==true) then
      if (!((C4 b i).getD (false:Bool))) then
       (H0 f i).bind λx=>
       e (x.1,(u6 b i true))
      else
      e (f,b)
     else
     e (f,b))
   else
   some (.inr (f,b))) (0,v2,[])).bind λn=>
  h n)
def pj(a:Int)(b:List (Int × Bool)):Option Bool:=
 some ((C4 b a).getD (false:Bool))
def eU(o:b6)(p:List (Int × Bool)):Option (List Int):=
 jn (λ(j:List Int)=>
  some j) (λg=>
  (K4 o).bind λe=>
  (lp (E:=(List Int)) (λ((b,c):Int × (List Int))=>
   if (decide (b<(e.length:Int))) then
    jn (λ(k:List Int)=>
     some (.inl (y4 (b+1),k))) (λa=>
     (ix e b).bind λf=>
     (pj f p).bind λm=>
     if m then
      (app 8 c [f]).bind λn=>
      a n
     else
     a c)
   else
   some (.inr c)) (0,[])).bind λi=>
  g i)
def uy(a:b6)(b:List Int):Option (List Int):=
 (po a b).bind λc=>
 (eU a c).bind λv2=>
 some v2
def mM(a:l5):Option Bool:=
 some true
def I2(p:List g8):Option (List l5):=
 jn (λ(k:List l5)=>
  some k) (λi=>
  (xy p).bind λf=>
  (lp (E:=(List l5)) (λ((b,c):Int × (List l5))=>
   if (decide (b<(f.length:Int))) then
    (ix f b).bind λe=>
    (bI p e).bind λg=>
    jn (λ(m:List l5)=>
     some (.inl (y4 (b+1),m))) (λa=>
     (mM (⟨e,g.1⟩:l5)).bind λn=>
     if n then
      (app 16 c [(⟨e,g.1⟩:l5)]).bind λo=>
      a o
     else
     a c)
   else
   some (.inr c)) (0,[])).bind λj=>
  i j)
def yu(a:List g8):Option (List l5):=
 (lZ a).bind λb=>
 (I2 b).bind λv2=>
 some v2
def tZ(a:Int)(b:b6):Option Bool:=
 (A9 b a).bind λc=>
 some (c.2==0)
def Ix(q:b6)(r:List g8)(s:List Int):Option (List Int):=
 jn (λ(m:List Int)=>
  some m) (λj=>
  (yu r).bind λg=>
  (lp (E:=(List Int)) (λ((c,e):Int × (List Int))=>
   if (decide (c<(g.length:Int))) then
    jn (λ(n:List Int)=>
     some (.inl (y4 (c+1),n))) (λb=>
     (ix g c).bind λa=>
     (H2 s a.Key).bind λf=>
     (y6 (f==true) false (tZ a.Key q)).bind λi=>
     (y6 ((f&&i)==true) false (tZ a.Val q)).bind λo=>
     if ((f&&i)&&o) then
      (app 8 e [a.Val]).bind λp=>
      b p
     else
     b e)
   else
   some (.inr e)) (0,[])).bind λk=>
  j k)
def Ep(e:b6)(o:List g8)(p:List Int):Option ((List Int) × Int):=
 (uy e p).bind λr=>
 (lp (E:=((List Int) × Int)) (λ((c,n):(List Int) × Int)=>
  (Ix e o c).bind λm=>
  jn (λ(_:Unit)=>
   some (.inr (c,n))) (λb=>
   (lp (E:=((List Int) × Int) ⊕ Unit) (λ(a:Int)=>
    if (decide (a<(m.length:Int))) then
     (ix m a).bind λg=>
     (H2 c g).bind λi=>
     if (!i) then
      (app 8 m c).bind λj=>
      (uy e j).bind λk=>
      some (.inr (.inl (k,y4 (n+1))))
     else
     some (.inl (y4 (a+1)))
    else
    some (.inr (.inr ()))) 0).bind λf=>
   match f with
   | .inl w=>some (.inl w)
   | .inr w=>b w)) (r,0)).bind λq=>
 some q
def Iu(a:b6)(b:List g8)(c:List Int):Option (List Int):=
 (Ep a b c).bind λe=>
 some e.1
def pk(a:Int)(b:List (Int × Bool)):Option Bool:=
 some (!((C4 b a).getD (false:Bool)))
def eV(o:b6)(p:List (Int × Bool)):Option (List Int):=
 jn (λ(j:List Int)=>
  some j) (λg=>
  (K4 o).bind λe=>
  (lp (E:=(List Int)) (λ((b,c):Int × (List Int))=>
   if (decide (b<(e.length:Int))) then
    jn (λ(k:List Int)=>
     some (.inl (y4 (b+1),k))) (λa=>
     (ix e b).bind λf=>
     (pk f p).bind λm=>
     if m then
      (app 8 c [f]).bind λn=>
      a n
     else
     a c)
   else
   some (.inr c)) (0,[])).bind λi=>
  g i)
def CC(a:b6)(b:List Int):Option (List Int):=
 (po a b).bind λc=>
 (eV a c).bind λv2=>
 some v2
def BE(a:b6)(b:List g8)(c:List Int):Option (List Int):=
 (Iu a b c).bind λe=>
 (CC a e).bind λv2=>
 some v2
def mW(a:b6)(b:List g8):Option (List Int):=
 (Da a b).bind λc=>
 (BE a b c).bind λv2=>
 some v2
def jK(a:c7):Option (List Int):=
 (mW a.S a.T).bind λb=>
 some b
def pK(b:Int)(c:c7):Option Bool:=
 (A9 c.S b).bind λa=>
 some ((decide (a.1.Prog>=0))&&(!a.1.Started))
def Y3(n:List Int)(o:c7):Option (List Int):=
 jn (λ(i:List Int)=>
  some i) (λf=>
  (lp (E:=(List Int)) (λ((b,c):Int × (List Int))=>
   if (decide (b<(n.length:Int))) then
    jn (λ(j:List Int)=>
     some (.inl (y4 (b+1),j))) (λa=>
     (ix n b).bind λe=>
     (pK e o).bind λk=>
     if k then
      (app 8 c [e]).bind λm=>
      a m
     else
     a c)
   else
   some (.inr c)) (0,[])).bind λg=>
  f g)
def th(a:c7):Option (List Int):=
 (jK a).bind λb=>
 (Y3 b a).bind λv2=>
 some v2
def pL(q:c7):Option (c7 × Int × Int):=
 (th q).bind λf=>
 jn (λ(a:c7)=>
  if (decide ((f.length:Int) > 0)) then
   some (a,(f.length:Int),0)
  else
  (jK a).bind λi=>
  (dj a i).bind λj=>
  (W5 j).bind λe=>
  (K4 a.S).bind λk=>
  (K4 e.S).bind λm=>
  some (e,0,y4 ((k.length:Int)-(m.length:Int)))) (λp=>
  (lp (E:=c7) (λ((b,c):Int × c7)=>
   if (decide (b<(f.length:Int))) then
    (ix f b).bind λn=>
    (au c n).bind λo=>
    some (.inl (y4 (b+1),o))
   else
   some (.inr c)) (0,q)).bind λg=>
  p g)
def qB(a:c7):Option Bool:=
 (fN a.Q).bind λb=>
 some (b.2.2 != 0)
def yy(o:c7)(n:List k8):Option (c7 × (List Int)):=
 jn (λ((i,j):c7 × (List Int))=>
  some (i,j)) (λf=>
  (lp (E:=(c7 × (List Int))) (λ((a,b,c):Int × c7 × (List Int))=>
   if (decide (a<(n.length:Int))) then
    (ix n a).bind λk=>
    (z7 b k).bind λe=>
    (app 8 c [e.2.1]).bind λm=>
    some (.inl (y4 (a+1),e.1,m))
   else
   some (.inr (b,c))) (0,o,[])).bind λg=>
  f g)
def Bw(b:c7)(k:List (List k8)):Option (c7 × k7 × Int):=
 (fN b.Q).bind λa=>
 if (a.2.2 != 0) then
  some (b,(⟨0,0,0⟩:k7),a.2.2)
 else
 jn (λ(m:c7)=>
  (iw k a.2.1.Prog).bind λn=>
  (yy m n).bind λj=>
  if (a.2.1.Kind==1) then
   (kH j.1 5 0).bind λo=>
   (W5 o.1).bind λe=>
   some (e,a.2.1,0)
  else
  some (j.1,a.2.1,0)) (λc=>
  if (a.2.1.Kind==1) then
   (kH (⟨b.S,b.Roots,b.b7,b.T,a.1⟩:c7) 5 a.2.1.At).bind λf=>
   (J3 f.1 a.2.1.At).bind λg=>
   (W5 g).bind λi=>
   c i
  else
  c (⟨b.S,b.Roots,b.b7,b.T,a.1⟩:c7))
def yr(s:c7)(t:List (List k8))(u:Int):Option (c7 × Int × Int × Int):=
 jn (λ((g,i,a):Int × Int × c7)=>
  (qB a).bind λp=>
  if (!p) then
   some (a,g,i,12)
  else
  some (a,g,i,0)) (λn=>
  (lp (E:=(Int × Int × c7)) (λ((b,c,e,j,k):Int × c7 × Int × Int × c7)=>
   (qB c).bind λq=>
   if (!q) then
    (fN c.Q).bind λr=>
    (fm t r.2.1).bind λf=>
    if (decide (f > b)) then
     some (.inr (e,j,k))
    else
    (Bw c t).bind λm=>
    some (.inl (y4 (b-f),m.1,y4 (e+1),y4 (b-f),m.1))
   else
   some (.inr (e,j,k))) (u,s,0,u,s)).bind λo=>
  n o)
def El(a:y5)(f:List Int):Option (y5 × l6):=
 (Z2 f).bind λb=>
 if (b.2 != 0) then
  some (a,(⟨0,b.2⟩:l6))
 else
 (vg b.1).bind λv2=>
 if (decide (v2.t=183)) then
  (z7 a.X (⟨(JX v2 183 0),(JX v2 183 1),(JX v2 183 2),(JX v2 183 3)⟩:k8)).bind λv3=>
  some ((⟨v3.1,a.Progs⟩:y5),(⟨v3.2.1,v3.2.2⟩:l6))
 else
 if (decide (v2.t=187)) then
  (pL a.X).bind λc=>
  some ((⟨c.1,a.Progs⟩:y5),(⟨y4 (c.2.2-c.2.1),0⟩:l6))
 else
 if (decide (v2.t=191)) then
  (yr a.X a.Progs (JX v2 191 0)).bind λe=>
  some ((⟨e.1,a.Progs⟩:y5),(⟨e.2.1,e.2.2.2⟩:l6))
 else
 some (a,(⟨0,0⟩:l6))
def Bz(o:y5)(n:List (List Int)):Option (y5 × (List l6)):=
 jn (λ((i,j):y5 × (List l6))=>
  some (i,j)) (λf=>
  (lp (E:=(y5 × (List l6))) (λ((a,b,c):Int × y5 × (List l6))=>
   if (decide (a<(n.length:Int))) then
    (ix n a).bind λk=>
    (El b k).bind λe=>
    (app 16 c [e.2]).bind λm=>
    some (.inl (y4 (a+1),e.1,m))
   else
   some (.inr (b,c))) (0,o,[])).bind λg=>
  f g)
def rL(i:List l6):Option (List w8):=
 jn (λ(j:List w8)=>
  some j) (λg=>
  (lp (E:=(List w8)) (λ((a,b):Int × (List w8))=>
   if (decide (a<(i.length:Int))) then
    (ix i a).bind λc=>
    (app 16 b [(⟨c.V,c.E⟩:w8)]).bind λf=>
    some (.inl (y4 (a+1),f))
   else
   some (.inr b)) (0,[])).bind λe=>
  g e)
def yC(e:List w8)(g:List w8):Option Bool:=
 if ((e.length:Int) != (g.length:Int)) then
  some false
 else
 jn (λ(_:Unit)=>
  some true) (λf=>
  (lp (E:=Bool ⊕ Unit) (λ(c:Int)=>
   if (decide (c<(e.length:Int))) then
    (ix e c).bind λa=>
    (ix g c).bind λb=>
    if (!((a.V==b.V)&&((a.E==b.E)&&true))) then
     some (.inr (.inl false))
    else
    some (.inl (y4 (c+1)))
   else
   some (.inr (.inr ()))) 0).bind λi=>
  match i with
  | .inl w=>some w
  | .inr w=>f w)
def kO:Option Bool:=
 (dA 3 5 8 [[(⟨2,2,5,0⟩:k8)]]).bind λa=>
 (bo 3 5 8 [[(⟨2,2,5,0⟩:k8)]]).bind λv2=>
 (EO a.1 [[1,0,1,0],[5,0,0,0],[3,0,0,0],[11,0,0,0],[12,9,0,0],[3,2,0,0],[11,0,0,0],[2,9,0,0]]).bind λv3=>
 (Bz v2.1 [[1,0,1,0],[5,0,0,0],[3,0,0,0],[11,0,0,0],[12,9,0,0],[3,2,0,0],[11,0,0,0],[2,9,0,0]]).bind λk=>
 (y6 (((((a.2==0)&&(v2.2==0))&&(decide ((v3.1.Gens.length:Int) > 0)))&&((v3.2.length:Int)==8))==true) [] (rL v3.2)).bind λm=>
 (y6 (((((a.2==0)&&(v2.2==0))&&(decide ((v3.1.Gens.length:Int) > 0)))&&((v3.2.length:Int)==8))==true) [] (rL k.2)).bind λn=>
 (y6 (((((a.2==0)&&(v2.2==0))&&(decide ((v3.1.Gens.length:Int) > 0)))&&((v3.2.length:Int)==8))==true) false (yC m n)).bind λe=>
 (y6 ((((((a.2==0)&&(v2.2==0))&&(decide ((v3.1.Gens.length:Int) > 0)))&&((v3.2.length:Int)==8))&&e)==true) (⟨0,0⟩:l6) (ix v3.2 3)).bind λf=>
 (y6 (((((((a.2==0)&&(v2.2==0))&&(decide ((v3.1.Gens.length:Int) > 0)))&&((v3.2.length:Int)==8))&&e)&&(f.V==(-1)))==true) (⟨0,0⟩:l6) (ix v3.2 4)).bind λi=>
 (y6 ((((((((a.2==0)&&(v2.2==0))&&(decide ((v3.1.Gens.length:Int) > 0)))&&((v3.2.length:Int)==8))&&e)&&(f.V==(-1)))&&(i.V==1))==true) (⟨0,0⟩:l6) (ix v3.2 6)).bind λb=>
 (y6 (((((((((a.2==0)&&(v2.2==0))&&(decide ((v3.1.Gens.length:Int) > 0)))&&((v3.2.length:Int)==8))&&e)&&(f.V==(-1)))&&(i.V==1))&&(b.V==1))==true) (⟨0,0⟩:l6) (ix v3.2 7)).bind λc=>
 (y6 ((((((((((a.2==0)&&(v2.2==0))&&(decide ((v3.1.Gens.length:Int) > 0)))&&((v3.2.length:Int)==8))&&e)&&(f.V==(-1)))&&(i.V==1))&&(b.V==1))&&(c.E==6))==true) [] (ba v3.1)).bind λg=>
 (y6 (((((((((((a.2==0)&&(v2.2==0))&&(decide ((v3.1.Gens.length:Int) > 0)))&&((v3.2.length:Int)==8))&&e)&&(f.V==(-1)))&&(i.V==1))&&(b.V==1))&&(c.E==6))&&((g.length:Int)==0))==true) (0:Int) (ix v3.1.Gens 0)).bind λj=>
 some (((((((((((a.2==0)&&(v2.2==0))&&(decide ((v3.1.Gens.length:Int) > 0)))&&((v3.2.length:Int)==8))&&e)&&(f.V==(-1)))&&(i.V==1))&&(b.V==1))&&(c.E==6))&&((g.length:Int)==0))&&(j==1))
def oa(t:List (List k8)):Option (List (List s6)):=
 jn (λ(o:List (List s6))=>
  some o) (λi=>
  (lp (E:=(List (List s6))) (λ((b,e):Int × (List (List s6)))=>
   if (decide (b<(t.length:Int))) then
    jn (λ(p:List (List s6))=>
     some (.inl (y4 (b+1),p))) (λj=>
     jn (λ(q:List s6)=>
      (app 24 e [q]).bind λr=>
      j r) (λk=>
      (lp (E:=(List s6)) (λ((c,f):Int × (List s6))=>
       (ix t b).bind λg=>
       if (decide (c<(g.length:Int))) then
        (ix g c).bind λa=>
        (app 32 f [(⟨a.Kind,a.A,a.B,a.C⟩:s6)]).bind λs=>
        some (.inl (y4 (c+1),s))
       else
       some (.inr f)) (0,[])).bind λn=>
      k n))
   else
   some (.inr e)) (0,[])).bind λm=>
  i m)
def kL(a:s6):Option Bool:=
 some ((decide (a.Kind>=1))&&(decide (a.Kind<=10)))
def dW(a:Int)(b:Int)(c:Int)(e:Int):Option Int:=
 if ((decide (a<b))||(decide (a > c))) then
  some e
 else
 some 0
def bX(a:Int)(b:Int)(c:Int):Option Int:=
 if (a != 0) then
  some a
 else
 if (b != 0) then
  some b
 else
 some c
def fI(a:s6):Option Int:=
 (dW a.A 0 5 6).bind λb=>
 (dW a.B 0 5 6).bind λv2=>
 if (a.Kind==1) then
  (dW a.B 0 4 1).bind λv3=>
  (dW a.C (-1) 5 13).bind λu=>
  (bX b v3 u).bind λv=>
  some v
 else
 jn (λ(t:Bool)=>
  if t then
   (bX b v2 0).bind λw=>
   some w
  else
  if (a.Kind==3) then
   some b
  else
  if (a.Kind==4) then
   (dW a.C 0 3 5).bind λx=>
   (bX b v2 x).bind λe=>
   some e
  else
  if (a.Kind==5) then
   (dW a.B 0 3 5).bind λf=>
   (dW a.C (-1) 5 6).bind λg=>
   (bX b f g).bind λi=>
   some i
  else
  if (a.Kind==6) then
   (dW a.A 0 5 7).bind λj=>
   (dW a.B (-1) 5 6).bind λk=>
   (dW a.C (-1) 5 13).bind λm=>
   (bX j k m).bind λn=>
   some n
  else
  if (a.Kind==7) then
   (dW a.B 0 5 7).bind λo=>
   (bX b o 0).bind λp=>
   some p
  else
  if (a.Kind==8) then
   (dW a.B (-1) 5 6).bind λq=>
   (bX b q 0).bind λr=>
   some r
  else
  if (a.Kind==11) then
   some 0
  else
  if (a.Kind==12) then
   (dW a.A 0 200 12).bind λs=>
   some s
  else
  some 14) (λc=>
  if (a.Kind==2) then
   c (a.Kind==2)
  else
  if (a.Kind==9) then
   c (a.Kind==9)
  else
  c (a.Kind==10))
def nI(j:List (List s6)):Option Bool:=
 if (decide ((j.length:Int) > 6)) then
  some false
 else
 jn (λ(_:Unit)=>
  some true) (λg=>
  (lp (E:=Bool ⊕ Unit) (λ(a:Int)=>
   if (decide (a<(j.length:Int))) then
    jn (λ(_:Unit)=>
     some (.inl (y4 (a+1)))) (λi=>
     (ix j a).bind λc=>
     if (decide ((c.length:Int) > 6)) then
      some (.inr (.inl false))
     else
     (lp (E:=Bool ⊕ Unit) (λ(b:Int)=>
      if (decide (b<(c.length:Int))) then
       (ix c b).bind λe=>
       (kL e).bind λf=>
       (y6 ((!f)==false) 0 (fI e)).bind λn=>
       if ((!f)||(n != 0)) then
        some (.inr (.inl false))
       else
       some (.inl (y4 (b+1)))
      else
      some (.inr (.inr ()))) 0).bind λm=>
     match m with
     | .inl w=>some (.inr (.inl w))
     | .inr w=>i w)
   else
   some (.inr (.inr ()))) 0).bind λk=>
  match k with
  | .inl w=>some w
  | .inr w=>g w)
def GQ(a:Int)(b:Int):Option jv:=
 if ((((decide (a<0))||(decide (a > 24)))||(decide (b<0)))||(decide (b > 9))) then
  some (⟨[],0⟩:jv)
 else
 (mk 24 a (⟨0,0,0⟩:eQ)).bind λc=>
 some (⟨c,b⟩:jv)
def AM(b:Int)(c:Int):Option aQ:=
 (GQ b c).bind λa=>
 (mk 80 (a.b7.length:Int) (⟨0,0,⟨0,0,0,0,false,[]⟩⟩:M7)).bind λv2=>
 some (⟨v2,a.Last,0⟩:aQ)
def GS(f:Int):Option (List n7):=
 jn (λ(i:List n7)=>
  some i) (λe=>
  (lp (E:=(List n7)) (λ((a,b):Int × (List n7))=>
   if ((decide (a<f))&&(decide (f<=6))) then
    (app 24 b [(⟨0,false,(-1)⟩:n7)]).bind λc=>
    some (.inl (y4 (a+1),c))
   else
   some (.inr b)) (0,[])).bind λg=>
  e g)
def GU(a:Int):Option (List C7):=
 if ((decide (a<1))||(decide (a > 8))) then
  some []
 else
 (mk 24 a (⟨0,0,0⟩:C7)).bind λb=>
 some b
def GV:Option F6:=
 some (⟨[],30⟩:F6)
def sp(a:Int)(b:Int)(c:Int):Option df:=
 if ((((((decide (a<1))||(decide (a > 24)))||(decide (b<0)))||(decide (b > 9)))||(decide (c<1)))||(decide (c > 8))) then
  some (⟨⟨[],0,0⟩,[],[],[],⟨[],0⟩⟩:df)
 else
 (AM a b).bind λe=>
 (mk 8 6 (0:Int)).bind λv2=>
 (GS 6).bind λv3=>
 (GU c).bind λf=>
 (GV).bind λg=>
 some (⟨e,v2,v3,f,g⟩:df)
def wq(b:Int)(c:Int)(e:Int)(a:List (List s6)):Option (bA × Int):=
 (nI a).bind λf=>
 if (!f) then
  some ((⟨⟨⟨[],0,0⟩,[],[],[],⟨[],0⟩⟩,[]⟩:bA),13)
 else
 (sp b c e).bind λv2=>
 if ((v2.Roots.length:Int)==0) then
  some ((⟨⟨⟨[],0,0⟩,[],[],[],⟨[],0⟩⟩,[]⟩:bA),1)
 else
 some ((⟨v2,a⟩:bA),0)
def sq(a:Int)(b:Int)(c:Int)(e:List (List s6)):Option (e6 × Int):=
 (wq a b c e).bind λf=>
 if (f.2 != 0) then
  some ((⟨[],[],[],0,0,0,[],[],[],[],[]⟩:e6),f.2)
 else
 (mk 8 a (0:Int)).bind λv2=>
 (mk 8 6 (0:Int)).bind λv3=>
 (GS 6).bind λg=>
 some ((⟨[],v2,v2,b,c,0,v3,g,[],[],e⟩:e6),0)
def oc(a:a8):Option Bool:=
 jn (λ(_:Unit)=>
  (y6 ((((((((decide ((a.Nodes.length:Int)<=50))&&(decide ((a.Pairs.length:Int)<=20)))&&(decide ((a.Tasks.length:Int)<=100)))&&(decide ((a.b7.length:Int)<=20)))&&(decide ((a.Roots.length:Int)<=20)))&&(decide ((a.Slots.length:Int)<=30)))&&(decide ((a.Gens.length:Int)<=30)))==true) false (jF a.Progs)).bind λg=>
  some ((((((((decide ((a.Nodes.length:Int)<=50))&&(decide ((a.Pairs.length:Int)<=20)))&&(decide ((a.Tasks.length:Int)<=100)))&&(decide ((a.b7.length:Int)<=20)))&&(decide ((a.Roots.length:Int)<=20)))&&(decide ((a.Slots.length:Int)<=30)))&&(decide ((a.Gens.length:Int)<=30)))&&g)) (λe=>
  (lp (E:=Bool ⊕ Unit) (λ(b:Int)=>
   if ((decide (b<(a.Nodes.length:Int)))&&(decide (b<60))) then
    (ix a.Nodes b).bind λc=>
    if (decide ((c.Fields.length:Int) > 10)) then
     some (.inr (.inl false))
    else
    some (.inl (y4 (b+1)))
   else
   some (.inr (.inr ()))) 0).bind λf=>
  match f with
  | .inl w=>some w
  | .inr w=>e w)
def sM(e:k9):Option F6:=
 jn (λ(j:List o7)=>
  some (⟨j,e.Cap⟩:F6)) (λi=>
  (lp (E:=(List o7)) (λ((a,c):Int × (List o7))=>
   if (decide (a<(e.L.length:Int))) then
    (ix e.L a).bind λb=>
    (app 24 c [(⟨b.Kind,b.At,b.Prog⟩:o7)]).bind λg=>
    some (.inl (y4 (a+1),g))
   else
   some (.inr c)) (0,[])).bind λf=>
  i f)
def sL(i:List l4):Option (List n7):=
 jn (λ(j:List n7)=>
  some j) (λg=>
  (lp (E:=(List n7)) (λ((a,c):Int × (List n7))=>
   if (decide (a<(i.length:Int))) then
    (ix i a).bind λb=>
    (app 24 c [(⟨b.Target,b.Intact,b.Call⟩:n7)]).bind λf=>
    some (.inl (y4 (a+1),f))
   else
   some (.inr c)) (0,[])).bind λe=>
  g e)
def nZ(b:a8):Option e6:=
 jn (λ(u:List o5)=>
  jn (λ(n:List r9)=>
   (sM (⟨b.Tasks,0⟩:k9)).bind λo=>
   (sL b.b7).bind λp=>
   (oa b.Progs).bind λq=>
   some (⟨u,b.Slots,b.Gens,b.Last,b.Places,b.Serial,b.Roots,p,n,o.L,q⟩:e6)) (λj=>
   (lp (E:=(List r9)) (λ((c,f):Int × (List r9))=>
    if (decide (c<(b.Pairs.length:Int))) then
     (ix b.Pairs c).bind λi=>
     (app 16 f [(⟨i.Key,i.Val⟩:r9)]).bind λr=>
     some (.inl (y4 (c+1),r))
    else
    some (.inr f)) (0,[])).bind λk=>
   j k)) (λt=>
  (lp (E:=(List o5)) (λ((e,g):Int × (List o5))=>
   if (decide (e<(b.Nodes.length:Int))) then
    (ix b.Nodes e).bind λa=>
    (app 56 g [(⟨a.Serial,a.Slot,a.Prog,a.Started,a.Alive,a.Stuck,a.Fields⟩:o5)]).bind λs=>
    some (.inl (y4 (e+1),s))
   else
   some (.inr g)) (0,[])).bind λm=>
  t m)
def jt(b:List Int)(g:List Int):Option Bool:=
 if ((b.length:Int) != (g.length:Int)) then
  some false
 else
 jn (λ(_:Unit)=>
  some true) (λf=>
  (lp (E:=Bool ⊕ Unit) (λ(a:Int)=>
   if (decide (a<(b.length:Int))) then
    (ix b a).bind λc=>
    (ix g a).bind λe=>
    if (c != e) then
     some (.inr (.inl false))
    else
    some (.inl (y4 (a+1)))
   else
   some (.inr (.inr ()))) 0).bind λi=>
  match i with
  | .inl w=>some w
  | .inr w=>f w)
def su(e:List o5)(i:List o5):Option Bool:=
 if ((e.length:Int) != (i.length:Int)) then
  some false
 else
 jn (λ(_:Unit)=>
  some true) (λg=>
  (lp (E:=Bool ⊕ Unit) (λ(c:Int)=>
   if (decide (c<(e.length:Int))) then
    (ix e c).bind λa=>
    (ix i c).bind λb=>
    (y6 (((((((a.Serial != b.Serial)||(a.Slot != b.Slot))||(a.Prog != b.Prog))||(a.Started != b.Started))||(a.Alive != b.Alive))||(a.Stuck != b.Stuck))==false) false (jt a.Fields b.Fields)).bind λf=>
    if (((((((a.Serial != b.Serial)||(a.Slot != b.Slot))||(a.Prog != b.Prog))||(a.Started != b.Started))||(a.Alive != b.Alive))||(a.Stuck != b.Stuck))||(!f)) then
     some (.inr (.inl false))
    else
    some (.inl (y4 (c+1)))
   else
   some (.inr (.inr ()))) 0).bind λj=>
  match j with
  | .inl w=>some w
  | .inr w=>g w)
def wi(e:List n7)(g:List n7):Option Bool:=
 if ((e.length:Int) != (g.length:Int)) then
  some false
 else
 jn (λ(_:Unit)=>
  some true) (λf=>
  (lp (E:=Bool ⊕ Unit) (λ(c:Int)=>
   if (decide (c<(e.length:Int))) then
    (ix e c).bind λa=>
    (ix g c).bind λb=>
    if (!((a.Target==b.Target)&&((a.Intact==b.Intact)&&((a.Call==b.Call)&&true)))) then
     some (.inr (.inl false))
    else
    some (.inl (y4 (c+1)))
   else
   some (.inr (.inr ()))) 0).bind λi=>
  match i with
  | .inl w=>some w
  | .inr w=>f w)
def wm(e:List r9)(g:List r9):Option Bool:=
 if ((e.length:Int) != (g.length:Int)) then
  some false
 else
 jn (λ(_:Unit)=>
  some true) (λf=>
  (lp (E:=Bool ⊕ Unit) (λ(c:Int)=>
   if (decide (c<(e.length:Int))) then
    (ix e c).bind λa=>
    (ix g c).bind λb=>
    if (!((a.Key==b.Key)&&((a.Val==b.Val)&&true))) then
     some (.inr (.inl false))
    else
    some (.inl (y4 (c+1)))
   else
   some (.inr (.inr ()))) 0).bind λi=>
  match i with
  | .inl w=>some w
  | .inr w=>f w)
def ra(c:F6)(f:F6):Option Bool:=
 if ((c.Cap != f.Cap)||((c.L.length:Int) != (f.L.length:Int))) then
  some false
 else
 jn (λ(_:Unit)=>
  some true) (λg=>
  (lp (E:=Bool ⊕ Unit) (λ(e:Int)=>
   if (decide (e<(c.L.length:Int))) then
    (ix c.L e).bind λa=>
    (ix f.L e).bind λb=>
    if (!((a.Kind==b.Kind)&&((a.At==b.At)&&((a.Prog==b.Prog)&&true)))) then
     some (.inr (.inl false))
    else
    some (.inl (y4 (e+1)))
   else
   some (.inr (.inr ()))) 0).bind λi=>
  match i with
  | .inl w=>some w
  | .inr w=>g w)
def nJ(a:e6)(b:e6):Option Bool:=
 (su a.Nodes b.Nodes).bind λe=>
 (y6 ((!e)==false) false (jt a.Slots b.Slots)).bind λv2=>
 (y6 (((!e)||(!v2))==false) false (jt a.Gens b.Gens)).bind λv3=>
 if ((((((!e)||(!v2))||(!v3))||(a.Last != b.Last))||(a.Places != b.Places))||(a.Serial != b.Serial)) then
  some false
 else
 (jt a.Roots b.Roots).bind λc=>
 (y6 (c==true) false (wi a.b7 b.b7)).bind λf=>
 (y6 ((c&&f)==true) false (wm a.Pairs b.Pairs)).bind λg=>
 (y6 (((c&&f)&&g)==true) false (ra (⟨a.Tasks,0⟩:F6) (⟨b.Tasks,0⟩:F6))).bind λi=>
 some (((c&&f)&&g)&&i)
def fA(a:List Int):Option (s6 × Int):=
 if ((a.length:Int) != 4) then
  some ((⟨0,0,0,0⟩:s6),14)
 else
 (ix a 0).bind λb=>
 (ix a 1).bind λv2=>
 (ix a 2).bind λv3=>
 (ix a 3).bind λc=>
 (fI (⟨b,v2,v3,c⟩:s6)).bind λe=>
 if (e != 0) then
  some ((⟨0,0,0,0⟩:s6),e)
 else
 some ((⟨b,v2,v3,c⟩:s6),0)
def M8(k:List Int)(m:Int):Option Int:=
 jn (λ(g:Int)=>
  some g) (λe=>
  (lp (E:=Int) (λ((b,c):Int × Int)=>
   if (decide (c<(k.length:Int))) then
    jn (λ(i:Int)=>
     some (.inl (i,y4 (c+1)))) (λa=>
     (ix k c).bind λj=>
     if ((j==m)&&(m != 0)) then
      a (y4 (b+1))
     else
     a b)
   else
   some (.inr b)) (0,0)).bind λf=>
  e f)
def iE(m:e6):Option (List Int):=
 jn (λ(i:List Int)=>
  some i) (λf=>
  (lp (E:=(List Int)) (λ((b,c):Int × (List Int))=>
   if (decide (b<(m.Nodes.length:Int))) then
    jn (λ(j:List Int)=>
     some (.inl (y4 (b+1),j))) (λa=>
     (ix m.Nodes b).bind λe=>
     if e.Alive then
      (app 8 c [e.Serial]).bind λk=>
      a k
     else
     a c)
   else
   some (.inr c)) (0,[])).bind λg=>
  f g)
def jz(y:e6):Option (List Int):=
 (app 8 [] y.Roots).bind λv1=>
 jn (λ(j14:List Int)=>
  jn (λ(j27:List Int)=>
   jn (λ(j212:List Int)=>
    (iE y).bind λA=>
    jn (λ(j228:List Int)=>
     some j228) (λK=>
     (lp (E:=(List Int)) (λ((e,f):Int × (List Int))=>
      if (decide (e<(A.length:Int))) then
       jn (λ(j238:List Int)=>
        some (.inl (y4 (e+1),j238))) (λs=>
        (ix A e).bind λB=>
        (M8 j212 B).bind λv240=>
        if (v240==0) then
         (app 8 f [B]).bind λv241=>
         s v241
        else
        s f)
      else
      some (.inr f)) (0,[])).bind λS=>
     K S)) (λH=>
    (lp (E:=(List Int)) (λ((h,a):Int × (List Int))=>
     if (decide (h<40)) then
      jn (λ(j336:List Int)=>
       some (.inl (y4 (h+1),j336))) (λN=>
       jn (λ(j351:List Int)=>
        jn (λ(z:List Int)=>
         jn (λ(j383:List Int)=>
          N j383) (λR=>
          (lp (E:=(List Int)) (λ((g,b):Int × (List Int))=>
           if (decide (g<(z.length:Int))) then
            jn (λ(j394:List Int)=>
             some (.inl (y4 (g+1),j394))) (λt=>
             (ix z g).bind λC=>
             (M8 b C).bind λv396=>
             if (v396==0) then
              (app 8 [] b).bind λv397=>
              (app 8 v397 [C]).bind λv398=>
              t v398
             else
             t b)
           else
           some (.inr b)) (0,a)).bind λV=>
          R V)) (λQ=>
         (lp (E:=(List Int)) (λ((i,j):Int × (List Int))=>
          if (decide (i<(y.Pairs.length:Int))) then
           jn (λ(j408:List Int)=>
            some (.inl (y4 (i+1),j408))) (λu=>
            (ix y.Pairs i).bind λF=>
            (M8 a F.Key).bind λv410=>
            if (decide (v410 > 0)) then
             (app 8 j [F.Val]).bind λv411=>
             u v411
            else
            u j)
          else
          some (.inr j)) (0,j351)).bind λe399=>
         Q e399)) (λP=>
        (lp (E:=(List Int)) (λ((k,m):Int × (List Int))=>
         if (decide (k<(y.Nodes.length:Int))) then
          jn (λ(j421:List Int)=>
           some (.inl (y4 (k+1),j421))) (λv=>
           (ix y.Nodes k).bind λc=>
           (y6 (c.Alive==true) 0 (M8 a c.Serial)).bind λv423=>
           if (c.Alive&&(decide (v423 > 0))) then
            (app 8 m c.Fields).bind λv424=>
            v v424
           else
           v m)
         else
         some (.inr m)) (0,[])).bind λe412=>
        P e412))
     else
     some (.inr a)) (0,j27)).bind λT=>
    H T)) (λκ26=>
   (lp (E:=(List Int)) (λ((n,o):Int × (List Int))=>
    if (decide (n<(y.Nodes.length:Int))) then
     jn (λ(j433:List Int)=>
      some (.inl (y4 (n+1),j433))) (λw=>
      (ix y.Nodes n).bind λr=>
      if (r.Alive&&r.Stuck) then
       (app 8 o [r.Serial]).bind λv435=>
       w v435
      else
      w o)
    else
    some (.inr o)) (0,j14)).bind λe425=>
   κ26 e425)) (λκ13=>
  (lp (E:=(List Int)) (λ((p,q):Int × (List Int))=>
   if (decide (p<(y.Tasks.length:Int))) then
    jn (λ(j444:List Int)=>
     some (.inl (y4 (p+1),j444))) (λx=>
     (ix y.Tasks p).bind λG=>
     if (G.Kind==1) then
      (app 8 q [G.At]).bind λv446=>
      x v446
     else
     x q)
   else
   some (.inr q)) (0,v1)).bind λe436=>
  κ13 e436)
def dX(e:e6)(f:Int):Option Int:=
 jn (λ(_:Unit)=>
  some (-1)) (λc=>
  (lp (E:=Int ⊕ Unit) (λ(a:Int)=>
   if (decide (a<(e.Nodes.length:Int))) then
    (ix e.Nodes a).bind λb=>
    if (b.Serial==f) then
     some (.inr (.inl a))
    else
    some (.inl (y4 (a+1)))
   else
   some (.inr (.inr ()))) 0).bind λg=>
  match g with
  | .inl w=>some w
  | .inr w=>c w)
def ss(a:o5):Option Bool:=
 some ((decide (a.Prog>=0))&&(!a.Started))
def aR(c:e6)(a:Int):Option Int:=
 (M8 c.Roots a).bind λG=>
 jn (λ(w:Int)=>
  jn (λ(x:Int)=>
   jn (λ(y:Int)=>
    some y) (λs=>
    (lp (E:=Int) (λ((i,b):Int × Int)=>
     if (decide (b<(c.Tasks.length:Int))) then
      jn (λ(z:Int)=>
       some (.inl (z,y4 (b+1)))) (λe=>
       (y6 ((a != 0)==true) (⟨0,0,0⟩:o7) (ix c.Tasks b)).bind λo=>
       (y6 (((a != 0)&&(o.Kind==1))==true) (⟨0,0,0⟩:o7) (ix c.Tasks b)).bind λB=>
       if (((a != 0)&&(o.Kind==1))&&(B.At==a)) then
        e (y4 (i+1))
       else
       e i)
     else
     some (.inr i)) (x,0)).bind λt=>
    s t)) (λr=>
   (lp (E:=Int) (λ((j,k):Int × Int)=>
    if (decide (k<(c.Pairs.length:Int))) then
     jn (λ(h:Int)=>
      some (.inl (h,y4 (k+1)))) (λf=>
      (y6 ((a != 0)==true) (⟨0,0⟩:r9) (ix c.Pairs k)).bind λC=>
      if ((a != 0)&&(C.Val==a)) then
       f (y4 (j+1))
      else
      f j)
    else
    some (.inr j)) (w,0)).bind λu=>
   r u)) (λq=>
  (lp (E:=Int) (λ((m,n):Int × Int)=>
   if (decide (n<(c.Nodes.length:Int))) then
    jn (λ(A:Int)=>
     some (.inl (A,y4 (n+1)))) (λg=>
     (ix c.Nodes n).bind λp=>
     if p.Alive then
      (M8 p.Fields a).bind λF=>
      g (y4 (m+F))
     else
     g m)
   else
   some (.inr m)) (G,0)).bind λv=>
  q v)
def bC(a:e6)(b:o5):Option e6:=
 (app 56 [] a.Nodes).bind λc=>
 (dX a b.Serial).bind λv2=>
 (ix c v2).bind λv3=>
 some (⟨(c.set (v2).toNat b),a.Slots,a.Gens,a.Last,a.Places,a.Serial,a.Roots,a.b7,a.Pairs,a.Tasks,a.Progs⟩:e6)
def jx(a:e6)(b:Int):Option e6:=
 (y6 ((b==0)==false) 0 (aR a b)).bind λc=>
 if ((b==0)||(decide (c<11))) then
  some a
 else
 (dX a b).bind λv2=>
 (ix a.Nodes v2).bind λv3=>
 (bC a (⟨v3.Serial,v3.Slot,v3.Prog,v3.Started,v3.Alive,true,v3.Fields⟩:o5)).bind λe=>
 some e
def jC(e:e6)(b:Int):Option e6:=
 (jx e b).bind λc=>
 (dX c b).bind λv2=>
 (ix c.Nodes v2).bind λv3=>
 (bC c (⟨v3.Serial,v3.Slot,v3.Prog,true,v3.Alive,v3.Stuck,v3.Fields⟩:o5)).bind λa=>
 (app 24 [] a.Tasks).bind λf=>
 (app 24 f [(⟨1,b,v3.Prog⟩:o7)]).bind λg=>
 some (⟨a.Nodes,a.Slots,a.Gens,a.Last,a.Places,a.Serial,a.Roots,a.b7,a.Pairs,g,a.Progs⟩:e6)
def sm(r:List n7)(s:List Int):Option ((List n7) × (List Int)):=
 jn (λ((j,k):(List Int) × (List n7))=>
  some (k,j)) (λg=>
  (lp (E:=((List Int) × (List n7))) (λ((c,f,e):Int × (List n7) × (List Int))=>
   if (decide (c<(r.length:Int))) then
    (ix r c).bind λa=>
    jn (λ((m,n):Bool × (List Int))=>
     (app 24 f [(⟨a.Target,m,a.Call⟩:n7)]).bind λo=>
     some (.inl (y4 (c+1),o,n))) (λb=>
     (y6 (a.Intact==true) 0 (M8 s a.Target)).bind λp=>
     if (a.Intact&&(decide (p > 0))) then
      if (decide (a.Call>=0)) then
       (app 8 e [c]).bind λq=>
       b (false,q)
      else
      b (false,e)
     else
     b (a.Intact,e))
   else
   some (.inr (e,f))) (0,[],[])).bind λi=>
  g i)
def lr(k:List n7)(m:Int):Option Int:=
 jn (λ(g:Int)=>
  some g) (λe=>
  (lp (E:=Int) (λ((b,c):Int × Int)=>
   if (decide (c<(k.length:Int))) then
    jn (λ(i:Int)=>
     some (.inl (i,y4 (c+1)))) (λa=>
     (ix k c).bind λj=>
     if ((j.Target==m)&&(m != 0)) then
      a (y4 (b+1))
     else
     a b)
   else
   some (.inr b)) (0,0)).bind λf=>
  e f)
def rb(a:e6)(q:Int):Option e6:=
 (dX a q).bind λc=>
 (y6 ((decide (c<0))==false) (⟨0,0,0,false,false,false,[]⟩:o5) (ix a.Nodes c)).bind λv2=>
 (y6 (((decide (c<0))||v2.Alive)==false) 0 (lr a.b7 q)).bind λv3=>
 if (((decide (c<0))||v2.Alive)||(decide (v3 > 0))) then
  some a
 else
 (ix a.Nodes c).bind λe=>
 (app 8 [] a.Slots).bind λg=>
 (app 8 [] a.Gens).bind λp=>
 jn (λ((i,j):(List Int) × (List Int))=>
  (cut a.Nodes 0 c).bind λk=>
  (app 56 [] k).bind λm=>
  (cut a.Nodes (y4 (c+1)) (a.Nodes.length:Int)).bind λn=>
  (app 56 m n).bind λo=>
  some (⟨o,j,i,a.Last,a.Places,a.Serial,a.Roots,a.b7,a.Pairs,a.Tasks,a.Progs⟩:e6)) (λb=>
  (ix p e.Slot).bind λf=>
  if (f==a.Last) then
   (ix g e.Slot).bind λr=>
   b (p,(g.set (e.Slot).toNat (-1)))
  else
  (ix g e.Slot).bind λs=>
  b ((p.set (e.Slot).toNat (y4 (f+1))),(g.set (e.Slot).toNat 0)))
def re(a:e6)(m:List Int):Option e6:=
 (sm a.b7 m).bind λv=>
 (app 24 [] a.Tasks).bind λv2=>
 jn (λ(h:List o7)=>
  jn (λ(A:List r9)=>
   jn (λ(B:e6)=>
    jn (λ(C:e6)=>
     some C) (λu=>
     (lp (E:=e6) (λ((f,n):Int × e6)=>
      if (decide (f<(m.length:Int))) then
       (ix m f).bind λG=>
       (rb n G).bind λH=>
       some (.inl (y4 (f+1),H))
      else
      some (.inr n)) (0,B)).bind λw=>
     u w)) (λt=>
    (lp (E:=e6) (λ((g,c):Int × e6)=>
     if (decide (g<(m.length:Int))) then
      (ix m g).bind λK=>
      (dX c K).bind λN=>
      (ix c.Nodes N).bind λb=>
      (bC c (⟨b.Serial,b.Slot,b.Prog,b.Started,false,b.Stuck,[]⟩:o5)).bind λP=>
      some (.inl (y4 (g+1),P))
     else
     some (.inr c)) (0,(⟨a.Nodes,a.Slots,a.Gens,a.Last,a.Places,a.Serial,a.Roots,v.1,A,h,a.Progs⟩:e6))).bind λx=>
    t x)) (λs=>
   (lp (E:=(List r9)) (λ((i,j):Int × (List r9))=>
    if (decide (i<(a.Pairs.length:Int))) then
     jn (λ(F:List r9)=>
      some (.inl (y4 (i+1),F))) (λe=>
      (ix a.Pairs i).bind λp=>
      (M8 m p.Key).bind λQ=>
      if (Q==0) then
       (app 16 j [p]).bind λR=>
       e R
      else
      e j)
    else
    some (.inr j)) (0,[])).bind λy=>
   s y)) (λr=>
  (lp (E:=(List o7)) (λ((k,o):Int × (List o7))=>
   if (decide (k<(v.2.length:Int))) then
    (ix v.2 k).bind λq=>
    (ix v.1 q).bind λS=>
    (app 24 o [(⟨2,q,S.Call⟩:o7)]).bind λT=>
    some (.inl (y4 (k+1),T))
   else
   some (.inr o)) (0,v2)).bind λz=>
  r z)
def T6(z:e6):Option e6:=
 jn (λ(y:e6)=>
  some y) (λv=>
  (lp (E:=e6 ⊕ e6) (λ((o,b):Int × e6)=>
   if (decide (o<100)) then
    jn (λ(m:e6)=>
     some (.inl (y4 (o+1),m))) (λf=>
     jn (λ(c:Int)=>
      if (c==0) then
       some (.inr (.inl b))
      else
      (dX b c).bind λp=>
      (ix b.Nodes p).bind λq=>
      (ss q).bind λr=>
      if r then
       (jC b c).bind λs=>
       f s
      else
      (re b [c]).bind λt=>
      f t) (λj=>
      (lp (E:=Int) (λ((i,e):Int × Int)=>
       if (decide (e>=0)) then
        jn (λ(n:Int)=>
         some (.inl (n,y4 (e-1)))) (λg=>
         (ix b.Nodes e).bind λa=>
         (y6 ((a.Alive&&(!a.Stuck))==true) 0 (aR b a.Serial)).bind λu=>
         if ((a.Alive&&(!a.Stuck))&&(u==0)) then
          g a.Serial
         else
         g i)
       else
       some (.inr i)) (0,y4 ((b.Nodes.length:Int)-1))).bind λk=>
      j k))
   else
   some (.inr (.inr b))) (0,z)).bind λx=>
  match x with
  | .inl w=>some w
  | .inr w=>v w)
def jy(f:e6):Option (e6 × Int):=
 (jz f).bind λq=>
 jn (λ((g,n):Int × e6)=>
  if (decide (g > 0)) then
   some (n,y4 (0-g))
  else
  (re f q).bind λr=>
  (T6 r).bind λi=>
  (iE f).bind λs=>
  (iE i).bind λt=>
  some (i,y4 ((s.length:Int)-(t.length:Int)))) (λk=>
  (lp (E:=(Int × e6)) (λ((b,c,e):Int × Int × e6)=>
   if (decide (c<(q.length:Int))) then
    jn (λ((o,p):Int × e6)=>
     some (.inl (o,y4 (c+1),p))) (λa=>
     (ix q c).bind λj=>
     (dX f j).bind λu=>
     (ix f.Nodes u).bind λv=>
     (ss v).bind λw=>
     if w then
      (jC e j).bind λx=>
      a (y4 (b+1),x)
     else
     a (b,e))
   else
   some (.inr (b,e))) (0,0,f)).bind λm=>
  k m)
def lu(b:List (List s6))(a:Int):Option (List s6):=
 if ((decide (a<0))||(decide (a>=(b.length:Int)))) then
  some []
 else
 (ix b a).bind λc=>
 some c
def jw(a:List (List s6))(b:o7):Option Int:=
 (lu a b.Prog).bind λc=>
 some (y4 (1+(c.length:Int)))
def eT(e:e6)(b:Int)(c:Int):Option e6:=
 (jx e c).bind λa=>
 (app 8 [] a.Roots).bind λv2=>
 (ix v2 b).bind λv3=>
 some (⟨a.Nodes,a.Slots,a.Gens,a.Last,a.Places,a.Serial,(v2.set (b).toNat c),a.b7,a.Pairs,a.Tasks,a.Progs⟩:e6)
def AL(a:Int):Option ((List Int) × Int):=
 if ((decide (a<0))||(decide (a > 4))) then
  some ([],1)
 else
 (mk 8 a (0:Int)).bind λb=>
 some (b,0)
def rh(a:e6)(f:s6):Option (e6 × Int × Int):=
 (AL f.B).bind λi=>
 if (i.2 != 0) then
  some (a,0,i.2)
 else
 jn (λ(_:Unit)=>
  some (a,0,4)) (λe=>
  (lp (E:=(e6 × Int × Int) ⊕ Unit) (λ(b:Int)=>
   if (decide (b<(a.Slots.length:Int))) then
    (ix a.Slots b).bind λj=>
    if (j != 0) then
     some (.inl (y4 (b+1)))
    else
    (app 8 [] a.Slots).bind λc=>
    (ix c b).bind λp=>
    (app 56 [] a.Nodes).bind λk=>
    (app 56 k [(⟨y4 (a.Serial+1),b,f.C,false,true,false,i.1⟩:o5)]).bind λm=>
    (eT (⟨m,(c.set (b).toNat (y4 (a.Serial+1))),a.Gens,a.Last,a.Places,y4 (a.Serial+1),a.Roots,a.b7,a.Pairs,a.Tasks,a.Progs⟩:e6) f.A (y4 (a.Serial+1))).bind λn=>
    (T6 n).bind λo=>
    some (.inr (.inl (o,y4 (a.Serial+1),0)))
   else
   some (.inr (.inr ()))) 0).bind λg=>
  match g with
  | .inl w=>some w
  | .inr w=>e w)
def jA(b:e6)(a:Int):Option Int:=
 if (decide (a<0)) then
  some 0
 else
 (ix b.Roots a).bind λc=>
 some c
def nH(e:F6)(f:Int):Option Bool:=
 jn (λ(_:Unit)=>
  some false) (λc=>
  (lp (E:=Bool ⊕ Unit) (λ(b:Int)=>
   if (decide (b<(e.L.length:Int))) then
    (ix e.L b).bind λa=>
    if ((a.Kind==2)&&(a.At==f)) then
     some (.inr (.inl true))
    else
    some (.inl (y4 (b+1)))
   else
   some (.inr (.inr ()))) 0).bind λg=>
  match g with
  | .inl w=>some w
  | .inr w=>c w)
def AN(b:List n7)(a:Int)(c:Int)(f:Int):Option ((List n7) × Int × Int):=
 if ((decide (a<0))||(decide (a>=(b.length:Int)))) then
  some (b,0,7)
 else
 (app 24 [] b).bind λe=>
 (ix e a).bind λv2=>
 (ix b a).bind λv3=>
 some ((e.set (a).toNat (⟨c,(c != 0),f⟩:n7)),v3.Target,0)
def ly(a:e6)(b:s6)(c:Int):Option (e6 × Int):=
 (nH (⟨a.Tasks,0⟩:F6) b.A).bind λe=>
 if e then
  some (a,7)
 else
 (AN a.b7 b.A c b.C).bind λv2=>
 (rb (⟨a.Nodes,a.Slots,a.Gens,a.Last,a.Places,a.Serial,a.Roots,v2.1,a.Pairs,a.Tasks,a.Progs⟩:e6) v2.2.1).bind λv3=>
 some (v3,0)
def mS(b:List Int)(a:Int):Option (Int × Int):=
 if ((decide (a<0))||(decide (a>=(b.length:Int)))) then
  some (0,5)
 else
 (ix b a).bind λc=>
 some (c,0)
def wh(b:List Int)(a:Int)(e:Int):Option ((List Int) × Int):=
 if ((decide (a<0))||(decide (a>=(b.length:Int)))) then
  some (b,5)
 else
 (app 8 [] b).bind λc=>
 (ix c a).bind λv2=>
 some ((c.set (a).toNat e),0)
def iG(b:e6)(e:Int)(f:Int)(g:Int):Option (e6 × Int):=
 (dX b e).bind λi=>
 (ix b.Nodes i).bind λv2=>
 (mS v2.Fields f).bind λv3=>
 if (v3.2 != 0) then
  some (b,v3.2)
 else
 (jx b g).bind λc=>
 (dX c e).bind λj=>
 (ix c.Nodes j).bind λa=>
 (wh a.Fields f g).bind λk=>
 (bC c (⟨a.Serial,a.Slot,a.Prog,a.Started,a.Alive,a.Stuck,k.1⟩:o5)).bind λm=>
 some (m,0)
def nM(e:e6)(f:Int):Option Int:=
 jn (λ(_:Unit)=>
  some (-1)) (λc=>
  (lp (E:=Int ⊕ Unit) (λ(a:Int)=>
   if (decide (a<(e.Pairs.length:Int))) then
    (ix e.Pairs a).bind λb=>
    if (b.Key==f) then
     some (.inr (.inl a))
    else
    some (.inl (y4 (a+1)))
   else
   some (.inr (.inr ()))) 0).bind λg=>
  match g with
  | .inl w=>some w
  | .inr w=>c w)
def lx(e:e6)(p:Int)(i:Int):Option (e6 × Int):=
 (nM e p).bind λq=>
 if (((decide (q<0))&&(i != 0))&&(decide ((e.Pairs.length:Int)>=e.Places))) then
  some (e,8)
 else
 (jx e i).bind λv2=>
 jn (λ(f:List r9)=>
  if (i != 0) then
   (app 16 f [(⟨p,i⟩:r9)]).bind λm=>
   some ((⟨v2.Nodes,v2.Slots,v2.Gens,v2.Last,v2.Places,v2.Serial,v2.Roots,v2.b7,m,v2.Tasks,v2.Progs⟩:e6),0)
  else
  some ((⟨v2.Nodes,v2.Slots,v2.Gens,v2.Last,v2.Places,v2.Serial,v2.Roots,v2.b7,f,v2.Tasks,v2.Progs⟩:e6),0)) (λg=>
  (lp (E:=(List r9)) (λ((a,c):Int × (List r9))=>
   if (decide (a<(v2.Pairs.length:Int))) then
    jn (λ(k:List r9)=>
     some (.inl (y4 (a+1),k))) (λb=>
     if (a != q) then
      (ix v2.Pairs a).bind λn=>
      (app 16 c [n]).bind λo=>
      b o
     else
     b c)
   else
   some (.inr c)) (0,[])).bind λj=>
  g j)
def fJ(a:e6)(b:s6):Option (e6 × Int × Int):=
 if (b.Kind==6) then
  (jA a b.B).bind λc=>
  if ((decide (b.B>=0))&&(c==0)) then
   some (a,0,2)
  else
  (ly a b c).bind λv2=>
  some (v2.1,c,v2.2)
 else
 (ix a.Roots b.A).bind λv3=>
 if (v3==0) then
  some (a,0,2)
 else
 if (b.Kind==5) then
  (jA a b.C).bind λe=>
  (iG a v3 b.B e).bind λf=>
  some (f.1,e,f.2)
 else
 (jA a b.B).bind λg=>
 (lx a v3 g).bind λi=>
 some (i.1,g,i.2)
def qY(c:List n7)(a:Int):Option (Int × Int):=
 if ((decide (a<0))||(decide (a>=(c.length:Int)))) then
  some (0,7)
 else
 (ix c a).bind λb=>
 if ((b.Target==0)||(!b.Intact)) then
  some (0,9)
 else
 some (b.Target,0)
def wv(b:e6)(a:s6):Option (Int × Int):=
 if (a.Kind==2) then
  (ix b.Roots a.B).bind λf=>
  some (f,0)
 else
 if (a.Kind==7) then
  (qY b.b7 a.B).bind λv2=>
  some (v2.1,v2.2)
 else
 if (a.Kind==3) then
  some (0,0)
 else
 (ix b.Roots a.B).bind λv3=>
 if (v3==0) then
  some (0,2)
 else
 if (a.Kind==4) then
  (dX b v3).bind λg=>
  (ix b.Nodes g).bind λi=>
  (mS i.Fields a.C).bind λc=>
  some (c.1,c.2)
 else
 (nM b v3).bind λe=>
 if (decide (e<0)) then
  some (0,9)
 else
 (ix b.Pairs e).bind λj=>
 some (j.Val,0)
def aS(b:e6)(a:s6):Option (e6 × Int × Int):=
 if (a.Kind==1) then
  (rh b a).bind λg=>
  some (g.1,g.2.1,g.2.2)
 else
 if (a.Kind==10) then
  (ix b.Roots a.A).bind λv2=>
  (ix b.Roots a.B).bind λv3=>
  if (v2==v3) then
   some (b,1,0)
  else
  some (b,0,0)
 else
 jn (λ(j:Bool)=>
  if j then
   (fJ b a).bind λe=>
   if (e.2.2 != 0) then
    some (b,0,e.2.2)
   else
   (T6 e.1).bind λk=>
   some (k,e.2.1,0)
  else
  (wv b a).bind λf=>
  if (f.2 != 0) then
   some (b,0,f.2)
  else
  (eT b a.A f.1).bind λm=>
  (T6 m).bind λi=>
  some (i,f.1,0)) (λc=>
  if (a.Kind==5) then
   c (a.Kind==5)
  else
  if (a.Kind==6) then
   c (a.Kind==6)
  else
  c (a.Kind==8))
def rk(i:e6):Option e6:=
 (ix i.Tasks 0).bind λj=>
 jn (λ(a:e6)=>
  (cut a.Tasks 1 (a.Tasks.length:Int)).bind λs=>
  (app 24 [] s).bind λt=>
  (T6 (⟨a.Nodes,a.Slots,a.Gens,a.Last,a.Places,a.Serial,a.Roots,a.b7,a.Pairs,t,a.Progs⟩:e6)).bind λu=>
  (lu i.Progs j.Prog).bind λr=>
  jn (λ(c:e6)=>
   if (j.Kind==1) then
    (eT c 5 0).bind λm=>
    (T6 m).bind λn=>
    some n
   else
   some c) (λf=>
   (lp (E:=e6) (λ((b,e):Int × e6)=>
    if (decide (b<(r.length:Int))) then
     (ix r b).bind λo=>
     (aS e o).bind λp=>
     some (.inl (y4 (b+1),p.1))
    else
    some (.inr e)) (0,u)).bind λk=>
   f k)) (λg=>
  if (j.Kind==1) then
   (eT i 5 j.At).bind λq=>
   g q
  else
  g i)
def nK(n:e6)(o:Int):Option (e6 × w8):=
 jn (λ((i,j):Int × e6)=>
  some (j,(⟨i,0⟩:w8))) (λf=>
  (lp (E:=(e6 × w8) ⊕ (Int × e6)) (λ((c,b,a):Int × Int × e6)=>
   if (decide ((a.Tasks.length:Int) > 0)) then
    (ix a.Tasks 0).bind λk=>
    (jw a.Progs k).bind λe=>
    if (decide (e > c)) then
     some (.inr (.inl (a,(⟨b,12⟩:w8))))
    else
    (rk a).bind λm=>
    some (.inl (y4 (c-e),y4 (b+1),m))
   else
   some (.inr (.inr (b,a)))) (o,0,n)).bind λg=>
  match g with
  | .inl w=>some w
  | .inr w=>f w)
def Cy(b:e6)(e:List Int):Option (e6 × w8):=
 (fA e).bind λa=>
 if (a.2 != 0) then
  some (b,(⟨0,a.2⟩:w8))
 else
 if (a.1.Kind==11) then
  (jy b).bind λv2=>
  some (v2.1,(⟨v2.2,0⟩:w8))
 else
 if (a.1.Kind==12) then
  (nK b a.1.A).bind λv3=>
  some (v3.1,v3.2)
 else
 (aS b a.1).bind λc=>
 some (c.1,(⟨c.2.1,c.2.2⟩:w8))
def mX(A:Int)(B:Int)(C:Int)(o:List (List k8))(p:List (List Int))(F:Int):Option Bool:=
 (jF o).bind λt=>
 (y6 ((!t)==false) false (iM p 60)).bind λv2=>
 (y6 (((!t)||(!v2))==false) false kO).bind λv3=>
 if (((!t)||(!v2))||(!v3)) then
  (kO).bind λG=>
  some G
 else
 (dA A B C o).bind λi=>
 (oa o).bind λH=>
 (sq A B C H).bind λk=>
 if ((i.2 != k.2)||(i.2 != 0)) then
  (y6 ((i.2==k.2)==true) false (oc i.1)).bind λh=>
  (y6 (((i.2==k.2)&&h)==true) ⟨[],[],[],0,0,0,[],[],[],[],[]⟩ (nZ i.1)).bind λK=>
  (y6 (((i.2==k.2)&&h)==true) false (nJ K k.1)).bind λu=>
  some (((i.2==k.2)&&h)&&u)
 else
 jn (λ(_:Unit)=>
  some true) (λn=>
  (lp (E:=Bool ⊕ Unit) (λ((j,r,s):Int × e6 × a8)=>
   if (decide (j<(p.length:Int))) then
    (ix p j).bind λm=>
    (ns s m).bind λa=>
    (Cy r m).bind λb=>
    (oc a.1).bind λc=>
    (y6 ((!c)==false) ⟨[],[],[],0,0,0,[],[],[],[],[]⟩ (nZ a.1)).bind λv=>
    (y6 ((!c)==false) false (nJ v b.1)).bind λe=>
    (y6 ((((!c)||(!e))||(!((a.2.V==b.2.V)&&((a.2.E==b.2.E)&&true))))==false) 0 (da a.1 F)).bind λf=>
    (y6 ((((!c)||(!e))||(!((a.2.V==b.2.V)&&((a.2.E==b.2.E)&&true))))==false) 0 (aR b.1 F)).bind λg=>
    (y6 (((((!c)||(!e))||(!((a.2.V==b.2.V)&&((a.2.E==b.2.E)&&true))))||(f != g))==false) [] (ba a.1)).bind λx=>
    (y6 (((((!c)||(!e))||(!((a.2.V==b.2.V)&&((a.2.E==b.2.E)&&true))))||(f != g))==false) [] (iE b.1)).bind λy=>
    (y6 (((((!c)||(!e))||(!((a.2.V==b.2.V)&&((a.2.E==b.2.E)&&true))))||(f != g))==false) false (jt x y)).bind λz=>
    if (((((!c)||(!e))||(!((a.2.V==b.2.V)&&((a.2.E==b.2.E)&&true))))||(f != g))||(!z)) then
     some (.inr (.inl false))
    else
    some (.inl (y4 (j+1),b.1,a.1))
   else
   some (.inr (.inr ()))) (0,k.1,i.1)).bind λq=>
  match q with
  | .inl w=>some w
  | .inr w=>n w)
def nG(e:List C7)(f:Int):Option Int:=
 jn (λ(_:Unit)=>
  some (-1)) (λc=>
  (lp (E:=Int ⊕ Unit) (λ(b:Int)=>
   if (decide (b<(e.length:Int))) then
    (ix e b).bind λa=>
    if ((a.State==1)&&(a.Key==f)) then
     some (.inr (.inl b))
    else
    some (.inl (y4 (b+1)))
   else
   some (.inr (.inr ()))) 0).bind λg=>
  match g with
  | .inl w=>some w
  | .inr w=>c w)
def Cv(c:List C7)(a:Int)(e:C7):Option (List C7):=
 (app 24 [] c).bind λb=>
 (ix b a).bind λv2=>
 some (b.set (a).toNat e)
def wj(a:List C7)(c:Int):Option ((List C7) × Int × Int):=
 (nG a c).bind λb=>
 if (decide (b<0)) then
  some (a,0,9)
 else
 (Cv a b (⟨2,0,0⟩:C7)).bind λv2=>
 (ix a b).bind λv3=>
 some (v2,v3.Val,0)
def qZ(r:List C7)(q:List Int):Option ((List C7) × (List Int)):=
 jn (λ((j,k):(List C7) × (List Int))=>
  some (j,k)) (λg=>
  (lp (E:=((List C7) × (List Int))) (λ((b,c,e):(List C7) × Int × (List Int))=>
   if (decide (c<(q.length:Int))) then
    jn (λ((m,n):(List C7) × (List Int))=>
     some (.inl (m,y4 (c+1),n))) (λa=>
     (ix q c).bind λo=>
     (wj b o).bind λf=>
     if (f.2.2==0) then
      (app 8 e [f.2.1]).bind λp=>
      a (f.1,p)
     else
     a (b,e))
   else
   some (.inr (b,e))) (r,0,[])).bind λi=>
  g i)
end
end Go.Sh
