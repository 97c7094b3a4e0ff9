/- A part. -/
import Derived.Test.YtppgkaeodaaidaaGreatDoorU3lSh0
import Derived.Test.YtppgkaeodaaidaaGreatDoorU3lPwD
import Derived.Test.YtppgkaeodaaidaaGreatDoorU3lPwC
import Derived.Test.YtppgkaeodaaidaaGreatDoorU3lPwE
set_option linter.unusedVariables false
set_option linter.unusedSimpArgs false
set_option linter.unusedSectionVars false
namespace Go.Sh
set_option maxRecDepth 100000
noncomputable section
structure u0 where
 Serial:Int
 Strong:Int
 Weak:Int
 Prog:Int
 Started:Bool
 Fields:List Int
structure c5 where
 State:Int
 Gen:Int
 Val:u0
structure l7 where
 Target:Int
 Intact:Bool
 Call:Int
structure c8 where
 State:Int
 Key:Int
 Val:Int
structure p8 where
 Kind:Int
 At:Int
 Prog:Int
structure l6 where
 Kind:Int
 A:Int
 B:Int
 C:Int
structure y7 where
 start:Int
 end_:Int
structure l4 where
 a8:List c5
 Last:Int
structure a7 where
 S:l4
 Serial:Int
structure n0 where
 L:List p8
 Cap:Int
structure b7 where
 S:a7
 Roots:List Int
 a8:List l7
 T:List c8
 Q:n0
structure A2 where
 X:b7
 Progs:List (List l6)
structure k7 where
 g:A2
 begun:Bool
 progs:List (List l6)
structure l5 where
 takes:Fw
 run:Fw
 early:Bool
structure o5 where
 part:Fv
 least:Int
 most:Int
 e:Int
structure y5 where
 x:b7
 o:l6
structure M1 where
 r:Int
 h:Int
structure L0 where
 h:Int
 k:Int
 v:Int
structure M0 where
 t:List c8
structure w7 where
 Key:Int
 Val:Int
structure o9 where
 L:List Int
 Cap:Int
structure F4 where
 V:Int
 E:Int
structure J2 where
 Serial:Int
 Strong:Int
 Weak:Int
 Prog:Int
 Started:Bool
 Fields:List Int
structure x6 where
 State:Int
 Gen:Int
 Val:J2
structure u6 where
 Target:Int
 Intact:Bool
 Call:Int
structure o7 where
 State:Int
 Key:Int
 Val:Int
structure y4 where
 Kind:Int
 At:Int
 Prog:Int
structure u7 where
 Kind:Int
 A:Int
 B:Int
 C:Int
structure p7 where
 a8:List x6
 Last:Int
 Serial:Int
structure C6 where
 L:List y4
 Cap:Int
structure e6 where
 S:p7
 Roots:List Int
 a8:List u6
 T:List o7
 Q:C6
structure E4 where
 X:e6
 Progs:List (List u7)
structure D8 where
 g:E4
 has:Bool
 progs:List (List u7)
structure A7 where
 State:Int
 Gen:Int
 Val:Int
structure B2 where
 a8:List A7
 Last:Int
structure E8 where
 Key:Int
 Val:Int
structure M6 where
 V:Int
 E:Int
def aS(a:Int):Option Bool:=
 some (((a==9)||(a==13))||(a==32))
def G6(f:ByteArray):Option (List ByteArray):=
 jn (λ((k,m):Int × (List y7))=>
  jn (λ(i:List y7)=>
   (mk 16 (i.length:Int) (ByteArray.empty:ByteArray)).bind λs=>
   jn (λ(r:List ByteArray)=>
    some r) (λo=>
    (lp (E:=(List ByteArray)) (λ((c,j):Int × (List ByteArray))=>
     if (decide (c<(i.length:Int))) then
      (ix i c).bind λn=>
      (sT f n.start n.end_).bind λt=>
      (ix j c).bind λy=>
      some (.inl (z8 (c+1),(j.set (c).toNat t)))
     else
     some (.inr j)) (0,s)).bind λp=>
    o p)) (λg=>
   if (decide (k>=0)) then
    (app 16 m [(⟨k,(f.size:Int)⟩:y7)]).bind λu=>
    g u
   else
   g m)) (λx=>
  (lp (E:=(Int × (List y7))) (λ((b,a,e):Int × Nat × (List y7))=>
   if (decide (a<f.size)) then
    (aS ((dec f a).1:Int)).bind λv=>
    if v then
     if (decide (b>=0)) then
      (app 16 e [(⟨b,((a:Nat):Int)⟩:y7)]).bind λw=>
      some (.inl (Bl .i64 b,(a+(dec f a).2),w))
     else
     some (.inl (b,(a+(dec f a).2),e))
    else
    if (decide (b<0)) then
     some (.inl (((a:Nat):Int),(a+(dec f a).2),e))
    else
    some (.inl (b,(a+(dec f a).2),e))
   else
   some (.inr (b,e))) ((-1),0,[])).bind λq=>
  x q)
def aR(a:Int):Option Int:=
 some a
def E2(a:Int)(b:Int):Option l5:=
 (aR b).bind λc=>
 some (⟨(some (137,some c)),(some (138,some a)),false⟩:l5)
def gn:Option (List (ByteArray × l5)):=
 (aR 3).bind λg=>
 (E2 1 3).bind λv2=>
 (E2 2 2).bind λv3=>
 (E2 3 1).bind λi=>
 (E2 4 3).bind λj=>
 (E2 5 3).bind λk=>
 (E2 6 3).bind λm=>
 (E2 7 2).bind λn=>
 (E2 8 2).bind λo=>
 (E2 9 2).bind λb=>
 (E2 10 2).bind λc=>
 (E2 11 0).bind λe=>
 (E2 12 1).bind λf=>
 (aR 0).bind λa=>
 some (r7 (r7 (r7 (r7 (r7 (r7 (r7 (r7 (r7 (r7 (r7 (r7 (r7 (r7 (r7 (r7 (r7 [] (r9 [112,114,111,103]) (⟨(some (75,none)),(some (76,none)),true⟩:l5)) (r9 [104,101,97,112]) (⟨(some (137,some g)),(some (78,none)),true⟩:l5)) (r9 [110,101,119]) v2) (r9 [99,111,112,121]) v3) (r9 [100,114,111,112]) i) (r9 [108,111,97,100]) j) (r9 [115,116,111,114,101]) k) (r9 [119,101,97,107]) m) (r9 [117,112]) n) (r9 [112,97,105,114]) o) (r9 [103,101,116]) b) (r9 [115,97,109,101]) c) (r9 [99,111,108,108,101,99,116]) e) (r9 [100,114,97,105,110]) f) (r9 [108,105,118,101,115]) (⟨(some (137,some a)),(some (80,none)),false⟩:l5)) (r9 [114,111,111,116,115]) (⟨(some (137,some a)),(some (81,none)),false⟩:l5)) (r9 [116,97,108,108,121]) (⟨(some (137,some a)),(some (82,none)),false⟩:l5))
def bN(e:ByteArray):Option (Int × Bool):=
 jn (λ((k,g,i):Int × Int × Int)=>
  if (g==0) then
   some (0,false)
  else
  some (z8 (i*k),true)) (λj=>
  (lp (E:=(Int × Int × Int)) (λ((b,c,f,a):Int × Int × Int × Nat)=>
   if (decide (a<e.size)) then
    if ((((a:Nat):Int)==0)&&(((dec e a).1:Int)==45)) then
     some (.inl (b,c,(-1),(a+(dec e a).2)))
    else
    if (((decide (((dec e a).1:Int)<48))||(decide (((dec e a).1:Int) > 57)))||(c==9)) then
     some (.inr (b,0,f))
    else
    some (.inl (z8 ((z8 (b*10))+(z8 (IntKind.i32.wrap (((dec e a).1:Int)-48)))),z8 (c+1),f,(a+(dec e a).2)))
   else
   some (.inr (b,c,f))) (0,0,1,0)).bind λVr=>
  j Vr)
def bD(k:List ByteArray):Option ((List Int) × Bool):=
 jn (λ(f:List Int)=>
  some (f,true)) (λj=>
  (lp (E:=((List Int) × Bool) ⊕ (List Int)) (λ((a,b):Int × (List Int))=>
   if (decide (a<(k.length:Int))) then
    (ix k a).bind λg=>
    (bN g).bind λc=>
    if (!c.2) then
     some (.inr (.inl ([],false)))
    else
    (app 8 b [c.1]).bind λi=>
    some (.inl (z8 (a+1),i))
   else
   some (.inr (.inr b))) (0,[])).bind λe=>
  match e with
  | .inl w=>some w
  | .inr w=>j w)
def dO(a:Int):Option Bool:=
 (rem a 4).bind λb=>
 some (b==1)
def ff(a:Int)(b:Int):Option Bool:=
 some (a==b)
def rK(f:Fw)(a:Int):Option Bool:=
 match f with
 | none=>none
 | some (n,none)=>
  if n=75 then dO a else
  none
 | some (n,some c)=>
  if n=137 then ff a c else
  none
def D6(a:Int):Option ByteArray:=
 (nB a).bind λb=>
 (ra (r9 [101,114,114,111,114,32]) b).bind λv2=>
 some v2
def gk(a:l6):Option Bool:=
 some ((decide (a.Kind>=1))&&(decide (a.Kind<=10)))
def bp:Option o5:=
 some (⟨(some 169),0,5,6⟩:o5)
def Y7:Option o5:=
 some (⟨(some 172),(-1),5,13⟩:o5)
def N3(a:List o5):Option (List o5):=
 some a
def bq:Option o5:=
 some (⟨(some 170),0,5,6⟩:o5)
def aG:Option o5:=
 some (⟨(some 172),0,3,5⟩:o5)
def aF:Option o5:=
 some (⟨(some 170),0,3,5⟩:o5)
def U3:Option o5:=
 some (⟨(some 172),(-1),5,6⟩:o5)
def bn:Option o5:=
 some (⟨(some 169),0,5,7⟩:o5)
def U2:Option o5:=
 some (⟨(some 170),(-1),5,6⟩:o5)
def bo:Option o5:=
 some (⟨(some 170),0,5,7⟩:o5)
def oe:Option (List (Int × (List o5))):=
 (bp).bind λa=>
 (Y7).bind λv2=>
 (N3 [a,(⟨(some 170),0,4,1⟩:o5),v2]).bind λv3=>
 (bq).bind λp=>
 (N3 [a,p]).bind λo=>
 (N3 [a]).bind λq=>
 (aG).bind λr=>
 (N3 [a,p,r]).bind λs=>
 (aF).bind λt=>
 (U3).bind λc=>
 (N3 [a,t,c]).bind λe=>
 (bn).bind λf=>
 (U2).bind λb=>
 (N3 [f,b,v2]).bind λg=>
 (bo).bind λi=>
 (N3 [a,i]).bind λj=>
 (N3 [a,b]).bind λk=>
 (N3 []).bind λm=>
 (N3 [(⟨(some 169),0,200,12⟩:o5)]).bind λn=>
 some (r7 (r7 (r7 (r7 (r7 (r7 (r7 (r7 (r7 (r7 (r7 (r7 [] 1 v3) 2 o) 3 q) 4 s) 5 e) 6 g) 7 j) 8 k) 9 o) 10 o) 11 m) 12 n)
def tO(a:l6):Option Int:=
 some a.A
def tP(a:l6):Option Int:=
 some a.B
def tQ(a:l6):Option Int:=
 some a.C
def uV(f:Fv)(a:l6):Option Int:=
 if f=some 169 then tO a else
 if f=some 170 then tP a else
 if f=some 172 then tQ a else
 none
def Y6(f:l6):Option Int:=
 (oe).bind λi=>
 if (!((C0 i f.Kind).isSome)) then
  some 14
 else
 jn (λ(_:Unit)=>
  some 0) (λj=>
  (lp (E:=Int ⊕ Unit) (λ(b:Int)=>
   if (decide (b<(((C0 i f.Kind).getD ([]:List o5)).length:Int))) then
    (ix ((C0 i f.Kind).getD ([]:List o5)) b).bind λa=>
    (uV a.part f).bind λc=>
    if ((decide (c<a.least))||(decide (c > a.most))) then
     some (.inr (.inl a.e))
    else
    some (.inl (z8 (b+1)))
   else
   some (.inr (.inr ()))) 0).bind λg=>
  match g with
  | .inl w=>some w
  | .inr w=>j w)
def gl(j:List (List l6)):Option Bool:=
 if (decide ((j.length:Int) > 6)) then
  some false
 else
 jn (λ(_:Unit)=>
  some true) (λg=>
  (lp (E:=Bool ⊕ Unit) (λ(a:Int)=>
   if (decide (a<(j.length:Int))) then
    jn (λ(_:Unit)=>
     some (.inl (z8 (a+1)))) (λi=>
     (ix j a).bind λc=>
     if (decide ((c.length:Int) > 6)) then
      some (.inr (.inl false))
     else
     (lp (E:=Bool ⊕ Unit) (λ(b:Int)=>
      if (decide (b<(c.length:Int))) then
       (ix c b).bind λe=>
       (gk e).bind λf=>
       (B8 ((!f)==false) 0 (Y6 e)).bind λn=>
       if ((!f)||(n != 0)) then
        some (.inr (.inl false))
       else
       some (.inl (z8 (b+1)))
      else
      some (.inr (.inr ()))) 0).bind λm=>
     match m with
     | .inl w=>some (.inr (.inl w))
     | .inr w=>i w)
   else
   some (.inr (.inr ()))) 0).bind λk=>
  match k with
  | .inl w=>some w
  | .inr w=>g w)
def R3(b:k7)(j:List Int):Option (k7 × ByteArray):=
 (ix j 0).bind λc=>
 if ((decide (c<0))||(decide (c>=6))) then
  (D6 13).bind λv2=>
  some (b,v2)
 else
 (mk 24 (if (b.progs.length:Int) > (z8 (c+1)) then (b.progs.length:Int) else z8 (c+1)) ([]:List l6)).bind λv3=>
 (yT v3 b.progs).bind λv=>
 (ix v c).bind λw=>
 jn (λ(e:List l6)=>
  (gl (v.set ((c).toNat) e)).bind λm=>
  if (!m) then
   (D6 13).bind λn=>
   some (b,n)
  else
  some ((⟨b.g,b.begun,(v.set ((c).toNat) e)⟩:k7),(r9 [111,107]))) (λi=>
  (cut j 1 (j.length:Int)).bind λo=>
  (lp (E:=(List l6)) (λ((a,f):(List Int) × (List l6))=>
   if (decide ((a.length:Int) > 0)) then
    (ix a 0).bind λp=>
    (ix a 1).bind λq=>
    (ix a 2).bind λr=>
    (ix a 3).bind λs=>
    (app 32 f [(⟨p,q,r,s⟩:l6)]).bind λt=>
    (cut a 4 (a.length:Int)).bind λu=>
    some (.inl (u,t))
   else
   some (.inr f)) (o,[])).bind λk=>
  i k)
def aN(a:Int)(b:Int):Option l4:=
 if ((((decide (a<0))||(decide (a > 24)))||(decide (b<0)))||(decide (b > 9))) then
  some (⟨[],0⟩:l4)
 else
 (mk 80 a (⟨0,0,⟨0,0,0,0,false,[]⟩⟩:c5)).bind λc=>
 some (⟨c,b⟩:l4)
def jF(a:Int)(b:Int):Option a7:=
 (aN a b).bind λc=>
 some (⟨c,0⟩:a7)
def KG(e:Int):Option (List l7):=
 if ((decide (e<0))||(decide (e > 6))) then
  some []
 else
 (mk 24 e (⟨0,false,0⟩:l7)).bind λi=>
 jn (λ(j:List l7)=>
  some j) (λg=>
  (lp (E:=(List l7)) (λ((a,b):Int × (List l7))=>
   if (decide (a<(i.length:Int))) then
    (ix b a).bind λc=>
    some (.inl (z8 (a+1),(b.set (a).toNat (⟨c.Target,c.Intact,(-1)⟩:l7))))
   else
   some (.inr b)) (0,i)).bind λf=>
  g f)
def vd(a:Int):Option (List c8):=
 if ((decide (a<1))||(decide (a > 8))) then
  some []
 else
 (mk 24 a (⟨0,0,0⟩:c8)).bind λb=>
 some b
def db(a:Int):Option n0:=
 some (⟨[],a⟩:n0)
def Kt:Option n0:=
 (db 30).bind λa=>
 some a
def mE(a:Int)(b:Int)(c:Int):Option b7:=
 if ((((((decide (a<1))||(decide (a > 24)))||(decide (b<0)))||(decide (b > 9)))||(decide (c<1)))||(decide (c > 8))) then
  some (⟨⟨⟨[],0⟩,0⟩,[],[],[],⟨[],0⟩⟩:b7)
 else
 (jF a b).bind λe=>
 (mk 8 6 (0:Int)).bind λv2=>
 (KG 6).bind λv3=>
 (vd c).bind λf=>
 (Kt).bind λg=>
 some (⟨e,v2,v3,f,g⟩:b7)
def S9(b:Int)(c:Int)(e:Int)(a:List (List l6)):Option (A2 × Int):=
 (gl a).bind λf=>
 if (!f) then
  some ((⟨⟨⟨⟨[],0⟩,0⟩,[],[],[],⟨[],0⟩⟩,[]⟩:A2),13)
 else
 (mE b c e).bind λv2=>
 if ((v2.Roots.length:Int)==0) then
  some ((⟨⟨⟨⟨[],0⟩,0⟩,[],[],[],⟨[],0⟩⟩,[]⟩:A2),1)
 else
 some ((⟨v2,a⟩:A2),0)
def Q4(a:k7)(b:List Int):Option (k7 × ByteArray):=
 (ix b 0).bind λe=>
 (ix b 1).bind λv2=>
 (ix b 2).bind λv3=>
 (S9 e v2 v3 a.progs).bind λc=>
 if (c.2 != 0) then
  (D6 c.2).bind λf=>
  some (a,f)
 else
 some ((⟨c.1,true,a.progs⟩:k7),(r9 [111,107]))
def ep(a:Int)(b:Int):Option Int:=
 if ((((decide (a<0))||(decide (a>=24)))||(decide (b<0)))||(decide (b > 9))) then
  some 0
 else
 some (z8 ((z8 (1+(z8 (a*1))))+(z8 (b*32))))
def cmp_isNaN_int(a:Int):Option Bool:=
 some (a != a)
def dH(a:Int)(b:Int):Option Int:=
 (cmp_isNaN_int a).bind λc=>
 (cmp_isNaN_int b).bind λv2=>
 if c then
  if v2 then
   some 0
  else
  some (-1)
 else
 if v2 then
  some 1
 else
 if (decide (a<b)) then
  some (-1)
 else
 if (decide (a > b)) then
  some 1
 else
 some 0
def fO(b:Int)(c:Int)(a:List (Int × Int)):Option Int:=
 (dH ((C0 a b).getD (0:Int)) ((C0 a c).getD (0:Int))).bind λe=>
 some e
def H0(t:a7):Option (List Int):=
 jn (λ((k,m):(List (Int × Int)) × (List Int))=>
  (rj (λp q=>fO p q k) m).bind λr=>
  some r) (λi=>
  (lp (E:=((List (Int × Int)) × (List Int))) (λ((a,c,e):Int × (List (Int × Int)) × (List Int))=>
   if (decide (a<(t.S.a8.length:Int))) then
    jn (λ((n,o):(List (Int × Int)) × (List Int))=>
     some (.inl (z8 (a+1),n,o))) (λb=>
     (ix t.S.a8 a).bind λf=>
     if (f.State==1) then
      (ep a f.Gen).bind λg=>
      (app 8 e [g]).bind λs=>
      b ((r7 c g f.Val.Serial),s)
     else
     b (c,e))
   else
   some (.inr (c,e))) (0,[],[])).bind λj=>
  i j)
def fm(a:Int):Option (Int × Int × Bool):=
 if (decide (a<1)) then
  some ((-1),(-1),false)
 else
 (rem (z8 (a-1)) 32).bind λb=>
 (quo .i64 b 1).bind λv2=>
 (quo .i64 (z8 (a-1)) 32).bind λv3=>
 if ((decide (v2>=24))||(decide (v3 > 9))) then
  some ((-1),(-1),false)
 else
 some (v2,v3,true)
def ig(a:Int):Option Int:=
 (fm a).bind λb=>
 some b.1
def jS(a:Int):Option Int:=
 (fm a).bind λb=>
 some b.2.1
def z6(c:l4)(b:Int):Option (Int × Int):=
 if (b==0) then
  some ((-1),2)
 else
 (ig b).bind λa=>
 if ((decide (a<0))||(decide (a>=(c.a8.length:Int)))) then
  some ((-1),3)
 else
 (ix c.a8 a).bind λv2=>
 (jS b).bind λv3=>
 if ((v2.Gen != v3)||((v2.State != 1)&&(v2.State != 2))) then
  some ((-1),3)
 else
 some (a,0)
def F5(b:l4)(c:Int):Option (u0 × Int):=
 (z6 b c).bind λa=>
 if (a.2 != 0) then
  some ((⟨0,0,0,0,false,[]⟩:u0),a.2)
 else
 (ix b.a8 a.1).bind λv2=>
 if (v2.State==2) then
  some ((⟨0,0,0,0,false,[]⟩:u0),3)
 else
 some (v2.Val,0)
def B3(b:a7)(c:Int):Option (u0 × Int):=
 (F5 b.S c).bind λa=>
 some (a.1,a.2)
def bT(a:b7)(b:Int):Option Int:=
 (B3 a.S b).bind λc=>
 some c.1.Serial
def je(n:A2):Option (List Int):=
 jn (λ(g:List Int)=>
  (sy g).bind λi=>
  some i) (λe=>
  (H0 n.X.S).bind λc=>
  (lp (E:=(List Int)) (λ((a,b):Int × (List Int))=>
   if (decide (a<(c.length:Int))) then
    (ix c a).bind λj=>
    (bT n.X j).bind λk=>
    (app 8 b [k]).bind λm=>
    some (.inl (z8 (a+1),m))
   else
   some (.inr b)) (0,[])).bind λf=>
  e f)
def ai(n:ByteArray)(m:List Int):Option ByteArray:=
 jn (λ(f:ByteArray)=>
  some f) (λc=>
  (lp (E:=ByteArray) (λ((b,a):ByteArray × Int)=>
   if (decide (a<(m.length:Int))) then
    (ix m a).bind λg=>
    (nB g).bind λi=>
    (ra (r9 [32]) i).bind λj=>
    (ra b j).bind λk=>
    some (.inl (k,z8 (a+1)))
   else
   some (.inr b)) (n,0)).bind λe=>
  c e)
def O0(a:k7)(c:List Int):Option (k7 × ByteArray):=
 (je a.g).bind λb=>
 (ai (r9 [108,105,118,101,115]) b).bind λv2=>
 some (a,v2)
def P9(b:b7)(a:Int):Option Int:=
 if ((decide (a<0))||(decide (a>=(b.Roots.length:Int)))) then
  some 0
 else
 (ix b.Roots a).bind λc=>
 some c
def bS(a:b7)(b:Int):Option Int:=
 (P9 a b).bind λc=>
 (bT a c).bind λv2=>
 some v2
def O1(k:k7)(o:List Int):Option (k7 × ByteArray):=
 (mk 8 6 (0:Int)).bind λm=>
 jn (λ(e:List Int)=>
  (ai (r9 [114,111,111,116,115]) e).bind λf=>
  some (k,f)) (λj=>
  (lp (E:=(List Int)) (λ((a,b):Int × (List Int))=>
   if (decide (a<(m.length:Int))) then
    (bS k.g.X a).bind λi=>
    (ix b a).bind λn=>
    some (.inl (z8 (a+1),(b.set (a).toNat i)))
   else
   some (.inr b)) (0,m)).bind λc=>
  j c)
def Y0(i:l4):Option A4:=
 jn (λ(j:A4)=>
  some j) (λg=>
  (lp (E:=A4) (λ((a,b):Int × A4)=>
   if (decide (a<(i.a8.length:Int))) then
    (ix i.a8 a).bind λc=>
    (A4.ix b c.State).bind λf=>
    some (.inl (z8 (a+1),(A4.st b c.State (z8 (f+1)))))
   else
   some (.inr b)) (0,(⟨0,0,0,0⟩:A4))).bind λe=>
  g e)
def jf(a:A2):Option A4:=
 (Y0 a.X.S.S).bind λb=>
 some b
def W5(f:k7)(i:List Int):Option (k7 × ByteArray):=
 (jf f.g).bind λe=>
 (ai (r9 [116,97,108,108,121]) [e.a,e.b,e.c,e.d]).bind λv2=>
 some (f,v2)
def aB(a:List Int):Option (l6 × Int):=
 if ((a.length:Int) != 4) then
  some ((⟨0,0,0,0⟩:l6),14)
 else
 (ix a 0).bind λb=>
 (ix a 1).bind λv2=>
 (ix a 2).bind λv3=>
 (ix a 3).bind λc=>
 (Y6 (⟨b,v2,v3,c⟩:l6)).bind λe=>
 if (e != 0) then
  some ((⟨0,0,0,0⟩:l6),e)
 else
 some ((⟨b,v2,v3,c⟩:l6),0)
def ov(a:l6):Option Vv:=
 if (a.Kind==11) then
  some (⟨103,[]⟩:Vv)
 else
 if (a.Kind==12) then
  some (⟨107,[a.A]⟩:Vv)
 else
 some (⟨99,[a.Kind,a.A,a.B,a.C]⟩:Vv)
def gQ:Option (List (Int × Fv)):=
 some (r7 (r7 (r7 (r7 (r7 (r7 (r7 (r7 (r7 (r7 [] 1 (some 97)) 2 (some 98)) 3 (some 99)) 4 (some 100)) 5 (some 101)) 6 (some 102)) 7 (some 103)) 8 (some 104)) 9 (some 105)) 10 (some 106))
def wG(a:Int):Option ((List Int) × Int):=
 if ((decide (a<0))||(decide (a > 4))) then
  some ([],1)
 else
 (mk 8 a (0:Int)).bind λb=>
 some (b,0)
def Y3(a:Int):Option Bool:=
 some ((decide (a>=(-1)))&&(decide (a<6)))
def U1(a:l4):Option l4:=
 some a
def B7(a:List c5):Option (List c5):=
 app 80 [] a
def G0(a:l4)(b:Int)(e:c5):Option l4:=
 (B7 a.a8).bind λc=>
 (ix c b).bind λv2=>
 some (⟨(c.set (b).toNat e),a.Last⟩:l4)
def H6(e:l4)(m:u0):Option (l4 × Int × Int):=
 jn (λ(_:Unit)=>
  some (e,0,4)) (λk=>
  (U1 e).bind λb=>
  (lp (E:=(l4 × Int × Int) ⊕ Unit) (λ(a:Int)=>
   if (decide (a<(b.a8.length:Int))) then
    (ix b.a8 a).bind λg=>
    if ((g.State==0)==true) then
     (ix e.a8 a).bind λc=>
     (G0 e a (⟨1,c.Gen,m⟩:c5)).bind λi=>
     (ep a c.Gen).bind λj=>
     some (.inr (.inl (i,j,0)))
    else
    some (.inl (z8 (a+1)))
   else
   some (.inr (.inr ()))) 0).bind λf=>
  match f with
  | .inl w=>some w
  | .inr w=>k w)
def T6(a:a7)(e:Int)(c:Int):Option (a7 × Int × Int):=
 (wG e).bind λb=>
 if (b.2 != 0) then
  some (a,0,b.2)
 else
 (Y3 c).bind λv2=>
 if (!v2) then
  some (a,0,13)
 else
 (H6 a.S (⟨z8 (a.Serial+1),0,0,c,false,b.1⟩:u0)).bind λv3=>
 if (v3.2.2 != 0) then
  some (a,0,v3.2.2)
 else
 some ((⟨v3.1,z8 (a.Serial+1)⟩:a7),v3.2.1,0)
def la(a:b7)(b:Int):Option Bool:=
 (B3 a.S b).bind λc=>
 some (c.2==0)
def P7(b:b7)(a:Int):Option Bool:=
 (B8 ((a==0)==false) false (la b a)).bind λc=>
 some ((a==0)||c)
def J8(a:Int):Option Bool:=
 some (decide (a>=12))
def jM(a:Int):Option (Int × Int):=
 (J8 a).bind λb=>
 if b then
  some (12,0)
 else
 some (z8 ((if 0 > a then 0 else a)+1),0)
def rC(a:Int):Option Int:=
 (jM a).bind λb=>
 some b.1
def O7(a:l4)(c:Int)(e:u0):Option (l4 × Int):=
 (z6 a c).bind λb=>
 if (b.2 != 0) then
  some (a,b.2)
 else
 (ix a.a8 b.1).bind λv2=>
 (G0 a b.1 (⟨v2.State,v2.Gen,e⟩:c5)).bind λv3=>
 some (v3,0)
def O8(a:a7)(c:Int)(e:u0):Option (a7 × Int):=
 (O7 a.S c e).bind λb=>
 some ((⟨b.1,a.Serial⟩:a7),b.2)
def al(a:b7)(c:Int):Option b7:=
 (B3 a.S c).bind λb=>
 if (b.2==0) then
  (rC b.1.Strong).bind λv2=>
  (O8 a.S c (⟨b.1.Serial,v2,b.1.Weak,b.1.Prog,b.1.Started,b.1.Fields⟩:u0)).bind λv3=>
  some (⟨v3.1,a.Roots,a.a8,a.T,a.Q⟩:b7)
 else
 some a
def bR(a:b7)(b:Int):Option b7:=
 (al a b).bind λc=>
 some c
def Q8(a:List Int):Option (List Int):=
 app 8 [] a
def V7(b:M1)(a:b7):Option b7:=
 (Q8 a.Roots).bind λc=>
 (ix c b.r).bind λv2=>
 some (⟨a.S,(c.set (b.r).toNat b.h),a.a8,a.T,a.Q⟩:b7)
def gp(a:Int):Option (Int × Int):=
 (J8 a).bind λb=>
 if b then
  some (12,0)
 else
 if (decide (a<1)) then
  some (0,11)
 else
 some (z8 (a-1),0)
def wZ(b:Int):Option (Int × Int):=
 (gp b).bind λa=>
 some (a.1,a.2)
def fp(a:Int):Option Int:=
 (wZ a).bind λb=>
 if (b.2 != 0) then
  some a
 else
 some b.1
def T3(a:b7)(c:Int):Option b7:=
 (B3 a.S c).bind λb=>
 if (b.2==0) then
  (fp b.1.Strong).bind λv2=>
  (O8 a.S c (⟨b.1.Serial,v2,b.1.Weak,b.1.Prog,b.1.Started,b.1.Fields⟩:u0)).bind λv3=>
  some (⟨v3.1,a.Roots,a.a8,a.T,a.Q⟩:b7)
 else
 some a
def F9(a:b7)(b:Int):Option b7:=
 (T3 a b).bind λc=>
 some c
def I5(a:b7)(b:Int)(c:Int)(e:M1):Option b7:=
 (bR a c).bind λf=>
 (V7 e f).bind λv2=>
 (F9 v2 b).bind λv3=>
 some v3
def cE(a:b7)(b:Int)(c:Int):Option (b7 × Int):=
 if ((decide (b<0))||(decide (b>=(a.Roots.length:Int)))) then
  some (a,6)
 else
 (P7 a c).bind λe=>
 if (!e) then
  some (a,3)
 else
 (ix a.Roots b).bind λv2=>
 (I5 a v2 c (⟨b,c⟩:M1)).bind λv3=>
 some (v3,0)
def E5(a:y5)(e:Int)(b:Int):Option (b7 × Int):=
 if (b != 0) then
  some (a.x,b)
 else
 (cE a.x a.o.A e).bind λc=>
 some (c.1,c.2)
def Z6(a:y5):Option (b7 × Int):=
 (T6 a.x.S a.o.B a.o.C).bind λb=>
 if (b.2.2 != 0) then
  some (a.x,b.2.2)
 else
 (E5 (⟨⟨b.1,a.x.Roots,a.x.a8,a.x.T,a.x.Q⟩,a.o⟩:y5) b.2.1 0).bind λv2=>
 some (v2.1,v2.2)
def M4(a:y5):Option (b7 × Int):=
 (P9 a.x a.o.B).bind λb=>
 (E5 a b 0).bind λv2=>
 some (v2.1,v2.2)
def bH(b:y5):Option (b7 × Int):=
 (E5 b 0 0).bind λa=>
 some (a.1,a.2)
def Q6(b:b7)(c:Int):Option (Int × Int):=
 (P9 b c).bind λa=>
 if (a==0) then
  some (0,2)
 else
 some (a,0)
def pG(b:List Int)(a:Int):Option Bool:=
 some ((decide (a>=0))&&(decide (a<(b.length:Int))))
def rq(a:List Int)(b:Int):Option (Int × Int):=
 (pG a b).bind λc=>
 if (!c) then
  some (0,5)
 else
 (ix a b).bind λv2=>
 some (v2,0)
def Y2(b:a7)(c:Int)(e:Int):Option (Int × Int):=
 (B3 b c).bind λa=>
 if (a.2 != 0) then
  some (0,a.2)
 else
 (rq a.1.Fields e).bind λv2=>
 some (v2.1,v2.2)
def bI(a:y5):Option (b7 × Int):=
 (Q6 a.x a.o.B).bind λb=>
 if (b.2 != 0) then
  some (a.x,b.2)
 else
 (Y2 a.x.S b.1 a.o.C).bind λv2=>
 (E5 a v2.1 v2.2).bind λv3=>
 some (v3.1,v3.2)
def CX(a:List Int)(b:Int)(c:Int):Option ((List Int) × Int):=
 (pG a b).bind λe=>
 if (!e) then
  some (a,5)
 else
 (mk 8 (a.length:Int) (0:Int)).bind λv2=>
 (yT v2 a).bind λv3=>
 (ix v3 b).bind λf=>
 some ((v3.set (b).toNat c),0)
def sz(b:a7)(c:Int)(e:Int)(f:Int):Option (a7 × Int):=
 (B3 b c).bind λa=>
 if (a.2 != 0) then
  some (b,a.2)
 else
 (CX a.1.Fields e f).bind λv2=>
 if (v2.2 != 0) then
  some (b,v2.2)
 else
 (O8 b c (⟨a.1.Serial,a.1.Strong,a.1.Weak,a.1.Prog,a.1.Started,v2.1⟩:u0)).bind λv3=>
 some (v3.1,v3.2)
def cY(b:L0)(a:b7):Option b7:=
 (sz a.S b.h b.k b.v).bind λc=>
 some (⟨c.1,a.Roots,a.a8,a.T,a.Q⟩:b7)
def M2(a:b7)(b:Int)(c:Int)(e:L0):Option b7:=
 (bR a c).bind λf=>
 (cY e f).bind λv2=>
 (F9 v2 b).bind λv3=>
 some v3
def bQ(a:b7)(e:Int)(f:Int)(b:Int):Option (b7 × Int):=
 (Y2 a.S e f).bind λc=>
 if (c.2 != 0) then
  some (a,c.2)
 else
 (P7 a b).bind λv2=>
 if (!v2) then
  some (a,3)
 else
 (M2 a c.1 b (⟨e,f,b⟩:L0)).bind λv3=>
 some (v3,0)
def aJ(a:y5):Option (b7 × Int):=
 (Q6 a.x a.o.A).bind λb=>
 if (b.2 != 0) then
  some (a.x,b.2)
 else
 (P9 a.x a.o.C).bind λv2=>
 (bQ a.x b.1 a.o.B v2).bind λv3=>
 some (v3.1,v3.2)
def AY(a:n0)(b:Int):Option (n0 × Int):=
 some (a,b)
def kz(f:n0)(g:Int):Option Bool:=
 jn (λ(_:Unit)=>
  some false) (λe=>
  (AY f 2).bind λc=>
  (lp (E:=Bool ⊕ Unit) (λ(a:Int)=>
   if (decide (a<(c.1.L.length:Int))) then
    (ix c.1.L a).bind λb=>
    if ((b.Kind==c.2)==true) then
     if (b.At==g) then
      some (.inr (.inl true))
     else
     some (.inl (z8 (a+1)))
    else
    some (.inl (z8 (a+1)))
   else
   some (.inr (.inr ()))) 0).bind λi=>
  match i with
  | .inl w=>some w
  | .inr w=>e w)
def nK(b:List l7)(a:Int):Option Bool:=
 some ((decide (a>=0))&&(decide (a<(b.length:Int))))
def cq(a:List l7):Option (List l7):=
 (mk 24 (a.length:Int) (⟨0,false,0⟩:l7)).bind λb=>
 (yT b a).bind λv2=>
 some v2
def wI(a:List l7)(b:Int)(c:Int)(e:Int):Option ((List l7) × Int × Int):=
 (nK a b).bind λf=>
 if (!f) then
  some (a,0,7)
 else
 (cq a).bind λv2=>
 (ix v2 b).bind λv3=>
 (ix a b).bind λg=>
 some ((v2.set (b).toNat (⟨c,(c != 0),e⟩:l7)),g.Target,0)
def eD(a:b7)(b:Int)(e:Int):Option b7:=
 (z6 a.S.S b).bind λc=>
 if (c.2==0) then
  (ix a.S.S.a8 c.1).bind λv2=>
  (O8 a.S b (⟨v2.Val.Serial,v2.Val.Strong,z8 (v2.Val.Weak+e),v2.Val.Prog,v2.Val.Started,v2.Val.Fields⟩:u0)).bind λv3=>
  some (⟨v3.1,a.Roots,a.a8,a.T,a.Q⟩:b7)
 else
 some a
def U0(a:l4)(c:Int):Option (l4 × Int):=
 (z6 a c).bind λb=>
 if (b.2 != 0) then
  some (a,b.2)
 else
 (ix a.a8 b.1).bind λv2=>
 if (v2.Gen==a.Last) then
  (G0 a b.1 (⟨3,v2.Gen,⟨0,0,0,0,false,[]⟩⟩:c5)).bind λv3=>
  some (v3,0)
 else
 (G0 a b.1 (⟨0,z8 (v2.Gen+1),⟨0,0,0,0,false,[]⟩⟩:c5)).bind λe=>
 some (e,0)
def gO(c:b7)(b:Int):Option b7:=
 (eD c b (-1)).bind λa=>
 (z6 a.S.S b).bind λv2=>
 if (v2.2 != 0) then
  some a
 else
 (ix a.S.S.a8 v2.1).bind λv3=>
 if ((v3.State==2)&&(v3.Val.Weak==0)) then
  (U0 a.S.S b).bind λe=>
  some (⟨⟨e.1,a.S.Serial⟩,a.Roots,a.a8,a.T,a.Q⟩:b7)
 else
 some a
def ak(a:b7)(b:Int)(c:Int)(e:Int):Option (b7 × Int):=
 (B8 (((decide (b<0))||(decide (b>=(a.a8.length:Int))))==false) false (kz a.Q b)).bind λf=>
 if (((decide (b<0))||(decide (b>=(a.a8.length:Int))))||f) then
  some (a,7)
 else
 (P7 a c).bind λv2=>
 if (!v2) then
  some (a,3)
 else
 (wI a.a8 b c e).bind λv3=>
 (eD (⟨a.S,a.Roots,v3.1,a.T,a.Q⟩:b7) c 1).bind λg=>
 (gO g v3.2.1).bind λi=>
 some (i,0)
def Z7(a:y5):Option (b7 × Int):=
 if (a.o.B==(-1)) then
  (ak a.x a.o.A 0 a.o.C).bind λb=>
  some (b.1,b.2)
 else
 (Q6 a.x a.o.B).bind λv2=>
 if (v2.2 != 0) then
  some (a.x,v2.2)
 else
 (ak a.x a.o.A v2.1 a.o.C).bind λv3=>
 some (v3.1,v3.2)
def nJ(a:List l7)(b:Int):Option (Int × Int):=
 (nK a b).bind λc=>
 if (!c) then
  some (0,7)
 else
 (ix a b).bind λv2=>
 if ((v2.Target==0)||(!v2.Intact)) then
  some (0,9)
 else
 some (v2.Target,0)
def aU(a:y5):Option (b7 × Int):=
 (nJ a.x.a8 a.o.B).bind λb=>
 (E5 a b.1 b.2).bind λv2=>
 some (v2.1,v2.2)
def jy(a:Int)(b:Int):Option (Int × Int):=
 some (a,b)
def cD(a:Int)(c:Int):Option Int:=
 if (decide (a<1)) then
  some 0
 else
 (rem (z8 ((z8 (5*c))+1)) a).bind λb=>
 if (decide (b<0)) then
  some (z8 (b+a))
 else
 some b
def bg(j:List c8)(k:Int):Option Int:=
 jn (λ(_:Unit)=>
  some (-1)) (λi=>
  (jy (j.length:Int) k).bind λa=>
  (lp (E:=Int ⊕ Unit) (λ(b:Int)=>
   if (decide (b<a.1)) then
    (cD a.1 a.2).bind λg=>
    (rem (z8 (g+b)) a.1).bind λe=>
    (ix j e).bind λc=>
    if (c.State==0) then
     some (.inr (.inr ()))
    else
    if ((c.State==1)&&(c.Key==k)) then
     some (.inr (.inl e))
    else
    some (.inl (z8 (b+1)))
   else
   some (.inr (.inr ()))) 0).bind λf=>
  match f with
  | .inl w=>some w
  | .inr w=>i w)
def Q5(a:List c8)(c:Int):Option (Int × Int):=
 (bg a c).bind λb=>
 if (decide (b<0)) then
  some (0,9)
 else
 (ix a b).bind λv2=>
 some (v2.Val,0)
def G9(a:List c8):Option (List c8):=
 app 24 [] a
def ez(c:List c8)(a:Int)(e:c8):Option (List c8):=
 (G9 c).bind λb=>
 (ix b a).bind λv2=>
 some (b.set (a).toNat e)
def bf(a:List c8)(c:Int):Option ((List c8) × Int × Int):=
 (bg a c).bind λb=>
 if (decide (b<0)) then
  some (a,0,9)
 else
 (ez a b (⟨2,0,0⟩:c8)).bind λv2=>
 (ix a b).bind λv3=>
 some (v2,v3.Val,0)
def jU(c:List c8)(g:Int)(n:Int):Option ((List c8) × Int):=
 (bg c g).bind λo=>
 if (decide (o>=0)) then
  (ez c o (⟨1,g,n⟩:c8)).bind λv2=>
  some (v2,0)
 else
 jn (λ(_:Unit)=>
  some (c,8)) (λf=>
  (jy (c.length:Int) g).bind λa=>
  (lp (E:=((List c8) × Int) ⊕ Unit) (λ(b:Int)=>
   if (decide (b<a.1)) then
    (cD a.1 a.2).bind λj=>
    (rem (z8 (j+b)) a.1).bind λe=>
    (ix c e).bind λk=>
    if (k.State != 1) then
     (ez c e (⟨1,g,n⟩:c8)).bind λm=>
     some (.inr (.inl (m,0)))
    else
    some (.inl (z8 (b+1)))
   else
   some (.inr (.inr ()))) 0).bind λi=>
  match i with
  | .inl w=>some w
  | .inr w=>f w)
def V0(a:List c8)(b:Int)(c:Int):Option ((List c8) × Int × Int):=
 if (b==0) then
  some (a,0,2)
 else
 (Q5 a b).bind λe=>
 if (c==0) then
  (bf a b).bind λv2=>
  some (v2.1,e.1,0)
 else
 (jU a b c).bind λv3=>
 if (v3.2 != 0) then
  some (a,0,v3.2)
 else
 some (v3.1,e.1,0)
def aI(b:M0)(a:b7):Option b7:=
 some (⟨a.S,a.Roots,a.a8,b.t,a.Q⟩:b7)
def N4(a:b7)(b:Int)(c:Int)(e:M0):Option b7:=
 (bR a c).bind λf=>
 (aI e f).bind λv2=>
 (F9 v2 b).bind λv3=>
 some v3
def eC(a:b7)(b:Int)(c:Int):Option (b7 × Int):=
 if (b==0) then
  some (a,2)
 else
 (P7 a b).bind λe=>
 (B8 ((!e)==false) false (P7 a c)).bind λv2=>
 if ((!e)||(!v2)) then
  some (a,3)
 else
 (V0 a.T b c).bind λv3=>
 if (v3.2.2 != 0) then
  some (a,v3.2.2)
 else
 (N4 a v3.2.1 c (⟨v3.1⟩:M0)).bind λf=>
 some (f,0)
def bJ(a:y5):Option (b7 × Int):=
 (Q6 a.x a.o.A).bind λb=>
 if (b.2 != 0) then
  some (a.x,b.2)
 else
 (P9 a.x a.o.B).bind λv2=>
 (eC a.x b.1 v2).bind λv3=>
 some (v3.1,v3.2)
def xc(b:List c8)(c:Int):Option (Int × Int):=
 (Q5 b c).bind λa=>
 some (a.1,a.2)
def cG(a:y5):Option (b7 × Int):=
 (Q6 a.x a.o.B).bind λb=>
 if (b.2 != 0) then
  some (a.x,b.2)
 else
 (xc a.x.T b.1).bind λv2=>
 (E5 a v2.1 v2.2).bind λv3=>
 some (v3.1,v3.2)
def V8(a:y5):Option (b7 × Int):=
 some (a.x,0)
def AD(f:Fv)(a:y5):Option (b7 × Int):=
 if f=some 97 then Z6 a else
 if f=some 98 then M4 a else
 if f=some 99 then bH a else
 if f=some 100 then bI a else
 if f=some 101 then aJ a else
 if f=some 102 then Z7 a else
 if f=some 103 then aU a else
 if f=some 104 then bJ a else
 if f=some 105 then cG a else
 if f=some 106 then V8 a else
 none
def eH(o:b7):Option (List Int):=
 jn (λ(j:List Int)=>
  some j) (λg=>
  (H0 o.S).bind λe=>
  (lp (E:=(List Int)) (λ((b,c):Int × (List Int))=>
   if (decide (b<(e.length:Int))) then
    jn (λ(k:List Int)=>
     some (.inl (z8 (b+1),k))) (λa=>
     (ix e b).bind λf=>
     (B3 o.S f).bind λm=>
     if (m.1.Strong==0) then
      (app 8 c [f]).bind λn=>
      a n
     else
     a c)
   else
   some (.inr c)) (0,[])).bind λi=>
  g i)
def Q7(a:u0):Option Bool:=
 some ((decide (a.Prog>=0))&&(!a.Started))
def N2(a:n0):Option Int:=
 some (a.L.length:Int)
def I8(a:List p8)(b:Int)(c:Int):Option (List p8):=
 (cut a b c).bind λe=>
 some e
def X9(a:n0)(c:p8):Option (n0 × Int):=
 (N2 a).bind λb=>
 if (decide (b>=a.Cap)) then
  some (a,4)
 else
 (I8 a.L 0 b).bind λv2=>
 (app 24 v2 [c]).bind λv3=>
 some ((⟨v3,a.Cap⟩:n0),0)
def rn(b:n0)(c:p8):Option (n0 × Int):=
 (X9 b c).bind λa=>
 some (a.1,a.2)
def Z1(b:b7)(c:Int):Option b7:=
 (B3 b.S c).bind λa=>
 (B8 ((a.2 != 0)==false) false (Q7 a.1)).bind λv2=>
 if ((a.2 != 0)||(!v2)) then
  some b
 else
 (O8 b.S c (⟨a.1.Serial,a.1.Strong,a.1.Weak,a.1.Prog,true,a.1.Fields⟩:u0)).bind λv3=>
 (rn b.Q (⟨1,c,a.1.Prog⟩:p8)).bind λe=>
 (bR (⟨v3.1,b.Roots,b.a8,b.T,e.1⟩:b7) c).bind λf=>
 some f
def az(q:b7)(p:List Int):Option (List Int):=
 jn (λ(j:List Int)=>
  some j) (λg=>
  (lp (E:=(List Int)) (λ((f,b,c):Int × (List (Int × Bool)) × (List Int))=>
   if (decide (f<(p.length:Int))) then
    jn (λ((k,m):(List Int) × (List (Int × Bool)))=>
     some (.inl (z8 (f+1),m,k))) (λa=>
     (ix p f).bind λe=>
     (B3 q.S e).bind λn=>
     if ((n.2==0)==true) then
      if (!((C0 b e).getD (false:Bool))) then
       (app 8 c [e]).bind λo=>
       a (o,(r7 b e true))
      else
      a (c,b)
     else
     a (c,b))
   else
   some (.inr c)) (0,[],[])).bind λi=>
  g i)
def Y1(e:List Int)(f:Int):Option Int:=
 jn (λ(_:Unit)=>
  some (-1)) (λc=>
  (lp (E:=Int ⊕ Unit) (λ(a:Int)=>
   if (decide (a<(e.length:Int))) then
    (ix e a).bind λb=>
    if (f==b) then
     some (.inr (.inl a))
    else
    some (.inl (z8 (a+1)))
   else
   some (.inr (.inr ()))) 0).bind λg=>
  match g with
  | .inl w=>some w
  | .inr w=>c w)
def I3(a:List Int)(b:Int):Option Bool:=
 (Y1 a b).bind λc=>
 some (decide (c>=0))
def cT(a:l7)(b:List Int):Option Bool:=
 (B8 ((a.Intact&&(a.Target != 0))==true) false (I3 b a.Target)).bind λc=>
 some ((a.Intact&&(a.Target != 0))&&c)
def N8(n:List l7)(o:List Int):Option (List Int):=
 jn (λ(g:List Int)=>
  some g) (λe=>
  (lp (E:=(List Int)) (λ((a,c):Int × (List Int))=>
   if (decide (a<(n.length:Int))) then
    jn (λ(i:List Int)=>
     some (.inl (z8 (a+1),i))) (λb=>
     (ix n a).bind λj=>
     (cT j o).bind λk=>
     if k then
      (app 8 c [a]).bind λm=>
      b m
     else
     b c)
   else
   some (.inr c)) (0,[])).bind λf=>
  e f)
def kB(r:List l7)(t:List Int):Option ((List l7) × (List Int)):=
 (N8 r t).bind λs=>
 (cq r).bind λv2=>
 jn (λ((k,m):(List Int) × (List l7))=>
  some (m,k)) (λi=>
  (lp (E:=((List Int) × (List l7))) (λ((f,c,g):Int × (List l7) × (List Int))=>
   if (decide (f<(s.length:Int))) then
    jn (λ((n,o):(List Int) × (List l7))=>
     some (.inl (z8 (f+1),o,n))) (λe=>
     (ix s f).bind λa=>
     (ix c a).bind λb=>
     (ix (c.set (a).toNat (⟨b.Target,false,b.Call⟩:l7)) a).bind λp=>
     if (decide (p.Call>=0)) then
      (app 8 g [a]).bind λq=>
      e (q,(c.set (a).toNat (⟨b.Target,false,b.Call⟩:l7)))
     else
     e (g,(c.set (a).toNat (⟨b.Target,false,b.Call⟩:l7))))
   else
   some (.inr (g,c))) (0,v2,[])).bind λj=>
  i j)
def fK(b:b7)(n:List Int):Option b7:=
 (kB b.a8 n).bind λg=>
 jn (λ(j:n0)=>
  some (⟨b.S,b.Roots,g.1,b.T,j⟩:b7)) (λf=>
  (lp (E:=n0) (λ((a,c):Int × n0)=>
   if (decide (a<(g.2.length:Int))) then
    (ix g.2 a).bind λe=>
    (ix g.1 e).bind λk=>
    (rn c (⟨2,e,k.Call⟩:p8)).bind λm=>
    some (.inl (z8 (a+1),m.1))
   else
   some (.inr c)) (0,b.Q)).bind λi=>
  f i)
def sF(a:List Int):Option (List Int):=
 some a
def jG(k:List Int):Option (List Int):=
 jn (λ(g:List Int)=>
  some g) (λj=>
  (sF k).bind λc=>
  (lp (E:=(List Int)) (λ((a,b):Int × (List Int))=>
   if (decide (a<(c.length:Int))) then
    (ix c a).bind λe=>
    if ((e != 0)==true) then
     (app 8 b [e]).bind λi=>
     some (.inl (z8 (a+1),i))
    else
    some (.inl (z8 (a+1),b))
   else
   some (.inr b)) (0,[])).bind λf=>
  j f)
def ba(r:List c8)(q:List Int):Option ((List c8) × (List Int)):=
 jn (λ((j,k):(List c8) × (List Int))=>
  some (j,k)) (λg=>
  (lp (E:=((List c8) × (List Int))) (λ((b,c,e):(List c8) × Int × (List Int))=>
   if (decide (c<(q.length:Int))) then
    jn (λ((m,n):(List c8) × (List Int))=>
     some (.inl (m,z8 (c+1),n))) (λa=>
     (ix q c).bind λo=>
     (bf b o).bind λf=>
     if (f.2.2==0) then
      (app 8 e [f.2.1]).bind λp=>
      a (f.1,p)
     else
     a (b,e))
   else
   some (.inr (b,e))) (r,0,[])).bind λi=>
  g i)
def Z8(a:l4)(b:Int):Option (l4 × Int):=
 (F5 a b).bind λc=>
 if (c.2 != 0) then
  some (a,c.2)
 else
 (ig b).bind λv2=>
 (jS b).bind λv3=>
 (G0 a v2 (⟨2,v3,c.1⟩:c5)).bind λe=>
 some (e,0)
def bk(a:b7)(c:Int):Option b7:=
 (B3 a.S c).bind λb=>
 (O8 a.S c (⟨b.1.Serial,0,b.1.Weak,b.1.Prog,b.1.Started,[]⟩:u0)).bind λv2=>
 (Z8 v2.1.S c).bind λv3=>
 if (b.1.Weak==0) then
  (U0 v3.1 c).bind λe=>
  some (⟨⟨e.1,v2.1.Serial⟩,a.Roots,a.a8,a.T,a.Q⟩:b7)
 else
 some (⟨⟨v3.1,v2.1.Serial⟩,a.Roots,a.a8,a.T,a.Q⟩:b7)
def cg(C:b7)(F:List Int):Option b7:=
 (az C F).bind λe=>
 (fK C e).bind λv2=>
 jn (λ(s:List Int)=>
  (ba v2.T e).bind λj=>
  (app 8 s j.2).bind λk=>
  jn (λ(t:b7)=>
   jn (λ(u:b7)=>
    some u) (λo=>
    (lp (E:=b7) (λ((a,f):Int × b7)=>
     if (decide (a<(k.length:Int))) then
      (ix k a).bind λv=>
      (F9 f v).bind λw=>
      some (.inl (z8 (a+1),w))
     else
     some (.inr f)) (0,t)).bind λp=>
    o p)) (λn=>
   (lp (E:=b7) (λ((b,g):Int × b7)=>
    if (decide (b<(e.length:Int))) then
     (ix e b).bind λx=>
     (bk g x).bind λy=>
     some (.inl (z8 (b+1),y))
    else
    some (.inr g)) (0,(⟨v2.S,v2.Roots,v2.a8,j.1,v2.Q⟩:b7))).bind λq=>
   n q)) (λm=>
  (lp (E:=(List Int)) (λ((c,i):Int × (List Int))=>
   if (decide (c<(e.length:Int))) then
    (ix e c).bind λz=>
    (B3 v2.S z).bind λh=>
    (jG h.1.Fields).bind λA=>
    (app 8 i A).bind λB=>
    some (.inl (z8 (c+1),B))
   else
   some (.inr i)) (0,[])).bind λr=>
  m r)
def U9(e:b7):Option b7:=
 (lp (E:=b7) (λ(s2:b7)=>
  (eH s2).bind λb=>
  if ((b.length:Int)==0) then
   some (.inr s2)
  else
  (ix b 0).bind λc=>
  (B3 s2.S c).bind λg=>
  (Q7 g.1).bind λi=>
  if i then
   (Z1 s2 c).bind λj=>
   some (.inl j)
  else
  (cut b 0 1).bind λk=>
  (cg s2 k).bind λa=>
  some (.inl a)) e).bind λf=>
 some f
def ar(c:b7)(e:b7)(a:l6):Option Int:=
 if (a.Kind==5) then
  (bS c a.C).bind λg=>
  some g
 else
 jn (λ(f:Bool)=>
  if f then
   (bS c a.B).bind λi=>
   some i
  else
  if (a.Kind==10) then
   (P9 c a.A).bind λj=>
   (P9 c a.B).bind λk=>
   if (j==k) then
    some 1
   else
   some 0
  else
  (bS e a.A).bind λm=>
  some m) (λb=>
  if (a.Kind==6) then
   b (a.Kind==6)
  else
  b (a.Kind==8))
def A8(b:b7)(a:l6):Option (b7 × Int × Int):=
 (Y6 a).bind λc=>
 if (c != 0) then
  some (b,0,c)
 else
 (gQ).bind λv2=>
 if (!((C0 v2 a.Kind).isSome)) then
  some (b,0,14)
 else
 (AD ((C0 v2 a.Kind).getD (none:Fv)) (⟨b,a⟩:y5)).bind λv3=>
 if (v3.2 != 0) then
  some (b,0,v3.2)
 else
 (U9 v3.1).bind λe=>
 (ar v3.1 e a).bind λf=>
 some (e,f,0)
def ph(a:a7):Option a7:=
 some a
def nr(a:a7)(b:Int):Option (List Int):=
 (B3 a b).bind λc=>
 (jG c.1.Fields).bind λv2=>
 some v2
def AU(u:a7)(v:Int):Option Int:=
 jn (λ(p:Int)=>
  some p) (λk=>
  (ph u).bind λg=>
  (H0 g).bind λi=>
  (lp (E:=Int) (λ((b,f):Int × Int)=>
   if (decide (b<(i.length:Int))) then
    jn (λ(q:Int)=>
     some (.inl (z8 (b+1),q))) (λm=>
     (ix i b).bind λs=>
     (nr g s).bind λj=>
     (lp (E:=Int) (λ((c,e):Int × Int)=>
      if (decide (c<(j.length:Int))) then
       (ix j c).bind λt=>
       jn (λ(r:Int)=>
        some (.inl (z8 (c+1),r))) (λa=>
        if (t==v) then
         a (z8 (e+1))
        else
        a e)
      else
      some (.inr e)) (0,f)).bind λo=>
     m o)
   else
   some (.inr f)) (0,0)).bind λn=>
  k n)
def ef(a:List c8):Option (List c8):=
 some a
def mA(m:List c8):Option (List Int):=
 jn (λ(i:List Int)=>
  some i) (λf=>
  (lp (E:=(List Int)) (λ((b,c):Int × (List Int))=>
   if (decide (b<(m.length:Int))) then
    jn (λ(j:List Int)=>
     some (.inl (z8 (b+1),j))) (λa=>
     (ix m b).bind λe=>
     if (e.State==1) then
      (app 8 c [e.Key]).bind λk=>
      a k
     else
     a c)
   else
   some (.inr c)) (0,[])).bind λg=>
  f g)
def gM(b:w7)(a:Int):Option Bool:=
 some ((a != 0)&&(b.Val==a))
def E0(p:List c8)(q:Int):Option (List w7):=
 jn (λ(k:List w7)=>
  some k) (λi=>
  (mA p).bind λf=>
  (lp (E:=(List w7)) (λ((b,c):Int × (List w7))=>
   if (decide (b<(f.length:Int))) then
    (ix f b).bind λe=>
    (Q5 p e).bind λg=>
    jn (λ(m:List w7)=>
     some (.inl (z8 (b+1),m))) (λa=>
     (gM (⟨e,g.1⟩:w7) q).bind λn=>
     if n then
      (app 16 c [(⟨e,g.1⟩:w7)]).bind λo=>
      a o
     else
     a c)
   else
   some (.inr c)) (0,[])).bind λj=>
  i j)
def kW(a:List c8)(b:Int):Option Int:=
 (ef a).bind λc=>
 (E0 c b).bind λv2=>
 some (v2.length:Int)
def lD(b:a7)(c:List c8)(a:Int):Option Int:=
 (AU b a).bind λe=>
 (kW c a).bind λv2=>
 some (z8 (e+v2))
def pE(a:a7)(e:List c8)(b:Int):Option Int:=
 (B3 a b).bind λc=>
 if (c.2 != 0) then
  some 0
 else
 (lD a e b).bind λv2=>
 some (z8 (c.1.Strong-v2))
def qo(a:Int):Option Bool:=
 (J8 a).bind λb=>
 some b
def pD(b:Int)(c:u0)(e:a7)(f:List c8):Option Bool:=
 (pE e f b).bind λa=>
 (B8 ((decide (a > 0))==false) false (qo c.Strong)).bind λv2=>
 some ((decide (a > 0))||v2)
def pC(j:a7)(s:List c8):Option (List Int):=
 jn (λ(m:List Int)=>
  some m) (λg=>
  jn (λ(n:List Int)=>
   g n) (λi=>
   (H0 j).bind λf=>
   (lp (E:=(List Int)) (λ((b,c):Int × (List Int))=>
    if (decide (b<(f.length:Int))) then
     jn (λ(o:List Int)=>
      some (.inl (z8 (b+1),o))) (λa=>
      (ix f b).bind λe=>
      (B3 j e).bind λp=>
      (pD e p.1 j s).bind λq=>
      if q then
       (app 8 c [e]).bind λr=>
       a r
      else
      a c)
    else
    some (.inr c)) (0,[])).bind λk=>
   i k))
def gS(a:Int):Option o9:=
 some (⟨[],a⟩:o9)
def cL(a:a7)(b:Int):Option Bool:=
 (B3 a b).bind λc=>
 some (c.2==0)
def Q0(a:o9):Option Int:=
 some (a.L.length:Int)
def W0(a:List Int)(b:Int)(c:Int):Option (List Int):=
 (cut a b c).bind λe=>
 some e
def V9(a:o9)(c:Int):Option (o9 × Int):=
 (Q0 a).bind λb=>
 if (decide (b>=a.Cap)) then
  some (a,4)
 else
 (W0 a.L 0 b).bind λv2=>
 (app 8 v2 [c]).bind λv3=>
 some ((⟨v3,a.Cap⟩:o9),0)
def iQ(c:o9)(b:Int):Option (o9 × (List Int)):=
 (Q0 c).bind λa=>
 (W0 c.L 0 (if (if a<b then a else b) > 0 then (if a<b then a else b) else 0)).bind λv2=>
 (W0 c.L (if (if a<b then a else b) > 0 then (if a<b then a else b) else 0) a).bind λv3=>
 some ((⟨v3,c.Cap⟩:o9),v2)
def dw(b:o9):Option (o9 × Int × Int):=
 (iQ b 1).bind λa=>
 if ((a.2.length:Int)==0) then
  some (b,0,10)
 else
 (ix a.2 0).bind λv2=>
 some (a.1,v2,0)
def fG(C:a7)(S:List Int):Option (List (Int × Bool)):=
 (H0 C).bind λT=>
 (gS (T.length:Int)).bind λv2=>
 jn (λ((H,K):o9 × (List (Int × Bool)))=>
  jn (λ(N:List (Int × Bool))=>
   some N) (λA=>
   (lp (E:=(List (Int × Bool))) (λ((s,t):o9 × (List (Int × Bool)))=>
    (Q0 s).bind λR=>
    if (decide (R > 0)) then
     (dw s).bind λy=>
     (nr C y.2.1).bind λz=>
     jn (λ((P,Q):o9 × (List (Int × Bool)))=>
      some (.inl (P,Q))) (λB=>
      (lp (E:=(o9 × (List (Int × Bool)))) (λ((m,k,a):Int × o9 × (List (Int × Bool)))=>
       if (decide (m<(z.length:Int))) then
        jn (λ((o,p):o9 × (List (Int × Bool)))=>
         some (.inl (z8 (m+1),o,p))) (λc=>
         (ix z m).bind λg=>
         (cL C g).bind λu=>
         if (u==true) then
          if (!((C0 a g).getD (false:Bool))) then
           (V9 k g).bind λv=>
           c (v.1,(r7 a g true))
          else
          c (k,a)
         else
         c (k,a))
       else
       some (.inr (k,a))) (0,y.1,t)).bind λG=>
      B G)
    else
    some (.inr t)) (H,K)).bind λF=>
   A F)) (λh=>
  (lp (E:=(o9 × (List (Int × Bool)))) (λ((j,f,b):Int × o9 × (List (Int × Bool)))=>
   if (decide (j<(S.length:Int))) then
    jn (λ((q,r):o9 × (List (Int × Bool)))=>
     some (.inl (z8 (j+1),q,r))) (λe=>
     (ix S j).bind λi=>
     (cL C i).bind λw=>
     if (w==true) then
      if (!((C0 b i).getD (false:Bool))) then
       (V9 f i).bind λx=>
       e (x.1,(r7 b i true))
      else
      e (f,b)
     else
     e (f,b))
   else
   some (.inr (f,b))) (0,v2,[])).bind λn=>
  h n)
def js(a:Int)(b:List (Int × Bool)):Option Bool:=
 some ((C0 b a).getD (false:Bool))
def Y9(o:a7)(p:List (Int × Bool)):Option (List Int):=
 jn (λ(j:List Int)=>
  some j) (λg=>
  (H0 o).bind λe=>
  (lp (E:=(List Int)) (λ((b,c):Int × (List Int))=>
   if (decide (b<(e.length:Int))) then
    jn (λ(k:List Int)=>
     some (.inl (z8 (b+1),k))) (λa=>
     (ix e b).bind λf=>
     (js f p).bind λm=>
     if m then
      (app 8 c [f]).bind λn=>
      a n
     else
     a c)
   else
   some (.inr c)) (0,[])).bind λi=>
  g i)
def ki(a:a7)(b:List Int):Option (List Int):=
 (fG a b).bind λc=>
 (Y9 a c).bind λv2=>
 some v2
def gN(a:w7):Option Bool:=
 some true
def E1(p:List c8):Option (List w7):=
 jn (λ(k:List w7)=>
  some k) (λi=>
  (mA p).bind λf=>
  (lp (E:=(List w7)) (λ((b,c):Int × (List w7))=>
   if (decide (b<(f.length:Int))) then
    (ix f b).bind λe=>
    (Q5 p e).bind λg=>
    jn (λ(m:List w7)=>
     some (.inl (z8 (b+1),m))) (λa=>
     (gN (⟨e,g.1⟩:w7)).bind λn=>
     if n then
      (app 16 c [(⟨e,g.1⟩:w7)]).bind λo=>
      a o
     else
     a c)
   else
   some (.inr c)) (0,[])).bind λj=>
  i j)
def kX(a:List c8):Option (List w7):=
 (ef a).bind λb=>
 (E1 b).bind λv2=>
 some v2
def jQ(a:Int)(b:a7):Option Bool:=
 (B3 b a).bind λc=>
 some (c.2==0)
def uR(q:a7)(r:List c8)(s:List Int):Option (List Int):=
 jn (λ(m:List Int)=>
  some m) (λj=>
  (kX r).bind λg=>
  (lp (E:=(List Int)) (λ((c,e):Int × (List Int))=>
   if (decide (c<(g.length:Int))) then
    jn (λ(n:List Int)=>
     some (.inl (z8 (c+1),n))) (λb=>
     (ix g c).bind λa=>
     (I3 s a.Key).bind λf=>
     (B8 (f==true) false (jQ a.Key q)).bind λi=>
     (B8 ((f&&i)==true) false (jQ a.Val q)).bind λo=>
     if ((f&&i)&&o) then
      (app 8 e [a.Val]).bind λp=>
      b p
     else
     b e)
   else
   some (.inr e)) (0,[])).bind λk=>
  j k)
def rH(e:a7)(o:List c8)(p:List Int):Option ((List Int) × Int):=
 (ki e p).bind λr=>
 (lp (E:=((List Int) × Int)) (λ((c,n):(List Int) × Int)=>
  (uR e o c).bind λm=>
  jn (λ(_:Unit)=>
   some (.inr (c,n))) (λb=>
   (lp (E:=((List Int) × Int) ⊕ Unit) (λ(a:Int)=>
    if (decide (a<(m.length:Int))) then
     (ix m a).bind λg=>
     (I3 c g).bind λi=>
     if (!i) then
      (app 8 m c).bind λj=>
      (ki e j).bind λk=>
      some (.inr (.inl (k,z8 (n+1))))
     else
     some (.inl (z8 (a+1)))
    else
    some (.inr (.inr ()))) 0).bind λf=>
   match f with
   | .inl w=>some (.inl w)
   | .inr w=>b w)) (r,0)).bind λq=>
 some q
def uQ(a:a7)(b:List c8)(c:List Int):Option (List Int):=
 (rH a b c).bind λe=>
 some e.1
def jt(a:Int)(b:List (Int × Bool)):Option Bool:=
 some (!((C0 b a).getD (false:Bool)))
def Z0(o:a7)(p:List (Int × Bool)):Option (List Int):=
 jn (λ(j:List Int)=>
  some j) (λg=>
  (H0 o).bind λe=>
  (lp (E:=(List Int)) (λ((b,c):Int × (List Int))=>
   if (decide (b<(e.length:Int))) then
    jn (λ(k:List Int)=>
     some (.inl (z8 (b+1),k))) (λa=>
     (ix e b).bind λf=>
     (jt f p).bind λm=>
     if m then
      (app 8 c [f]).bind λn=>
      a n
     else
     a c)
   else
   some (.inr c)) (0,[])).bind λi=>
  g i)
def pf(a:a7)(b:List Int):Option (List Int):=
 (fG a b).bind λc=>
 (Z0 a c).bind λv2=>
 some v2
def qt(a:a7)(b:List c8)(c:List Int):Option (List Int):=
 (uQ a b c).bind λe=>
 (pf a e).bind λv2=>
 some v2
def dB(a:a7)(b:List c8):Option (List Int):=
 (pC a b).bind λc=>
 (qt a b c).bind λv2=>
 some v2
def W9(a:b7):Option (List Int):=
 (dB a.S a.T).bind λb=>
 some b
def iI(b:Int)(c:b7):Option Bool:=
 (B3 c.S b).bind λa=>
 some ((decide (a.1.Prog>=0))&&(!a.1.Started))
def L4(n:List Int)(o:b7):Option (List Int):=
 jn (λ(i:List Int)=>
  some i) (λf=>
  (lp (E:=(List Int)) (λ((b,c):Int × (List Int))=>
   if (decide (b<(n.length:Int))) then
    jn (λ(j:List Int)=>
     some (.inl (z8 (b+1),j))) (λa=>
     (ix n b).bind λe=>
     (iI e o).bind λk=>
     if k then
      (app 8 c [e]).bind λm=>
      a m
     else
     a c)
   else
   some (.inr c)) (0,[])).bind λg=>
  f g)
def gL(a:b7):Option (List Int):=
 (W9 a).bind λb=>
 (L4 b a).bind λv2=>
 some v2
def aQ(q:b7):Option (b7 × Int × Int):=
 (gL q).bind λf=>
 jn (λ(a:b7)=>
  if (decide ((f.length:Int) > 0)) then
   some (a,(f.length:Int),0)
  else
  (W9 a).bind λi=>
  (cg a i).bind λj=>
  (U9 j).bind λe=>
  (H0 a.S).bind λk=>
  (H0 e.S).bind λm=>
  some (e,0,z8 ((k.length:Int)-(m.length:Int)))) (λp=>
  (lp (E:=b7) (λ((b,c):Int × b7)=>
   if (decide (b<(f.length:Int))) then
    (ix f b).bind λn=>
    (Z1 c n).bind λo=>
    some (.inl (z8 (b+1),o))
   else
   some (.inr c)) (0,q)).bind λg=>
  p g)
def bw(c:n0)(b:Int):Option (n0 × (List p8)):=
 (N2 c).bind λa=>
 (I8 c.L 0 (if (if a<b then a else b) > 0 then (if a<b then a else b) else 0)).bind λv2=>
 (I8 c.L (if (if a<b then a else b) > 0 then (if a<b then a else b) else 0) a).bind λv3=>
 some ((⟨v3,c.Cap⟩:n0),v2)
def dc(b:n0):Option (n0 × p8 × Int):=
 (bw b 1).bind λa=>
 if ((a.2.length:Int)==0) then
  some (b,(⟨0,0,0⟩:p8),10)
 else
 (ix a.2 0).bind λv2=>
 some (a.1,v2,0)
def eI(b:n0):Option (n0 × p8 × Int):=
 (dc b).bind λa=>
 some (a.1,a.2.1,a.2.2)
def hU(a:b7):Option Bool:=
 (eI a.Q).bind λb=>
 some (b.2.2 != 0)
def jO(b:List (List l6))(a:Int):Option (List l6):=
 if ((decide (a<0))||(decide (a>=(b.length:Int)))) then
  some []
 else
 (ix b a).bind λc=>
 some c
def ot(a:List (List l6))(b:p8):Option Int:=
 (jO a b.Prog).bind λc=>
 some (z8 (1+(c.length:Int)))
def ij(o:b7)(n:List l6):Option (b7 × (List Int)):=
 jn (λ((i,j):b7 × (List Int))=>
  some (i,j)) (λf=>
  (lp (E:=(b7 × (List Int))) (λ((a,b,c):Int × b7 × (List Int))=>
   if (decide (a<(n.length:Int))) then
    (ix n a).bind λk=>
    (A8 b k).bind λe=>
    (app 8 c [e.2.1]).bind λm=>
    some (.inl (z8 (a+1),e.1,m))
   else
   some (.inr (b,c))) (0,o,[])).bind λg=>
  f g)
def ou(b:b7)(k:List (List l6)):Option (b7 × p8 × Int):=
 (eI b.Q).bind λa=>
 if (a.2.2 != 0) then
  some (b,(⟨0,0,0⟩:p8),a.2.2)
 else
 jn (λ(m:b7)=>
  (jO k a.2.1.Prog).bind λn=>
  (ij m n).bind λj=>
  if (a.2.1.Kind==1) then
   (cE j.1 5 0).bind λo=>
   (U9 o.1).bind λe=>
   some (e,a.2.1,0)
  else
  some (j.1,a.2.1,0)) (λc=>
  if (a.2.1.Kind==1) then
   (cE (⟨b.S,b.Roots,b.a8,b.T,a.1⟩:b7) 5 a.2.1.At).bind λf=>
   (F9 f.1 a.2.1.At).bind λg=>
   (U9 g).bind λi=>
   c i
  else
  c (⟨b.S,b.Roots,b.a8,b.T,a.1⟩:b7))
def gZ(s:b7)(t:List (List l6))(u:Int):Option (b7 × Int × Int × Int):=
 jn (λ((g,i,a):Int × Int × b7)=>
  (hU a).bind λp=>
  if (!p) then
   some (a,g,i,12)
  else
  some (a,g,i,0)) (λn=>
  (lp (E:=(Int × Int × b7)) (λ((b,c,e,j,k):Int × b7 × Int × Int × b7)=>
   (hU c).bind λq=>
   if (!q) then
    (eI c.Q).bind λr=>
    (ot t r.2.1).bind λf=>
    if (decide (f > b)) then
     some (.inr (e,j,k))
    else
    (ou c t).bind λm=>
    some (.inl (z8 (b-f),m.1,z8 (e+1),z8 (b-f),m.1))
   else
   some (.inr (e,j,k))) (u,s,0,u,s)).bind λo=>
  n o)
def rF(a:A2)(f:List Int):Option (A2 × F4):=
 (aB f).bind λb=>
 if (b.2 != 0) then
  some (a,(⟨0,b.2⟩:F4))
 else
 (ov b.1).bind λv2=>
 if (decide (v2.t=99)) then
  (A8 a.X (⟨(KN v2 99 0),(KN v2 99 1),(KN v2 99 2),(KN v2 99 3)⟩:l6)).bind λv3=>
  some ((⟨v3.1,a.Progs⟩:A2),(⟨v3.2.1,v3.2.2⟩:F4))
 else
 if (decide (v2.t=103)) then
  (aQ a.X).bind λc=>
  some ((⟨c.1,a.Progs⟩:A2),(⟨z8 (c.2.2-c.2.1),0⟩:F4))
 else
 if (decide (v2.t=107)) then
  (gZ a.X a.Progs (KN v2 107 0)).bind λe=>
  some ((⟨e.1,a.Progs⟩:A2),(⟨e.2.1,e.2.2.2⟩:F4))
 else
 some (a,(⟨0,0⟩:F4))
def cy(a:F4):Option ByteArray:=
 if (a.E != 0) then
  (D6 a.E).bind λb=>
  some b
 else
 (nB a.V).bind λv2=>
 some v2
def Z5(a:k7)(e:Int)(f:List Int):Option (k7 × ByteArray):=
 (mk 8 4 (0:Int)).bind λb=>
 (ix b 0).bind λv2=>
 (Iu (b.set (0:Int).toNat e) 1 f).bind λv3=>
 (rF a.g v3).bind λc=>
 (cy c.2).bind λi=>
 some ((⟨c.1,a.begun,a.progs⟩:k7),i)
def T9(b:k7)(c:List Int)(e:Int):Option (k7 × ByteArray):=
 (Z5 b e c).bind λa=>
 some (a.1,a.2)
def rL(f:Fw)(a:k7)(b:List Int):Option (k7 × ByteArray):=
 match f with
 | none=>none
 | some (n,none)=>
  if n=76 then R3 a b else
  if n=78 then Q4 a b else
  if n=80 then O0 a b else
  if n=81 then O1 a b else
  if n=82 then W5 a b else
  none
 | some (n,some c)=>
  if n=138 then T9 a b c else
  none
def G2(a:k7)(c:List ByteArray):Option (k7 × ByteArray):=
 (gn).bind λb=>
 (ix c 0).bind λv2=>
 (cut c 1 (c.length:Int)).bind λv3=>
 (bD v3).bind λf=>
 if (((!((C0 b v2).isSome))||(!f.2))==false) then
  (rK (((C0 b v2).getD (⟨none,none,false⟩:l5)).takes) (f.1.length:Int)).bind λi=>
  if (!i) then
   (D6 33).bind λj=>
   some (a,j)
  else
  if ((!a.begun)&&(!(((C0 b v2).getD (⟨none,none,false⟩:l5)).early))) then
   some (a,(r9 [110,111,32,104,101,97,112]))
  else
  (rL (((C0 b v2).getD (⟨none,none,false⟩:l5)).run) a f.1).bind λg=>
  some (g.1,g.2)
 else
 (D6 33).bind λe=>
 some (a,e)
def dm(r:ByteArray):Option (List ByteArray):=
 jn (λ(m:List ByteArray)=>
  some m) (λj=>
  (xU r (r9 [10])).bind λf=>
  (lp (E:=(List ByteArray)) (λ((b,e,c):Int × k7 × (List ByteArray))=>
   if (decide (b<(f.length:Int))) then
    jn (λ((n,o):k7 × (List ByteArray))=>
     some (.inl (z8 (b+1),n,o))) (λa=>
     (ix f b).bind λp=>
     (G6 p).bind λg=>
     if ((g.length:Int)==0) then
      a (e,c)
     else
     (G2 e g).bind λi=>
     (app 16 c [i.2]).bind λq=>
     a (i.1,q))
   else
   some (.inr c)) (0,(⟨⟨⟨⟨⟨[],0⟩,0⟩,[],[],[],⟨[],0⟩⟩,[]⟩,false,[]⟩:k7),[])).bind λk=>
  j k)
def sH:Option Bool:=
 (dm (r9 [108,105,118,101,115,10,112,114,111,103,32,48,32,50,32,50,32,53,32,48,10,104,101,97,112,32,51,32,53,32,56,10,110,101,119,32,48,32,49,32,48,10,115,116,111,114,101,32,48,32,48,32,48,10,10,119,101,97,107,32,49,32,48,32,45,49,10,32,100,114,111,112,32,48,32,10,99,111,108,108,101,99,116,10,100,114,97,105,110,32,57,10,114,111,111,116,115,10,108,105,118,101,115,10,100,114,111,112,32,50,10,99,111,108,108,101,99,116,10,116,97,108,108,121,10,117,112,32,48,32,49,10,104,101,97,112,32,48,32,48,32,48,10,112,114,111,103,32,54,10,110,101,119,32,48,10,102,108,121])).bind λa=>
 (B8 (((a.length:Int)==19)==true) (ByteArray.empty:ByteArray) (ix a 0)).bind λv2=>
 (B8 ((((a.length:Int)==19)&&(v2.toList==(r9 [110,111,32,104,101,97,112]).toList))==true) (ByteArray.empty:ByteArray) (ix a 1)).bind λv3=>
 (B8 (((((a.length:Int)==19)&&(v2.toList==(r9 [110,111,32,104,101,97,112]).toList))&&(v3.toList==(r9 [111,107]).toList))==true) (ByteArray.empty:ByteArray) (ix a 2)).bind λg=>
 (B8 ((((((a.length:Int)==19)&&(v2.toList==(r9 [110,111,32,104,101,97,112]).toList))&&(v3.toList==(r9 [111,107]).toList))&&(g.toList==(r9 [111,107]).toList))==true) (ByteArray.empty:ByteArray) (ix a 3)).bind λi=>
 (B8 (((((((a.length:Int)==19)&&(v2.toList==(r9 [110,111,32,104,101,97,112]).toList))&&(v3.toList==(r9 [111,107]).toList))&&(g.toList==(r9 [111,107]).toList))&&(i.toList==(r9 [49]).toList))==true) (ByteArray.empty:ByteArray) (ix a 4)).bind λk=>
 (B8 ((((((((a.length:Int)==19)&&(v2.toList==(r9 [110,111,32,104,101,97,112]).toList))&&(v3.toList==(r9 [111,107]).toList))&&(g.toList==(r9 [111,107]).toList))&&(i.toList==(r9 [49]).toList))&&(k.toList==(r9 [49]).toList))==true) (ByteArray.empty:ByteArray) (ix a 5)).bind λm=>
 (B8 (((((((((a.length:Int)==19)&&(v2.toList==(r9 [110,111,32,104,101,97,112]).toList))&&(v3.toList==(r9 [111,107]).toList))&&(g.toList==(r9 [111,107]).toList))&&(i.toList==(r9 [49]).toList))&&(k.toList==(r9 [49]).toList))&&(m.toList==(r9 [49]).toList))==true) (ByteArray.empty:ByteArray) (ix a 6)).bind λo=>
 (B8 ((((((((((a.length:Int)==19)&&(v2.toList==(r9 [110,111,32,104,101,97,112]).toList))&&(v3.toList==(r9 [111,107]).toList))&&(g.toList==(r9 [111,107]).toList))&&(i.toList==(r9 [49]).toList))&&(k.toList==(r9 [49]).toList))&&(m.toList==(r9 [49]).toList))&&(o.toList==(r9 [48]).toList))==true) (ByteArray.empty:ByteArray) (ix a 7)).bind λp=>
 (B8 (((((((((((a.length:Int)==19)&&(v2.toList==(r9 [110,111,32,104,101,97,112]).toList))&&(v3.toList==(r9 [111,107]).toList))&&(g.toList==(r9 [111,107]).toList))&&(i.toList==(r9 [49]).toList))&&(k.toList==(r9 [49]).toList))&&(m.toList==(r9 [49]).toList))&&(o.toList==(r9 [48]).toList))&&(p.toList==(r9 [45,49]).toList))==true) (ByteArray.empty:ByteArray) (ix a 8)).bind λb=>
 (B8 ((((((((((((a.length:Int)==19)&&(v2.toList==(r9 [110,111,32,104,101,97,112]).toList))&&(v3.toList==(r9 [111,107]).toList))&&(g.toList==(r9 [111,107]).toList))&&(i.toList==(r9 [49]).toList))&&(k.toList==(r9 [49]).toList))&&(m.toList==(r9 [49]).toList))&&(o.toList==(r9 [48]).toList))&&(p.toList==(r9 [45,49]).toList))&&(b.toList==(r9 [49]).toList))==true) (ByteArray.empty:ByteArray) (ix a 9)).bind λc=>
 (B8 (((((((((((((a.length:Int)==19)&&(v2.toList==(r9 [110,111,32,104,101,97,112]).toList))&&(v3.toList==(r9 [111,107]).toList))&&(g.toList==(r9 [111,107]).toList))&&(i.toList==(r9 [49]).toList))&&(k.toList==(r9 [49]).toList))&&(m.toList==(r9 [49]).toList))&&(o.toList==(r9 [48]).toList))&&(p.toList==(r9 [45,49]).toList))&&(b.toList==(r9 [49]).toList))&&(c.toList==(r9 [114,111,111,116,115,32,48,32,48,32,49,32,48,32,48,32,48]).toList))==true) (ByteArray.empty:ByteArray) (ix a 10)).bind λe=>
 (B8 ((((((((((((((a.length:Int)==19)&&(v2.toList==(r9 [110,111,32,104,101,97,112]).toList))&&(v3.toList==(r9 [111,107]).toList))&&(g.toList==(r9 [111,107]).toList))&&(i.toList==(r9 [49]).toList))&&(k.toList==(r9 [49]).toList))&&(m.toList==(r9 [49]).toList))&&(o.toList==(r9 [48]).toList))&&(p.toList==(r9 [45,49]).toList))&&(b.toList==(r9 [49]).toList))&&(c.toList==(r9 [114,111,111,116,115,32,48,32,48,32,49,32,48,32,48,32,48]).toList))&&(e.toList==(r9 [108,105,118,101,115,32,49]).toList))==true) (ByteArray.empty:ByteArray) (ix a 11)).bind λf=>
 (B8 (((((((((((((((a.length:Int)==19)&&(v2.toList==(r9 [110,111,32,104,101,97,112]).toList))&&(v3.toList==(r9 [111,107]).toList))&&(g.toList==(r9 [111,107]).toList))&&(i.toList==(r9 [49]).toList))&&(k.toList==(r9 [49]).toList))&&(m.toList==(r9 [49]).toList))&&(o.toList==(r9 [48]).toList))&&(p.toList==(r9 [45,49]).toList))&&(b.toList==(r9 [49]).toList))&&(c.toList==(r9 [114,111,111,116,115,32,48,32,48,32,49,32,48,32,48,32,48]).toList))&&(e.toList==(r9 [108,105,118,101,115,32,49]).toList))&&(f.toList==(r9 [48]).toList))==true) (ByteArray.empty:ByteArray) (ix a 12)).bind λj=>
 (B8 ((((((((((((((((a.length:Int)==19)&&(v2.toList==(r9 [110,111,32,104,101,97,112]).toList))&&(v3.toList==(r9 [111,107]).toList))&&(g.toList==(r9 [111,107]).toList))&&(i.toList==(r9 [49]).toList))&&(k.toList==(r9 [49]).toList))&&(m.toList==(r9 [49]).toList))&&(o.toList==(r9 [48]).toList))&&(p.toList==(r9 [45,49]).toList))&&(b.toList==(r9 [49]).toList))&&(c.toList==(r9 [114,111,111,116,115,32,48,32,48,32,49,32,48,32,48,32,48]).toList))&&(e.toList==(r9 [108,105,118,101,115,32,49]).toList))&&(f.toList==(r9 [48]).toList))&&(j.toList==(r9 [49]).toList))==true) (ByteArray.empty:ByteArray) (ix a 13)).bind λn=>
 (B8 (((((((((((((((((a.length:Int)==19)&&(v2.toList==(r9 [110,111,32,104,101,97,112]).toList))&&(v3.toList==(r9 [111,107]).toList))&&(g.toList==(r9 [111,107]).toList))&&(i.toList==(r9 [49]).toList))&&(k.toList==(r9 [49]).toList))&&(m.toList==(r9 [49]).toList))&&(o.toList==(r9 [48]).toList))&&(p.toList==(r9 [45,49]).toList))&&(b.toList==(r9 [49]).toList))&&(c.toList==(r9 [114,111,111,116,115,32,48,32,48,32,49,32,48,32,48,32,48]).toList))&&(e.toList==(r9 [108,105,118,101,115,32,49]).toList))&&(f.toList==(r9 [48]).toList))&&(j.toList==(r9 [49]).toList))&&(n.toList==(r9 [116,97,108,108,121,32,50,32,48,32,49,32,48]).toList))==true) (ByteArray.empty:ByteArray) (ix a 14)).bind λq=>
 (B8 ((((((((((((((((((a.length:Int)==19)&&(v2.toList==(r9 [110,111,32,104,101,97,112]).toList))&&(v3.toList==(r9 [111,107]).toList))&&(g.toList==(r9 [111,107]).toList))&&(i.toList==(r9 [49]).toList))&&(k.toList==(r9 [49]).toList))&&(m.toList==(r9 [49]).toList))&&(o.toList==(r9 [48]).toList))&&(p.toList==(r9 [45,49]).toList))&&(b.toList==(r9 [49]).toList))&&(c.toList==(r9 [114,111,111,116,115,32,48,32,48,32,49,32,48,32,48,32,48]).toList))&&(e.toList==(r9 [108,105,118,101,115,32,49]).toList))&&(f.toList==(r9 [48]).toList))&&(j.toList==(r9 [49]).toList))&&(n.toList==(r9 [116,97,108,108,121,32,50,32,48,32,49,32,48]).toList))&&(q.toList==(r9 [101,114,114,111,114,32,57]).toList))==true) (ByteArray.empty:ByteArray) (ix a 15)).bind λr=>
 (B8 (((((((((((((((((((a.length:Int)==19)&&(v2.toList==(r9 [110,111,32,104,101,97,112]).toList))&&(v3.toList==(r9 [111,107]).toList))&&(g.toList==(r9 [111,107]).toList))&&(i.toList==(r9 [49]).toList))&&(k.toList==(r9 [49]).toList))&&(m.toList==(r9 [49]).toList))&&(o.toList==(r9 [48]).toList))&&(p.toList==(r9 [45,49]).toList))&&(b.toList==(r9 [49]).toList))&&(c.toList==(r9 [114,111,111,116,115,32,48,32,48,32,49,32,48,32,48,32,48]).toList))&&(e.toList==(r9 [108,105,118,101,115,32,49]).toList))&&(f.toList==(r9 [48]).toList))&&(j.toList==(r9 [49]).toList))&&(n.toList==(r9 [116,97,108,108,121,32,50,32,48,32,49,32,48]).toList))&&(q.toList==(r9 [101,114,114,111,114,32,57]).toList))&&(r.toList==(r9 [101,114,114,111,114,32,49]).toList))==true) (ByteArray.empty:ByteArray) (ix a 16)).bind λs=>
 (B8 ((((((((((((((((((((a.length:Int)==19)&&(v2.toList==(r9 [110,111,32,104,101,97,112]).toList))&&(v3.toList==(r9 [111,107]).toList))&&(g.toList==(r9 [111,107]).toList))&&(i.toList==(r9 [49]).toList))&&(k.toList==(r9 [49]).toList))&&(m.toList==(r9 [49]).toList))&&(o.toList==(r9 [48]).toList))&&(p.toList==(r9 [45,49]).toList))&&(b.toList==(r9 [49]).toList))&&(c.toList==(r9 [114,111,111,116,115,32,48,32,48,32,49,32,48,32,48,32,48]).toList))&&(e.toList==(r9 [108,105,118,101,115,32,49]).toList))&&(f.toList==(r9 [48]).toList))&&(j.toList==(r9 [49]).toList))&&(n.toList==(r9 [116,97,108,108,121,32,50,32,48,32,49,32,48]).toList))&&(q.toList==(r9 [101,114,114,111,114,32,57]).toList))&&(r.toList==(r9 [101,114,114,111,114,32,49]).toList))&&(s.toList==(r9 [101,114,114,111,114,32,49,51]).toList))==true) (ByteArray.empty:ByteArray) (ix a 17)).bind λt=>
 (B8 (((((((((((((((((((((a.length:Int)==19)&&(v2.toList==(r9 [110,111,32,104,101,97,112]).toList))&&(v3.toList==(r9 [111,107]).toList))&&(g.toList==(r9 [111,107]).toList))&&(i.toList==(r9 [49]).toList))&&(k.toList==(r9 [49]).toList))&&(m.toList==(r9 [49]).toList))&&(o.toList==(r9 [48]).toList))&&(p.toList==(r9 [45,49]).toList))&&(b.toList==(r9 [49]).toList))&&(c.toList==(r9 [114,111,111,116,115,32,48,32,48,32,49,32,48,32,48,32,48]).toList))&&(e.toList==(r9 [108,105,118,101,115,32,49]).toList))&&(f.toList==(r9 [48]).toList))&&(j.toList==(r9 [49]).toList))&&(n.toList==(r9 [116,97,108,108,121,32,50,32,48,32,49,32,48]).toList))&&(q.toList==(r9 [101,114,114,111,114,32,57]).toList))&&(r.toList==(r9 [101,114,114,111,114,32,49]).toList))&&(s.toList==(r9 [101,114,114,111,114,32,49,51]).toList))&&(t.toList==(r9 [101,114,114,111,114,32,51,51]).toList))==true) (ByteArray.empty:ByteArray) (ix a 18)).bind λu=>
 some (((((((((((((((((((((a.length:Int)==19)&&(v2.toList==(r9 [110,111,32,104,101,97,112]).toList))&&(v3.toList==(r9 [111,107]).toList))&&(g.toList==(r9 [111,107]).toList))&&(i.toList==(r9 [49]).toList))&&(k.toList==(r9 [49]).toList))&&(m.toList==(r9 [49]).toList))&&(o.toList==(r9 [48]).toList))&&(p.toList==(r9 [45,49]).toList))&&(b.toList==(r9 [49]).toList))&&(c.toList==(r9 [114,111,111,116,115,32,48,32,48,32,49,32,48,32,48,32,48]).toList))&&(e.toList==(r9 [108,105,118,101,115,32,49]).toList))&&(f.toList==(r9 [48]).toList))&&(j.toList==(r9 [49]).toList))&&(n.toList==(r9 [116,97,108,108,121,32,50,32,48,32,49,32,48]).toList))&&(q.toList==(r9 [101,114,114,111,114,32,57]).toList))&&(r.toList==(r9 [101,114,114,111,114,32,49]).toList))&&(s.toList==(r9 [101,114,114,111,114,32,49,51]).toList))&&(t.toList==(r9 [101,114,114,111,114,32,51,51]).toList))&&(u.toList==(r9 [101,114,114,111,114,32,51,51]).toList))
def su(o:ByteArray):Option (List (List ByteArray)):=
 jn (λ(q:List (List ByteArray))=>
  some q) (λn=>
  (lp (E:=(List (List ByteArray))) (λ((e,a,f,k):ByteArray × Int × (List (List ByteArray)) × (List ByteArray))=>
   if (decide (a<=(o.size:Int))) then
    jn (λ((r,s,t):ByteArray × (List ByteArray) × (List (List ByteArray)))=>
     some (.inl (r,z8 (a+1),t,s))) (λc=>
     jn (λ(b:Int)=>
      if ((((b != 9)&&(b != 10))&&(b != 13))&&(b != 32)) then
       (sT o a (z8 (a+1))).bind λu=>
       (ra e u).bind λv=>
       c (v,k,f)
      else
      jn (λ((m,j):ByteArray × (List ByteArray))=>
       if ((b==10)&&(decide ((j.length:Int) > 0))) then
        (app 24 f [j]).bind λw=>
        c (m,[],w)
       else
       c (m,j,f)) (λi=>
       if (!(e.toList==ByteArray.empty.toList)) then
        (app 16 k [e]).bind λx=>
        i (ByteArray.empty,x)
       else
       i (e,k))) (λg=>
      if (decide (a<(o.size:Int))) then
       (UK o a).bind λy=>
       g y
      else
      g 10))
   else
   some (.inr f)) (ByteArray.empty,0,[],[])).bind λp=>
  n p)
def kh(c:ByteArray):Option (Int × Bool):=
 jn (λ((i,o):ByteArray × Int)=>
  if ((decide ((i.size:Int)<1))||(decide ((i.size:Int) > 9))) then
   some (0,false)
  else
  jn (λ(k:Int)=>
   some (z8 (o*k),true)) (λf=>
   (lp (E:=(Int × Bool) ⊕ Int) (λ((e,a):Int × Int)=>
    if (decide (a<(i.size:Int))) then
     (UK i a).bind λb=>
     if ((decide (b<48))||(decide (b > 57))) then
      some (.inr (.inl (0,false)))
     else
     some (.inl (z8 ((z8 (10*e))+(z8 (w8 (b-48)))),z8 (a+1)))
    else
    some (.inr (.inr e))) (0,0)).bind λj=>
   match j with
   | .inl w=>some w
   | .inr w=>f w)) (λg=>
  (B8 ((!(c.toList==ByteArray.empty.toList))==true) 0 (UK c 0)).bind λm=>
  if ((!(c.toList==ByteArray.empty.toList))&&(m==45)) then
   (sT c 1 (c.size:Int)).bind λn=>
   g (n,(-1))
  else
  g (c,1))
def lz(k:List ByteArray):Option ((List Int) × Bool):=
 jn (λ(f:List Int)=>
  some (f,true)) (λj=>
  (lp (E:=((List Int) × Bool) ⊕ (List Int)) (λ((a,b):Int × (List Int))=>
   if (decide (a<(k.length:Int))) then
    (ix k a).bind λg=>
    (kh g).bind λc=>
    if (!c.2) then
     some (.inr (.inl ([],false)))
    else
    (app 8 b [c.1]).bind λi=>
    some (.inl (z8 (a+1),i))
   else
   some (.inr (.inr b))) (0,[])).bind λe=>
  match e with
  | .inl w=>some w
  | .inr w=>j w)
def nn(f:ByteArray):Option (Int × Int):=
 jn (λ(_:Unit)=>
  some (0,0)) (λe=>
  (lp (E:=(Int × Int) ⊕ Unit) (λ(a:Int)=>
   if (decide (a<([(r9 [110,101,119]),(r9 [99,111,112,121]),(r9 [100,114,111,112]),(r9 [108,111,97,100]),(r9 [115,116,111,114,101]),(r9 [119,101,97,107]),(r9 [117,112]),(r9 [112,97,105,114]),(r9 [103,101,116]),(r9 [115,97,109,101]),(r9 [99,111,108,108,101,99,116]),(r9 [100,114,97,105,110])].length:Int))) then
    (ix [(r9 [110,101,119]),(r9 [99,111,112,121]),(r9 [100,114,111,112]),(r9 [108,111,97,100]),(r9 [115,116,111,114,101]),(r9 [119,101,97,107]),(r9 [117,112]),(r9 [112,97,105,114]),(r9 [103,101,116]),(r9 [115,97,109,101]),(r9 [99,111,108,108,101,99,116]),(r9 [100,114,97,105,110])] a).bind λb=>
    if (b.toList==f.toList) then
     (ix [3,2,1,3,3,3,2,2,2,2,0,1] a).bind λc=>
     some (.inr (.inl (z8 (a+1),c)))
    else
    some (.inl (z8 (a+1)))
   else
   some (.inr (.inr ()))) 0).bind λg=>
  match g with
  | .inl w=>some w
  | .inr w=>e w)
def wc(a:ByteArray)(b:Int):Option Bool:=
 (nn a).bind λc=>
 if (decide (c.1 > 0)) then
  some (b==c.2)
 else
 if (a.toList==(r9 [112,114,111,103]).toList) then
  (rem b 4).bind λv2=>
  some (v2==1)
 else
 if (a.toList==(r9 [104,101,97,112]).toList) then
  some (b==3)
 else
 some ((b==0)&&(((a.toList==(r9 [108,105,118,101,115]).toList)||(a.toList==(r9 [114,111,111,116,115]).toList))||(a.toList==(r9 [116,97,108,108,121]).toList)))
def X0(a:u7):Option Bool:=
 some ((decide (a.Kind>=1))&&(decide (a.Kind<=10)))
def dd(a:Int)(b:Int)(c:Int)(e:Int):Option Int:=
 if ((decide (a<b))||(decide (a > c))) then
  some e
 else
 some 0
def bj(a:Int)(b:Int)(c:Int):Option Int:=
 if (a != 0) then
  some a
 else
 if (b != 0) then
  some b
 else
 some c
def cJ(a:u7):Option Int:=
 (dd a.A 0 5 6).bind λb=>
 (dd a.B 0 5 6).bind λv2=>
 if (a.Kind==1) then
  (dd a.B 0 4 1).bind λv3=>
  (dd a.C (-1) 5 13).bind λu=>
  (bj b v3 u).bind λv=>
  some v
 else
 jn (λ(t:Bool)=>
  if t then
   (bj b v2 0).bind λw=>
   some w
  else
  if (a.Kind==3) then
   some b
  else
  if (a.Kind==4) then
   (dd a.C 0 3 5).bind λx=>
   (bj b v2 x).bind λe=>
   some e
  else
  if (a.Kind==5) then
   (dd a.B 0 3 5).bind λf=>
   (dd a.C (-1) 5 6).bind λg=>
   (bj b f g).bind λi=>
   some i
  else
  if (a.Kind==6) then
   (dd a.A 0 5 7).bind λj=>
   (dd a.B (-1) 5 6).bind λk=>
   (dd a.C (-1) 5 13).bind λm=>
   (bj j k m).bind λn=>
   some n
  else
  if (a.Kind==7) then
   (dd a.B 0 5 7).bind λo=>
   (bj b o 0).bind λp=>
   some p
  else
  if (a.Kind==8) then
   (dd a.B (-1) 5 6).bind λq=>
   (bj b q 0).bind λr=>
   some r
  else
  if (a.Kind==11) then
   some 0
  else
  if (a.Kind==12) then
   (dd a.A 0 200 12).bind λs=>
   some s
  else
  some 14) (λc=>
  if (a.Kind==2) then
   c (a.Kind==2)
  else
  if (a.Kind==9) then
   c (a.Kind==9)
  else
  c (a.Kind==10))
def gD(j:List (List u7)):Option Bool:=
 if (decide ((j.length:Int) > 6)) then
  some false
 else
 jn (λ(_:Unit)=>
  some true) (λg=>
  (lp (E:=Bool ⊕ Unit) (λ(a:Int)=>
   if (decide (a<(j.length:Int))) then
    jn (λ(_:Unit)=>
     some (.inl (z8 (a+1)))) (λi=>
     (ix j a).bind λc=>
     if (decide ((c.length:Int) > 6)) then
      some (.inr (.inl false))
     else
     (lp (E:=Bool ⊕ Unit) (λ(b:Int)=>
      if (decide (b<(c.length:Int))) then
       (ix c b).bind λe=>
       (X0 e).bind λf=>
       (B8 ((!f)==false) 0 (cJ e)).bind λn=>
       if ((!f)||(n != 0)) then
        some (.inr (.inl false))
       else
       some (.inl (z8 (b+1)))
      else
      some (.inr (.inr ()))) 0).bind λm=>
     match m with
     | .inl w=>some (.inr (.inl w))
     | .inr w=>i w)
   else
   some (.inr (.inr ()))) 0).bind λk=>
  match k with
  | .inl w=>some w
  | .inr w=>g w)
def lA(f:D8)(c:List Int):Option (D8 × ByteArray):=
 (ix c 0).bind λe=>
 if ((decide (e<0))||(decide (e > 5))) then
  some (f,(r9 [101,114,114,111,114,32,49,51]))
 else
 (app 24 [] f.progs).bind λv2=>
 jn (λ(n:List (List u7))=>
  jn (λ(i:List u7)=>
   (ix n e).bind λw=>
   (gD (n.set (e).toNat i)).bind λo=>
   if (!o) then
    some (f,(r9 [101,114,114,111,114,32,49,51]))
   else
   some ((⟨f.g,f.has,(n.set (e).toNat i)⟩:D8),(r9 [111,107]))) (λk=>
   (lp (E:=(List u7)) (λ((a,j):Int × (List u7))=>
    if (decide (a<(c.length:Int))) then
     (ix c a).bind λp=>
     (ix c (z8 (a+1))).bind λq=>
     (ix c (z8 (a+2))).bind λr=>
     (ix c (z8 (a+3))).bind λs=>
     (app 32 j [(⟨p,q,r,s⟩:u7)]).bind λt=>
     some (.inl (z8 (a+4),t))
    else
    some (.inr j)) (1,[])).bind λm=>
   k m)) (λv=>
  (lp (E:=(List (List u7))) (λ(b:List (List u7))=>
   if (decide ((b.length:Int)<=e)) then
    (app 24 b [[]]).bind λu=>
    some (.inl u)
   else
   some (.inr b)) v2).bind λe33=>
  v e33)
def GQ(a:Int)(b:Int):Option B2:=
 if ((((decide (a<0))||(decide (a > 24)))||(decide (b<0)))||(decide (b > 9))) then
  some (⟨[],0⟩:B2)
 else
 (mk 24 a (⟨0,0,0⟩:A7)).bind λc=>
 some (⟨c,b⟩:B2)
def AP(b:Int)(c:Int):Option p7:=
 (GQ b c).bind λa=>
 (mk 80 (a.a8.length:Int) (⟨0,0,⟨0,0,0,0,false,[]⟩⟩:x6)).bind λv2=>
 some (⟨v2,a.Last,0⟩:p7)
def Ot(f:Int):Option (List u6):=
 jn (λ(i:List u6)=>
  some i) (λe=>
  (lp (E:=(List u6)) (λ((a,b):Int × (List u6))=>
   if ((decide (a<f))&&(decide (f<=6))) then
    (app 24 b [(⟨0,false,(-1)⟩:u6)]).bind λc=>
    some (.inl (z8 (a+1),c))
   else
   some (.inr b)) (0,[])).bind λg=>
  e g)
def GV(a:Int):Option (List o7):=
 if ((decide (a<1))||(decide (a > 8))) then
  some []
 else
 (mk 24 a (⟨0,0,0⟩:o7)).bind λb=>
 some b
def GZ:Option C6:=
 some (⟨[],30⟩:C6)
def sj(a:Int)(b:Int)(c:Int):Option e6:=
 if ((((((decide (a<1))||(decide (a > 24)))||(decide (b<0)))||(decide (b > 9)))||(decide (c<1)))||(decide (c > 8))) then
  some (⟨⟨[],0,0⟩,[],[],[],⟨[],0⟩⟩:e6)
 else
 (AP a b).bind λe=>
 (mk 8 6 (0:Int)).bind λv2=>
 (Ot 6).bind λv3=>
 (GV c).bind λf=>
 (GZ).bind λg=>
 some (⟨e,v2,v3,f,g⟩:e6)
def sq(b:Int)(c:Int)(e:Int)(a:List (List u7)):Option (E4 × Int):=
 (gD a).bind λf=>
 if (!f) then
  some ((⟨⟨⟨[],0,0⟩,[],[],[],⟨[],0⟩⟩,[]⟩:E4),13)
 else
 (sj b c e).bind λv2=>
 if ((v2.Roots.length:Int)==0) then
  some ((⟨⟨⟨[],0,0⟩,[],[],[],⟨[],0⟩⟩,[]⟩:E4),1)
 else
 some ((⟨v2,a⟩:E4),0)
def ca(r:Int):Option ByteArray:=
 jn (λ(s:ByteArray)=>
  jn (λ(o:ByteArray)=>
   (ra s o).bind λp=>
   some p) (λm=>
   (lp (E:=ByteArray) (λ((e,f,g):Int × ByteArray × Int)=>
    if (decide (g<20)) then
     (rem e 10).bind λb=>
     jn (λ(c:Int)=>
      (sT (r9 [48,49,50,51,52,53,54,55,56,57]) c (z8 (c+1))).bind λq=>
      (ra q f).bind λi=>
      (quo .i64 e 10).bind λj=>
      if (j==0) then
       some (.inr i)
      else
      some (.inl (j,i,z8 (g+1)))) (λa=>
      if (decide (b<0)) then
       a (z8 (0-b))
      else
      a b)
    else
    some (.inr f)) (r,ByteArray.empty,0)).bind λn=>
   m n)) (λk=>
  if (decide (r<0)) then
   k (r9 [45])
  else
  k ByteArray.empty)
def kc(a:Int)(b:Int):Option Int:=
 if ((((decide (a<0))||(decide (a > 23)))||(decide (b<0)))||(decide (b > 9))) then
  some 0
 else
 some (z8 ((z8 (1+a))+(z8 (32*b))))
def R6(e:p7):Option B2:=
 jn (λ(j:List A7)=>
  some (⟨j,e.Last⟩:B2)) (λi=>
  (lp (E:=(List A7)) (λ((a,b):Int × (List A7))=>
   if (decide (a<(e.a8.length:Int))) then
    (ix e.a8 a).bind λc=>
    (app 24 b [(⟨c.State,c.Gen,a⟩:A7)]).bind λg=>
    some (.inl (z8 (a+1),g))
   else
   some (.inr b)) (0,[])).bind λf=>
  i f)
def mR(a:Int):Option Bool:=
 if ((decide (a<1))||(decide (a > 400))) then
  some false
 else
 (rem (z8 (a-1)) 32).bind λb=>
 (quo .i64 (z8 (a-1)) 32).bind λv2=>
 (kc b v2).bind λv3=>
 some (v3==a)
def mQ(a:Int):Option Int:=
 (mR a).bind λb=>
 if (!b) then
  some (-1)
 else
 (rem (z8 (a-1)) 32).bind λv2=>
 some v2
def AN(a:Int):Option Int:=
 (mR a).bind λb=>
 if (!b) then
  some (-1)
 else
 (quo .i64 (z8 (a-1)) 32).bind λv2=>
 some v2
def W1(c:B2)(b:Int):Option (Int × Int):=
 if (b==0) then
  some ((-1),2)
 else
 (mQ b).bind λa=>
 if ((decide (a<0))||(decide (a>=(c.a8.length:Int)))) then
  some ((-1),3)
 else
 (ix c.a8 a).bind λv2=>
 (AN b).bind λv3=>
 if ((v2.Gen != v3)||((v2.State != 1)&&(v2.State != 2))) then
  some ((-1),3)
 else
 some (a,0)
def ke(o:p7)(v:List Int):Option (List Int):=
 (app 8 [] v).bind λw=>
 jn (λ(r:List Int)=>
  some r) (λm=>
  (lp (E:=(List Int)) (λ((f,g):Int × (List Int))=>
   if (decide (f<(g.length:Int))) then
    jn (λ(s:List Int)=>
     some (.inl (z8 (f+1),s))) (λn=>
     (lp (E:=(List Int)) (λ((a,b):Int × (List Int))=>
      if (decide (a > 0)) then
       (R6 o).bind λj=>
       (ix b (z8 (a-1))).bind λi=>
       (W1 j i).bind λc=>
       (ix b a).bind λk=>
       (W1 j k).bind λe=>
       (B8 (((decide (c.1<0))||(decide (e.1<0)))==false) (⟨0,0,⟨0,0,0,0,false,[]⟩⟩:x6) (ix o.a8 c.1)).bind λt=>
       (B8 (((decide (c.1<0))||(decide (e.1<0)))==false) (⟨0,0,⟨0,0,0,0,false,[]⟩⟩:x6) (ix o.a8 e.1)).bind λu=>
       if (((decide (c.1<0))||(decide (e.1<0)))||(decide (t.Val.Serial<=u.Val.Serial))) then
        some (.inr b)
       else
       (ix (b.set (a).toNat i) (z8 (a-1))).bind λx=>
       some (.inl (z8 (a-1),((b.set (a).toNat i).set (z8 (a-1)).toNat k)))
      else
      some (.inr b)) (f,g)).bind λq=>
     n q)
   else
   some (.inr g)) (1,w)).bind λp=>
  m p)
def aW(g:p7):Option (List Int):=
 jn (λ(j:List Int)=>
  (ke g j).bind λm=>
  some m) (λf=>
  (lp (E:=(List Int)) (λ((a,c):Int × (List Int))=>
   if (decide (a<(g.a8.length:Int))) then
    jn (λ(k:List Int)=>
     some (.inl (z8 (a+1),k))) (λb=>
     (ix g.a8 a).bind λe=>
     if (e.State==1) then
      (kc a e.Gen).bind λn=>
      (app 8 c [n]).bind λo=>
      b o
     else
     b c)
   else
   some (.inr c)) (0,[])).bind λi=>
  f i)
def vF(b:B2)(c:Int):Option (Int × Int):=
 (W1 b c).bind λa=>
 if (a.2 != 0) then
  some (0,a.2)
 else
 (ix b.a8 a.1).bind λv2=>
 if (v2.State==2) then
  some (0,3)
 else
 some (v2.Val,0)
def K0(a:p7)(b:Int):Option (J2 × Int):=
 (R6 a).bind λc=>
 (vF c b).bind λv2=>
 if (v2.2 != 0) then
  some ((⟨0,0,0,0,false,[]⟩:J2),v2.2)
 else
 (ix a.a8 v2.1).bind λv3=>
 some (v3.Val,0)
def dX(a:e6)(b:Int):Option Int:=
 (K0 a.S b).bind λc=>
 some c.1.Serial
def ni(k:E4):Option (List Int):=
 (aW k.X.S).bind λm=>
 jn (λ(f:List Int)=>
  some f) (λc=>
  (lp (E:=(List Int)) (λ((a,b):Int × (List Int))=>
   if (decide (a<(m.length:Int))) then
    (ix m a).bind λg=>
    (dX k.X g).bind λi=>
    (app 8 b [i]).bind λj=>
    some (.inl (z8 (a+1),j))
   else
   some (.inr b)) (0,[])).bind λe=>
  c e)
def nq(n:ByteArray)(m:List Int):Option ByteArray:=
 jn (λ(f:ByteArray)=>
  some f) (λc=>
  (lp (E:=ByteArray) (λ((b,a):ByteArray × Int)=>
   if (decide (a<(m.length:Int))) then
    (ra b (r9 [32])).bind λg=>
    (ix m a).bind λi=>
    (ca i).bind λj=>
    (ra g j).bind λk=>
    some (.inl (k,z8 (a+1)))
   else
   some (.inr b)) (n,0)).bind λe=>
  c e)
def pd(b:e6)(a:Int):Option Int:=
 if ((decide (a<0))||(decide (a > 5))) then
  some 0
 else
 (ix b.Roots a).bind λc=>
 (dX b c).bind λv2=>
 some v2
def rX(i:B2):Option A4:=
 jn (λ(j:A4)=>
  some j) (λg=>
  (lp (E:=A4) (λ((a,b):Int × A4)=>
   if (decide (a<(i.a8.length:Int))) then
    (ix i.a8 a).bind λc=>
    (A4.ix b (wW .i64 c.State 3)).bind λf=>
    some (.inl (z8 (a+1),(A4.st b (wW .i64 c.State 3) (z8 (f+1)))))
   else
   some (.inr b)) (0,(⟨0,0,0,0⟩:A4))).bind λe=>
  g e)
def nj(a:E4):Option A4:=
 (R6 a.X.S).bind λb=>
 (rX b).bind λv2=>
 some v2
def dW(a:List Int):Option (u7 × Int):=
 if ((a.length:Int) != 4) then
  some ((⟨0,0,0,0⟩:u7),14)
 else
 (ix a 0).bind λb=>
 (ix a 1).bind λv2=>
 (ix a 2).bind λv3=>
 (ix a 3).bind λc=>
 (cJ (⟨b,v2,v3,c⟩:u7)).bind λe=>
 if (e != 0) then
  some ((⟨0,0,0,0⟩:u7),e)
 else
 some ((⟨b,v2,v3,c⟩:u7),0)
def gx(m:List Int):Option (List Int):=
 jn (λ(i:List Int)=>
  some i) (λf=>
  (lp (E:=(List Int)) (λ((b,c):Int × (List Int))=>
   if (decide (b<(m.length:Int))) then
    jn (λ(j:List Int)=>
     some (.inl (z8 (b+1),j))) (λa=>
     (ix m b).bind λe=>
     if (e != 0) then
      (app 8 c [e]).bind λk=>
      a k
     else
     a c)
   else
   some (.inr c)) (0,[])).bind λg=>
  f g)
def vL(b:p7)(c:Int):Option (List Int):=
 (K0 b c).bind λa=>
 if (a.2 != 0) then
  some []
 else
 (gx a.1.Fields).bind λv2=>
 some v2
def gA(k:List Int)(m:Int):Option Int:=
 jn (λ(g:Int)=>
  some g) (λe=>
  (lp (E:=Int) (λ((b,c):Int × Int)=>
   if (decide (c<(k.length:Int))) then
    jn (λ(i:Int)=>
     some (.inl (i,z8 (c+1)))) (λa=>
     (ix k c).bind λj=>
     if ((j==m)&&(m != 0)) then
      a (z8 (b+1))
     else
     a b)
   else
   some (.inr b)) (0,0)).bind λf=>
  e f)
def GS(k:p7)(n:Int):Option Int:=
 (aW k).bind λm=>
 jn (λ(f:Int)=>
  some f) (λc=>
  (lp (E:=Int) (λ((b,a):Int × Int)=>
   if (decide (a<(m.length:Int))) then
    (ix m a).bind λg=>
    (vL k g).bind λi=>
    (gA i n).bind λj=>
    some (.inl (z8 (b+j),z8 (a+1)))
   else
   some (.inr b)) (0,0)).bind λe=>
  c e)
def vN(m:List o7):Option (List Int):=
 jn (λ(i:List Int)=>
  some i) (λf=>
  (lp (E:=(List Int)) (λ((b,c):Int × (List Int))=>
   if (decide (b<(m.length:Int))) then
    jn (λ(j:List Int)=>
     some (.inl (z8 (b+1),j))) (λa=>
     (ix m b).bind λe=>
     if (e.State==1) then
      (app 8 c [e.Key]).bind λk=>
      a k
     else
     a c)
   else
   some (.inr c)) (0,[])).bind λg=>
  f g)
def fE(e:List o7)(f:Int):Option Int:=
 jn (λ(_:Unit)=>
  some (-1)) (λc=>
  (lp (E:=Int ⊕ Unit) (λ(b:Int)=>
   if (decide (b<(e.length:Int))) then
    (ix e b).bind λa=>
    if ((a.State==1)&&(a.Key==f)) then
     some (.inr (.inl b))
    else
    some (.inl (z8 (b+1)))
   else
   some (.inr (.inr ()))) 0).bind λg=>
  match g with
  | .inl w=>some w
  | .inr w=>c w)
def rZ(a:List o7)(c:Int):Option (Int × Int):=
 (fE a c).bind λb=>
 if (decide (b<0)) then
  some (0,9)
 else
 (ix a b).bind λv2=>
 some (v2.Val,0)
def mW(k:List o7):Option (List E8):=
 (vN k).bind λm=>
 jn (λ(g:List E8)=>
  some g) (λe=>
  (lp (E:=(List E8)) (λ((a,b):Int × (List E8))=>
   if (decide (a<(m.length:Int))) then
    (ix m a).bind λc=>
    (rZ k c).bind λi=>
    (app 16 b [(⟨c,i.1⟩:E8)]).bind λj=>
    some (.inl (z8 (a+1),j))
   else
   some (.inr b)) (0,[])).bind λf=>
  e f)
def sa(m:List o7)(j:Int):Option Int:=
 (mW m).bind λk=>
 jn (λ(f:Int)=>
  some f) (λe=>
  (lp (E:=Int) (λ((b,c):Int × Int)=>
   if (decide (c<(k.length:Int))) then
    jn (λ(g:Int)=>
     some (.inl (g,z8 (c+1)))) (λa=>
     (ix k c).bind λi=>
     if ((i.Val==j)&&(j != 0)) then
      a (z8 (b+1))
     else
     a b)
   else
   some (.inr b)) (0,0)).bind λVr=>
  e Vr)
def se(b:p7)(c:List o7)(a:Int):Option Int:=
 (GS b a).bind λe=>
 (sa c a).bind λv2=>
 some (z8 (e+v2))
def vW(a:p7)(e:List o7)(b:Int):Option Int:=
 (K0 a b).bind λc=>
 if (c.2 != 0) then
  some 0
 else
 (se a e b).bind λv2=>
 some (z8 (c.1.Strong-v2))
def cI(a:Int):Option Bool:=
 some (decide (a>=12))
def sf(a:p7)(b:Int):Option Bool:=
 (K0 a b).bind λc=>
 (cI c.1.Strong).bind λv2=>
 some v2
def vV(i:p7)(q:List o7):Option (List Int):=
 (aW i).bind λp=>
 jn (λ(k:List Int)=>
  some k) (λg=>
  (lp (E:=(List Int)) (λ((b,c):Int × (List Int))=>
   if (decide (b<(p.length:Int))) then
    jn (λ(m:List Int)=>
     some (.inl (z8 (b+1),m))) (λa=>
     (ix p b).bind λe=>
     (vW i q e).bind λf=>
     (B8 ((decide (f > 0))==false) false (sf i e)).bind λn=>
     if ((decide (f > 0))||n) then
      (app 8 c [e]).bind λo=>
      a o
     else
     a c)
   else
   some (.inr c)) (0,[])).bind λj=>
  g j)
def oY(a:List Int)(b:Int):Option Bool:=
 (gA a b).bind λc=>
 some (decide (c > 0))
def mU(n:List Int)(o:List Int)(p:Bool):Option (List Int):=
 jn (λ(i:List Int)=>
  some i) (λf=>
  (lp (E:=(List Int)) (λ((b,c):Int × (List Int))=>
   if (decide (b<(n.length:Int))) then
    jn (λ(j:List Int)=>
     some (.inl (z8 (b+1),j))) (λa=>
     (ix n b).bind λe=>
     (oY o e).bind λk=>
     if (k==p) then
      (app 8 c [e]).bind λm=>
      a m
     else
     a c)
   else
   some (.inr c)) (0,[])).bind λg=>
  f g)
def mT(v:p7)(w:List Int):Option (List Int):=
 (aW v).bind λp=>
 (mU p w true).bind λv2=>
 jn (λ(m:List Int)=>
  some m) (λf=>
  (lp (E:=(List Int)) (λ((a,c):(List Int) × Int)=>
   if (decide (c<(p.length:Int))) then
    jn (λ(n:List Int)=>
     some (.inl (n,z8 (c+1)))) (λg=>
     (app 8 [] a).bind λq=>
     jn (λ(o:List Int)=>
      (mU p o true).bind λr=>
      g r) (λi=>
      (lp (E:=(List Int)) (λ((b,e):Int × (List Int))=>
       if (decide (b<(a.length:Int))) then
        (ix a b).bind λs=>
        (vL v s).bind λt=>
        (app 8 e t).bind λu=>
        some (.inl (z8 (b+1),u))
       else
       some (.inr e)) (0,q)).bind λk=>
      i k))
   else
   some (.inr a)) (v2,0)).bind λj=>
  f j)
def mX(a:p7)(b:Int):Option Bool:=
 (K0 a b).bind λc=>
 some (c.2==0)
def qN(p:p7)(r:List o7)(s:List Int):Option (List Int):=
 (mW r).bind λq=>
 jn (λ(k:List Int)=>
  some k) (λi=>
  (lp (E:=(List Int)) (λ((c,e):Int × (List Int))=>
   if (decide (c<(q.length:Int))) then
    jn (λ(m:List Int)=>
     some (.inl (z8 (c+1),m))) (λb=>
     (ix q c).bind λa=>
     (mX p a.Key).bind λf=>
     (B8 (f==true) false (oY s a.Key)).bind λg=>
     (B8 ((f&&g)==true) false (mX p a.Val)).bind λn=>
     if ((f&&g)&&n) then
      (app 8 e [a.Val]).bind λo=>
      b o
     else
     b e)
   else
   some (.inr e)) (0,[])).bind λj=>
  i j)
def vE(b:List Int)(g:List Int):Option Bool:=
 if ((b.length:Int) != (g.length:Int)) then
  some false
 else
 jn (λ(_:Unit)=>
  some true) (λf=>
  (lp (E:=Bool ⊕ Unit) (λ(a:Int)=>
   if (decide (a<(b.length:Int))) then
    (ix b a).bind λc=>
    (ix g a).bind λe=>
    if (c != e) then
     some (.inr (.inl false))
    else
    some (.inl (z8 (a+1)))
   else
   some (.inr (.inr ()))) 0).bind λi=>
  match i with
  | .inl w=>some w
  | .inr w=>f w)
def pa(f:p7)(o:List o7)(p:List Int):Option ((List Int) × Int):=
 (mT f p).bind λq=>
 jn (λ(i:List Int)=>
  some (i,30)) (λe=>
  (lp (E:=((List Int) × Int) ⊕ (List Int)) (λ((a,b):(List Int) × Int)=>
   if (decide (b<30)) then
    (app 8 [] a).bind λj=>
    (qN f o a).bind λk=>
    (app 8 j k).bind λm=>
    (mT f m).bind λc=>
    (vE c a).bind λn=>
    if n then
     some (.inr (.inl (a,b)))
    else
    some (.inl (c,z8 (b+1)))
   else
   some (.inr (.inr a))) (q,0)).bind λg=>
  match g with
  | .inl w=>some w
  | .inr w=>e w)
def vQ(a:p7)(b:List o7)(c:List Int):Option (List Int):=
 (pa a b c).bind λe=>
 some e.1
def vT(n:p7)(o:List o7)(p:List Int):Option (List Int):=
 (vQ n o p).bind λq=>
 (aW n).bind λv2=>
 jn (λ(i:List Int)=>
  some i) (λf=>
  (lp (E:=(List Int)) (λ((b,c):Int × (List Int))=>
   if (decide (b<(v2.length:Int))) then
    jn (λ(j:List Int)=>
     some (.inl (z8 (b+1),j))) (λa=>
     (ix v2 b).bind λe=>
     (oY q e).bind λk=>
     if (!k) then
      (app 8 c [e]).bind λm=>
      a m
     else
     a c)
   else
   some (.inr c)) (0,[])).bind λg=>
  f g)
def iA(a:p7)(b:List o7):Option (List Int):=
 (vV a b).bind λc=>
 (vT a b c).bind λv2=>
 some v2
def iB(a:e6):Option (List Int):=
 (iA a.S a.T).bind λb=>
 some b
def gB(a:e6)(b:Int):Option Bool:=
 (K0 a.S b).bind λc=>
 some (c.2==0)
def pb(a:e6)(b:Int):Option Bool:=
 (K0 a.S b).bind λc=>
 (gB a b).bind λv2=>
 some ((v2&&(decide (c.1.Prog>=0)))&&(!c.1.Started))
def sn(n:e6):Option (List Int):=
 (iB n).bind λo=>
 jn (λ(i:List Int)=>
  some i) (λf=>
  (lp (E:=(List Int)) (λ((b,c):Int × (List Int))=>
   if (decide (b<(o.length:Int))) then
    jn (λ(j:List Int)=>
     some (.inl (z8 (b+1),j))) (λa=>
     (ix o b).bind λe=>
     (pb n e).bind λk=>
     if k then
      (app 8 c [e]).bind λm=>
      a m
     else
     a c)
   else
   some (.inr c)) (0,[])).bind λg=>
  f g)
def dx(a:p7)(b:Int)(e:J2):Option p7:=
 (app 80 [] a.a8).bind λc=>
 (ix c b).bind λv2=>
 some (⟨(c.set (b).toNat (⟨v2.State,v2.Gen,e⟩:x6)),a.Last,a.Serial⟩:p7)
def R7(a:p7)(b:Int)(c:J2):Option (p7 × Int):=
 (R6 a).bind λe=>
 (W1 e b).bind λv2=>
 if (v2.2 != 0) then
  some (a,v2.2)
 else
 (dx a v2.1 c).bind λv3=>
 some (v3,0)
def lr(a:C6)(b:y4):Option (C6 × Int):=
 if (decide ((a.L.length:Int)>=a.Cap)) then
  some (a,4)
 else
 (app 24 [] a.L).bind λc=>
 (app 24 c [b]).bind λv2=>
 some ((⟨v2,a.Cap⟩:C6),0)
def vG(a:Int):Option Int:=
 (cI a).bind λb=>
 if b then
  some 12
 else
 if (decide (a<0)) then
  some 1
 else
 some (z8 (a+1))
def kf(a:e6)(c:Int)(e:Int):Option e6:=
 (K0 a.S c).bind λb=>
 if (b.2 != 0) then
  some a
 else
 (R7 a.S c (⟨b.1.Serial,e,b.1.Weak,b.1.Prog,b.1.Started,b.1.Fields⟩:J2)).bind λv2=>
 some (⟨v2.1,a.Roots,a.a8,a.T,a.Q⟩:e6)
def bY(a:e6)(b:Int):Option e6:=
 (K0 a.S b).bind λc=>
 (vG c.1.Strong).bind λv2=>
 (kf a b v2).bind λv3=>
 some v3
def gC(a:e6)(b:Int):Option e6:=
 (pb a b).bind λc=>
 if (!c) then
  some a
 else
 (K0 a.S b).bind λv2=>
 (R7 a.S b (⟨v2.1.Serial,v2.1.Strong,v2.1.Weak,v2.1.Prog,true,v2.1.Fields⟩:J2)).bind λv3=>
 (lr a.Q (⟨1,b,v2.1.Prog⟩:y4)).bind λe=>
 (bY (⟨v3.1,a.Roots,a.a8,a.T,e.1⟩:e6) b).bind λf=>
 some f
def qQ(p:e6)(o:List Int):Option (List Int):=
 jn (λ(j:List Int)=>
  some j) (λg=>
  (lp (E:=(List Int)) (λ((c,a):Int × (List Int))=>
   if (decide (c<(o.length:Int))) then
    jn (λ(k:List Int)=>
     some (.inl (z8 (c+1),k))) (λb=>
     (ix o c).bind λe=>
     (gB p e).bind λf=>
     (B8 (f==true) false (oY a e)).bind λm=>
     if (f&&(!m)) then
      (app 8 a [e]).bind λn=>
      b n
     else
     b a)
   else
   some (.inr a)) (0,[])).bind λi=>
  g i)
def rY(r:List u6)(s:List Int):Option ((List u6) × (List Int)):=
 jn (λ((j,k):(List Int) × (List u6))=>
  some (k,j)) (λg=>
  (lp (E:=((List Int) × (List u6))) (λ((c,f,e):Int × (List u6) × (List Int))=>
   if (decide (c<(r.length:Int))) then
    (ix r c).bind λa=>
    jn (λ((m,n):Bool × (List Int))=>
     (app 24 f [(⟨a.Target,m,a.Call⟩:u6)]).bind λo=>
     some (.inl (z8 (c+1),o,n))) (λb=>
     (B8 (a.Intact==true) 0 (gA s a.Target)).bind λp=>
     if (a.Intact&&(decide (p > 0))) then
      if (decide (a.Call>=0)) then
       (app 8 e [c]).bind λq=>
       b (false,q)
      else
      b (false,e)
     else
     b (a.Intact,e))
   else
   some (.inr (e,f))) (0,[],[])).bind λi=>
  g i)
def dy(c:List o7)(a:Int)(e:o7):Option (List o7):=
 (app 24 [] c).bind λb=>
 (ix b a).bind λv2=>
 some (b.set (a).toNat e)
def mV(a:List o7)(c:Int):Option ((List o7) × Int × Int):=
 (fE a c).bind λb=>
 if (decide (b<0)) then
  some (a,0,9)
 else
 (dy a b (⟨2,0,0⟩:o7)).bind λv2=>
 (ix a b).bind λv3=>
 some (v2,v3.Val,0)
def iz(r:List o7)(q:List Int):Option ((List o7) × (List Int)):=
 jn (λ((j,k):(List o7) × (List Int))=>
  some (j,k)) (λg=>
  (lp (E:=((List o7) × (List Int))) (λ((b,c,e):(List o7) × Int × (List Int))=>
   if (decide (c<(q.length:Int))) then
    jn (λ((m,n):(List o7) × (List Int))=>
     some (.inl (m,z8 (c+1),n))) (λa=>
     (ix q c).bind λo=>
     (mV b o).bind λf=>
     if (f.2.2==0) then
      (app 8 e [f.2.1]).bind λp=>
      a (f.1,p)
     else
     a (b,e))
   else
   some (.inr (b,e))) (r,0,[])).bind λi=>
  g i)
def aV(a:B2)(b:Int)(e:A7):Option B2:=
 (app 24 [] a.a8).bind λc=>
 (ix c b).bind λv2=>
 some (⟨(c.set (b).toNat e),a.Last⟩:B2)
def Cm(a:B2)(b:Int):Option (B2 × Int):=
 (vF a b).bind λc=>
 if (c.2 != 0) then
  some (a,c.2)
 else
 (W1 a b).bind λv2=>
 (ix a.a8 v2.1).bind λv3=>
 (aV a v2.1 (⟨2,v3.Gen,v3.Val⟩:A7)).bind λe=>
 some (e,0)
def bW(e:p7)(m:B2):Option p7:=
 jn (λ(g:List x6)=>
  some (⟨g,e.Last,e.Serial⟩:p7)) (λk=>
  (lp (E:=(List x6)) (λ((a,b):Int × (List x6))=>
   if (decide (a<(e.a8.length:Int))) then
    (ix m.a8 a).bind λc=>
    (ix e.a8 a).bind λi=>
    (app 80 b [(⟨c.State,c.Gen,i.Val⟩:x6)]).bind λj=>
    some (.inl (z8 (a+1),j))
   else
   some (.inr b)) (0,[])).bind λf=>
  k f)
def vK(a:p7)(b:Int):Option p7:=
 (R6 a).bind λc=>
 (Cm c b).bind λv2=>
 (bW a v2.1).bind λv3=>
 some v3
def Ck(a:B2)(c:Int):Option (B2 × Int):=
 (W1 a c).bind λb=>
 if (b.2 != 0) then
  some (a,b.2)
 else
 (ix a.a8 b.1).bind λv2=>
 if (decide (v2.Gen>=a.Last)) then
  (aV a b.1 (⟨3,v2.Gen,0⟩:A7)).bind λv3=>
  some (v3,0)
 else
 (aV a b.1 (⟨0,z8 (v2.Gen+1),0⟩:A7)).bind λe=>
 some (e,0)
def qI(a:p7)(b:Int):Option p7:=
 (R6 a).bind λc=>
 (Ck c b).bind λv2=>
 if (v2.2 != 0) then
  some a
 else
 (bW a v2.1).bind λv3=>
 (mQ b).bind λe=>
 (dx v3 e (⟨0,0,0,0,false,[]⟩:J2)).bind λf=>
 some f
def nb(a:e6)(c:Int):Option e6:=
 (K0 a.S c).bind λb=>
 (R7 a.S c (⟨b.1.Serial,0,b.1.Weak,b.1.Prog,b.1.Started,[]⟩:J2)).bind λv2=>
 (vK v2.1 c).bind λv3=>
 if (b.1.Weak==0) then
  (qI v3 c).bind λe=>
  some (⟨e,a.Roots,a.a8,a.T,a.Q⟩:e6)
 else
 some (⟨v3,a.Roots,a.a8,a.T,a.Q⟩:e6)
def AO(a:Int):Option (Int × Int):=
 (cI a).bind λb=>
 if b then
  some (12,0)
 else
 if (decide (a<1)) then
  some (0,11)
 else
 some (z8 (a-1),0)
def H5(a:e6)(b:Int):Option e6:=
 (K0 a.S b).bind λc=>
 (AO c.1.Strong).bind λv2=>
 if (v2.2 != 0) then
  some a
 else
 (kf a b v2.1).bind λv3=>
 some v3
def na(a:e6)(a1:List Int):Option e6:=
 (qQ a a1).bind λg=>
 (rY a.a8 g).bind λv2=>
 jn (λ(y:C6)=>
  jn (λ(z:List Int)=>
   (iz a.T g).bind λn=>
   (app 8 z n.2).bind λo=>
   jn (λ(h:e6)=>
    jn (λ(A:e6)=>
     some A) (λt=>
     (lp (E:=e6) (λ((b,i):Int × e6)=>
      if (decide (b<(o.length:Int))) then
       (ix o b).bind λB=>
       (H5 i B).bind λC=>
       some (.inl (z8 (b+1),C))
      else
      some (.inr i)) (0,h)).bind λu=>
     t u)) (λs=>
    (lp (E:=e6) (λ((c,j):Int × e6)=>
     if (decide (c<(g.length:Int))) then
      (ix g c).bind λF=>
      (nb j F).bind λG=>
      some (.inl (z8 (c+1),G))
     else
     some (.inr j)) (0,(⟨a.S,a.Roots,v2.1,n.1,y⟩:e6))).bind λv=>
    s v)) (λr=>
   (lp (E:=(List Int)) (λ((e,k):Int × (List Int))=>
    if (decide (e<(g.length:Int))) then
     (ix g e).bind λH=>
     (K0 a.S H).bind λK=>
     (gx K.1.Fields).bind λN=>
     (app 8 k N).bind λP=>
     some (.inl (z8 (e+1),P))
    else
    some (.inr k)) (0,[])).bind λw=>
   r w)) (λq=>
  (lp (E:=C6) (λ((f,m):Int × C6)=>
   if (decide (f<(v2.2.length:Int))) then
    (ix v2.2 f).bind λp=>
    (ix v2.1 p).bind λR=>
    (lr m (⟨2,p,R.Call⟩:y4)).bind λV=>
    some (.inl (z8 (f+1),V.1))
   else
   some (.inr m)) (0,a.Q)).bind λx=>
  q x)
def qP(n:e6):Option (List Int):=
 (aW n.S).bind λo=>
 jn (λ(i:List Int)=>
  some i) (λf=>
  (lp (E:=(List Int)) (λ((b,c):Int × (List Int))=>
   if (decide (b<(o.length:Int))) then
    jn (λ(j:List Int)=>
     some (.inl (z8 (b+1),j))) (λa=>
     (ix o b).bind λe=>
     (K0 n.S e).bind λk=>
     if (k.1.Strong==0) then
      (app 8 c [e]).bind λm=>
      a m
     else
     a c)
   else
   some (.inr c)) (0,[])).bind λg=>
  f g)
def T5(q:e6):Option e6:=
 jn (λ(j:e6)=>
  some j) (λg=>
  (lp (E:=e6 ⊕ e6) (λ((e,a):Int × e6)=>
   if (decide (e<100)) then
    jn (λ(k:e6)=>
     some (.inl (z8 (e+1),k))) (λb=>
     (qP a).bind λc=>
     if ((c.length:Int)==0) then
      some (.inr (.inl a))
     else
     (ix c 0).bind λf=>
     (pb a f).bind λm=>
     if m then
      (gC a f).bind λn=>
      b n
     else
     (cut c 0 1).bind λo=>
     (na a o).bind λp=>
     b p)
   else
   some (.inr (.inr a))) (0,q)).bind λi=>
  match i with
  | .inl w=>some w
  | .inr w=>g w)
def ly(b:e6):Option (e6 × Int × Int):=
 (sn b).bind λi=>
 jn (λ(_:Unit)=>
  (iB b).bind λm=>
  (na b m).bind λn=>
  (T5 n).bind λe=>
  (aW b.S).bind λo=>
  (aW e.S).bind λp=>
  some (e,0,z8 ((o.length:Int)-(p.length:Int)))) (λf=>
  if (decide ((i.length:Int) > 0)) then
   jn (λ(k:e6)=>
    some (k,(i.length:Int),0)) (λg=>
    (lp (E:=e6) (λ((a,c):Int × e6)=>
     if (decide (a<(i.length:Int))) then
      (ix i a).bind λq=>
      (gC c q).bind λr=>
      some (.inl (z8 (a+1),r))
     else
     some (.inr c)) (0,b)).bind λj=>
    g j)
  else
  f ())
def ng(a:e6):Option Bool:=
 some ((a.Q.L.length:Int)==0)
def nh(b:List (List u7))(a:Int):Option (List u7):=
 if ((decide (a<0))||(decide (a>=(b.length:Int)))) then
  some []
 else
 (ix b a).bind λc=>
 some c
def nc(a:List (List u7))(b:y4):Option Int:=
 (nh a b.Prog).bind λc=>
 some (z8 (1+(c.length:Int)))
def vX(a:C6):Option (C6 × y4 × Int):=
 if ((a.L.length:Int)==0) then
  some (a,(⟨0,0,0⟩:y4),10)
 else
 (cut a.L 1 (a.L.length:Int)).bind λb=>
 (ix a.L 0).bind λv2=>
 some ((⟨b,a.Cap⟩:C6),v2,0)
def eF(b:e6)(a:Int):Option Bool:=
 (B8 ((a==0)==false) false (gB b a)).bind λc=>
 some ((a==0)||c)
def ax(a:e6)(b:Int)(c:Int):Option (e6 × Int):=
 if ((decide (b<0))||(decide (b > 5))) then
  some (a,6)
 else
 (eF a c).bind λf=>
 if (!f) then
  some (a,3)
 else
 (ix a.Roots b).bind λv2=>
 (bY a c).bind λv3=>
 (app 8 [] a.Roots).bind λe=>
 (ix e b).bind λi=>
 (H5 (⟨v3.S,(e.set (b).toNat c),v3.a8,v3.T,v3.Q⟩:e6) v2).bind λg=>
 some (g,0)
def mY(e:C6)(f:Int):Option Bool:=
 jn (λ(_:Unit)=>
  some false) (λc=>
  (lp (E:=Bool ⊕ Unit) (λ(b:Int)=>
   if (decide (b<(e.L.length:Int))) then
    (ix e.L b).bind λa=>
    if ((a.Kind==2)&&(a.At==f)) then
     some (.inr (.inl true))
    else
    some (.inl (z8 (b+1)))
   else
   some (.inr (.inr ()))) 0).bind λg=>
  match g with
  | .inl w=>some w
  | .inr w=>c w)
def AR(b:List u6)(a:Int)(c:Int)(f:Int):Option ((List u6) × Int × Int):=
 if ((decide (a<0))||(decide (a>=(b.length:Int)))) then
  some (b,0,7)
 else
 (app 24 [] b).bind λe=>
 (ix e a).bind λv2=>
 (ix b a).bind λv3=>
 some ((e.set (a).toNat (⟨c,(c != 0),f⟩:u6)),v3.Target,0)
def bZ(a:e6)(b:Int):Option e6:=
 (R6 a.S).bind λe=>
 (W1 e b).bind λv2=>
 if (v2.2 != 0) then
  some a
 else
 (ix a.S.a8 v2.1).bind λv3=>
 (R7 a.S b (⟨v3.Val.Serial,v3.Val.Strong,z8 (v3.Val.Weak-1),v3.Val.Prog,v3.Val.Started,v3.Val.Fields⟩:J2)).bind λc=>
 (ix c.1.a8 v2.1).bind λf=>
 if ((f.State==2)&&(decide ((z8 (v3.Val.Weak-1))<1))) then
  (qI c.1 b).bind λg=>
  some (⟨g,a.Roots,a.a8,a.T,a.Q⟩:e6)
 else
 some (⟨c.1,a.Roots,a.a8,a.T,a.Q⟩:e6)
def fF(a:e6)(b:Int)(e:Int)(f:Int):Option (e6 × Int):=
 (B8 (((decide (b<0))||(decide (b > 5)))==false) false (mY a.Q b)).bind λg=>
 if (((decide (b<0))||(decide (b > 5)))||g) then
  some (a,7)
 else
 (eF a e).bind λv2=>
 if (!v2) then
  some (a,3)
 else
 (AR a.a8 b e f).bind λv3=>
 if (e != 0) then
  (K0 a.S e).bind λc=>
  (R7 a.S e (⟨c.1.Serial,c.1.Strong,z8 (c.1.Weak+1),c.1.Prog,c.1.Started,c.1.Fields⟩:J2)).bind λi=>
  (bZ (⟨i.1,a.Roots,v3.1,a.T,a.Q⟩:e6) v3.2.1).bind λj=>
  some (j,0)
 else
 (bZ (⟨a.S,a.Roots,v3.1,a.T,a.Q⟩:e6) v3.2.1).bind λk=>
 some (k,0)
def ay(b:e6)(c:Int):Option (Int × Int):=
 (ix b.Roots c).bind λa=>
 if (a==0) then
  some (0,2)
 else
 some (a,0)
def kg(b:e6)(a:Int):Option Int:=
 if (decide (a<0)) then
  some 0
 else
 (ix b.Roots a).bind λc=>
 some c
def xF(b:List Int)(a:Int):Option (Int × Int):=
 if ((decide (a<0))||(decide (a>=(b.length:Int)))) then
  some (0,5)
 else
 (ix b a).bind λc=>
 some (c,0)
def gy(b:p7)(c:Int)(e:Int):Option (Int × Int):=
 (K0 b c).bind λa=>
 if (a.2 != 0) then
  some (0,a.2)
 else
 (xF a.1.Fields e).bind λv2=>
 some (v2.1,v2.2)
def Co(b:List Int)(a:Int)(e:Int):Option ((List Int) × Int):=
 if ((decide (a<0))||(decide (a>=(b.length:Int)))) then
  some (b,5)
 else
 (app 8 [] b).bind λc=>
 (ix c a).bind λv2=>
 some ((c.set (a).toNat e),0)
def AQ(b:p7)(c:Int)(e:Int)(f:Int):Option (p7 × Int):=
 (K0 b c).bind λa=>
 if (a.2 != 0) then
  some (b,a.2)
 else
 (Co a.1.Fields e f).bind λv2=>
 if (v2.2 != 0) then
  some (b,v2.2)
 else
 (R7 b c (⟨a.1.Serial,a.1.Strong,a.1.Weak,a.1.Prog,a.1.Started,v2.1⟩:J2)).bind λv3=>
 some (v3.1,v3.2)
def jC(a:e6)(e:Int)(f:Int)(b:Int):Option (e6 × Int):=
 (gy a.S e f).bind λc=>
 if (c.2 != 0) then
  some (a,c.2)
 else
 (eF a b).bind λv2=>
 if (!v2) then
  some (a,3)
 else
 (bY a b).bind λv3=>
 (AQ v3.S e f b).bind λg=>
 (H5 (⟨g.1,v3.Roots,v3.a8,v3.T,v3.Q⟩:e6) c.1).bind λi=>
 some (i,0)
def Cq(a:Int)(c:Int):Option Int:=
 if (decide (a<1)) then
  some 0
 else
 (rem (z8 ((z8 (5*c))+1)) a).bind λb=>
 if (decide (b<0)) then
  some (z8 (b+a))
 else
 some b
def AS(a:List o7)(f:Int)(m:Int):Option ((List o7) × Int):=
 (fE a f).bind λn=>
 if (decide (n>=0)) then
  (dy a n (⟨1,f,m⟩:o7)).bind λv2=>
  some (v2,0)
 else
 (Cq (a.length:Int) f).bind λv3=>
 jn (λ(_:Unit)=>
  some (a,8)) (λe=>
  (lp (E:=((List o7) × Int) ⊕ Unit) (λ((b,c):Int × Int)=>
   if (decide (c<(a.length:Int))) then
    (ix a b).bind λi=>
    if (i.State != 1) then
     (dy a b (⟨1,f,m⟩:o7)).bind λj=>
     some (.inr (.inl (j,0)))
    else
    (rem (z8 (b+1)) (a.length:Int)).bind λk=>
    some (.inl (k,z8 (c+1)))
   else
   some (.inr (.inr ()))) (v3,0)).bind λg=>
  match g with
  | .inl w=>some w
  | .inr w=>e w)
def AT(a:List o7)(b:Int)(c:Int):Option ((List o7) × Int × Int):=
 if (b==0) then
  some (a,0,2)
 else
 (rZ a b).bind λe=>
 if (c==0) then
  (mV a b).bind λv2=>
  some (v2.1,e.1,0)
 else
 (AS a b c).bind λv3=>
 if (v3.2 != 0) then
  some (a,0,v3.2)
 else
 some (v3.1,e.1,0)
def mZ(a:e6)(c:Int)(e:Int):Option (e6 × Int):=
 if (c==0) then
  some (a,2)
 else
 (gB a c).bind λf=>
 (B8 ((!f)==false) false (eF a e)).bind λv2=>
 if ((!f)||(!v2)) then
  some (a,3)
 else
 (AT a.T c e).bind λv3=>
 if (v3.2.2 != 0) then
  some (a,v3.2.2)
 else
 (bY a e).bind λb=>
 (H5 (⟨b.S,b.Roots,b.a8,v3.1,b.Q⟩:e6) v3.2.1).bind λg=>
 some (g,0)
def cK(b:e6)(a:u7):Option (e6 × Int × Int):=
 if ((a.Kind==6)&&(decide (a.B<0))) then
  (fF b a.A 0 a.C).bind λf=>
  some (f.1,0,f.2)
 else
 jn (λ(n:Int)=>
  (ay b n).bind λc=>
  if (c.2 != 0) then
   some (b,0,c.2)
  else
  if (a.Kind==5) then
   (kg b a.C).bind λg=>
   (jC b c.1 a.B g).bind λi=>
   some (i.1,g,i.2)
  else
  if (a.Kind==6) then
   (fF b a.A c.1 a.C).bind λj=>
   some (j.1,c.1,j.2)
  else
  (kg b a.B).bind λk=>
  (mZ b c.1 k).bind λm=>
  some (m.1,k,m.2)) (λe=>
  if (a.Kind==6) then
   e a.B
  else
  e a.A)
def vI(a:Int):Option ((List Int) × Int):=
 if ((decide (a<0))||(decide (a > 4))) then
  some ([],1)
 else
 (mk 8 a (0:Int)).bind λb=>
 some (b,0)
def mS(c:B2)(i:Int):Option (B2 × Int × Int):=
 jn (λ(_:Unit)=>
  some (c,0,4)) (λg=>
  (lp (E:=(B2 × Int × Int) ⊕ Unit) (λ(a:Int)=>
   if (decide (a<(c.a8.length:Int))) then
    (ix c.a8 a).bind λb=>
    if (b.State==0) then
     (aV c a (⟨1,b.Gen,i⟩:A7)).bind λe=>
     (kc a b.Gen).bind λf=>
     some (.inr (.inl (e,f,0)))
    else
    some (.inl (z8 (a+1)))
   else
   some (.inr (.inr ()))) 0).bind λj=>
  match j with
  | .inl w=>some w
  | .inr w=>g w)
def fD(a:p7)(f:Int)(b:Int):Option (p7 × Int × Int):=
 (vI f).bind λc=>
 if (c.2 != 0) then
  some (a,0,c.2)
 else
 if ((decide (b<(-1)))||(decide (b > 5))) then
  some (a,0,13)
 else
 (R6 a).bind λv2=>
 (mS v2 0).bind λv3=>
 if (v3.2.2 != 0) then
  some (a,0,v3.2.2)
 else
 (bW a v3.1).bind λg=>
 (mQ v3.2.1).bind λi=>
 (dx g i (⟨z8 (a.Serial+1),0,0,b,false,c.1⟩:J2)).bind λe=>
 some ((⟨e.a8,e.Last,z8 (a.Serial+1)⟩:p7),v3.2.1,0)
def qK(c:List u6)(a:Int):Option (Int × Int):=
 if ((decide (a<0))||(decide (a>=(c.length:Int)))) then
  some (0,7)
 else
 (ix c a).bind λb=>
 if ((b.Target==0)||(!b.Intact)) then
  some (0,9)
 else
 some (b.Target,0)
def vO(b:List o7)(c:Int):Option (Int × Int):=
 (rZ b c).bind λa=>
 some (a.1,a.2)
def eG(b:e6)(a:u7):Option (Int × Int):=
 if (a.Kind==2) then
  (ix b.Roots a.B).bind λg=>
  some (g,0)
 else
 if (a.Kind==4) then
  (ay b a.B).bind λv2=>
  if (v2.2 != 0) then
   some (0,v2.2)
  else
  (gy b.S v2.1 a.C).bind λv3=>
  some (v3.1,v3.2)
 else
 if (a.Kind==7) then
  (qK b.a8 a.B).bind λe=>
  some (e.1,e.2)
 else
 if (a.Kind==9) then
  (ay b a.B).bind λc=>
  if (c.2 != 0) then
   some (0,c.2)
  else
  (vO b.T c.1).bind λf=>
  some (f.1,f.2)
 else
 some (0,0)
def F6(b:e6)(a:u7):Option (e6 × Int × Int):=
 (cJ a).bind λp=>
 if (p != 0) then
  some (b,0,p)
 else
 (X0 a).bind λv2=>
 if (!v2) then
  some (b,0,14)
 else
 if (a.Kind==10) then
  (ix b.Roots a.A).bind λv3=>
  (ix b.Roots a.B).bind λr=>
  if (v3==r) then
   some (b,1,0)
  else
  some (b,0,0)
 else
 jn (λ(q:Bool)=>
  if q then
   (cK b a).bind λj=>
   if (j.2.2 != 0) then
    some (b,0,j.2.2)
   else
   (T5 j.1).bind λs=>
   (dX b j.2.1).bind λt=>
   some (s,t,0)
  else
  if (a.Kind==1) then
   (fD b.S a.B a.C).bind λc=>
   if (c.2.2 != 0) then
    some (b,0,c.2.2)
   else
   (ax (⟨c.1,b.Roots,b.a8,b.T,b.Q⟩:e6) a.A c.2.1).bind λk=>
   (T5 k.1).bind λg=>
   (pd g a.A).bind λm=>
   some (g,m,0)
  else
  (eG b a).bind λe=>
  if (e.2 != 0) then
   some (b,0,e.2)
  else
  (ax b a.A e.1).bind λn=>
  (T5 n.1).bind λi=>
  (pd i a.A).bind λo=>
  some (i,o,0)) (λf=>
  if (a.Kind==5) then
   f (a.Kind==5)
  else
  if (a.Kind==6) then
   f (a.Kind==6)
  else
  f (a.Kind==8))
def wa(o:e6)(n:List u7):Option (e6 × (List Int)):=
 jn (λ((i,j):e6 × (List Int))=>
  some (i,j)) (λf=>
  (lp (E:=(e6 × (List Int))) (λ((a,b,c):Int × e6 × (List Int))=>
   if (decide (a<(n.length:Int))) then
    (ix n a).bind λk=>
    (F6 b k).bind λe=>
    (app 8 c [e.2.1]).bind λm=>
    some (.inl (z8 (a+1),e.1,m))
   else
   some (.inr (b,c))) (0,o,[])).bind λg=>
  f g)
def wb(b:e6)(k:List (List u7)):Option (e6 × y4 × Int):=
 (vX b.Q).bind λa=>
 if (a.2.2 != 0) then
  some (b,(⟨0,0,0⟩:y4),a.2.2)
 else
 jn (λ(m:e6)=>
  (nh k a.2.1.Prog).bind λn=>
  (wa m n).bind λj=>
  if (a.2.1.Kind==1) then
   (ax j.1 5 0).bind λo=>
   (T5 o.1).bind λe=>
   some (e,a.2.1,0)
  else
  some (j.1,a.2.1,0)) (λc=>
  if (a.2.1.Kind==1) then
   (ax (⟨b.S,b.Roots,b.a8,b.T,a.1⟩:e6) 5 a.2.1.At).bind λf=>
   (H5 f.1 a.2.1.At).bind λg=>
   (T5 g).bind λi=>
   c i
  else
  c (⟨b.S,b.Roots,b.a8,b.T,a.1⟩:e6))
def nf(q:e6)(p:List (List u7))(r:Int):Option (e6 × Int × Int × Int):=
 jn (λ((i,j,k):Int × Int × e6)=>
  some (k,j,i,0)) (λf=>
  (lp (E:=(e6 × Int × Int × Int) ⊕ (Int × Int × e6)) (λ((b,c,a):Int × Int × e6)=>
   (ng a).bind λm=>
   if (!m) then
    (ix a.Q.L 0).bind λn=>
    (nc p n).bind λe=>
    if (decide (e > b)) then
     some (.inr (.inl (a,c,b,12)))
    else
    (wb a p).bind λo=>
    some (.inl (z8 (b-e),z8 (c+1),o.1))
   else
   some (.inr (.inr (b,c,a)))) (r,0,q)).bind λg=>
  match g with
  | .inl w=>some w
  | .inr w=>f w)
def xH(a:E4)(e:List Int):Option (E4 × M6):=
 (dW e).bind λb=>
 if (b.2 != 0) then
  some (a,(⟨0,b.2⟩:M6))
 else
 if (b.1.Kind==11) then
  (ly a.X).bind λv2=>
  some ((⟨v2.1,a.Progs⟩:E4),(⟨z8 (v2.2.2-v2.2.1),0⟩:M6))
 else
 if (b.1.Kind==12) then
  (nf a.X a.Progs b.1.A).bind λv3=>
  some ((⟨v3.1,a.Progs⟩:E4),(⟨v3.2.1,v3.2.2.2⟩:M6))
 else
 (F6 a.X b.1).bind λc=>
 some ((⟨c.1,a.Progs⟩:E4),(⟨c.2.1,c.2.2⟩:M6))
def nk(a:M6):Option ByteArray:=
 if (a.E != 0) then
  (ca a.E).bind λb=>
  (ra (r9 [101,114,114,111,114,32]) b).bind λv2=>
  some v2
 else
 (ca a.V).bind λv3=>
 some v3
def np(e:D8)(q:List ByteArray):Option (D8 × ByteArray):=
 (cut q 1 (q.length:Int)).bind λK=>
 (lz K).bind λv2=>
 (B8 ((!v2.2)==false) (ByteArray.empty:ByteArray) (ix q 0)).bind λv3=>
 (B8 ((!v2.2)==false) false (wc v3 (v2.1.length:Int))).bind λN=>
 if ((!v2.2)||(!N)) then
  some (e,(r9 [101,114,114,111,114,32,51,51]))
 else
 (ix q 0).bind λk=>
 if (k.toList==(r9 [112,114,111,103]).toList) then
  (lA e v2.1).bind λH=>
  some (H.1,H.2)
 else
 if (k.toList==(r9 [104,101,97,112]).toList) then
  (ix v2.1 0).bind λP=>
  (ix v2.1 1).bind λQ=>
  (ix v2.1 2).bind λR=>
  (sq P Q R e.progs).bind λj=>
  if (j.2 != 0) then
   (ca j.2).bind λt=>
   (ra (r9 [101,114,114,111,114,32]) t).bind λu=>
   some (e,u)
  else
  some ((⟨j.1,true,e.progs⟩:D8),(r9 [111,107]))
 else
 if (!e.has) then
  some (e,(r9 [110,111,32,104,101,97,112]))
 else
 jn (λ(_:Unit)=>
  (nn k).bind λv=>
  (app 8 [v.1] v2.1).bind λw=>
  (app 8 w [0,0,0]).bind λx=>
  (cut x 0 4).bind λy=>
  (xH e.g y).bind λn=>
  (nk n.2).bind λz=>
  some ((⟨n.1,e.has,e.progs⟩:D8),z)) (λo=>
  if (k.toList==(r9 [108,105,118,101,115]).toList) then
   (ni e.g).bind λh=>
   (nq (r9 [108,105,118,101,115]) h).bind λA=>
   some (e,A)
  else
  if (k.toList==(r9 [114,111,111,116,115]).toList) then
   jn (λ(s:List Int)=>
    (nq (r9 [114,111,111,116,115]) s).bind λB=>
    some (e,B)) (λp=>
    (lp (E:=(List Int)) (λ((i,m):Int × (List Int))=>
     if (decide (i<6)) then
      (pd e.g.X i).bind λC=>
      (app 8 m [C]).bind λF=>
      some (.inl (z8 (i+1),F))
     else
     some (.inr m)) (0,[])).bind λr=>
    p r)
  else
  if (k.toList==(r9 [116,97,108,108,121]).toList) then
   (nj e.g).bind λf=>
   (nq (r9 [116,97,108,108,121]) [f.a,f.b,f.c,f.d]).bind λG=>
   some (e,G)
  else
  o ())
def ss(m:ByteArray):Option (List ByteArray):=
 (su m).bind λk=>
 jn (λ(f:List ByteArray)=>
  some f) (λe=>
  (lp (E:=(List ByteArray)) (λ((a,g,b):Int × D8 × (List ByteArray))=>
   if (decide (a<(k.length:Int))) then
    (ix k a).bind λi=>
    (np g i).bind λc=>
    (app 16 b [c.2]).bind λj=>
    some (.inl (z8 (a+1),c.1,j))
   else
   some (.inr b)) (0,(⟨⟨⟨⟨[],0,0⟩,[],[],[],⟨[],0⟩⟩,[]⟩,false,[]⟩:D8),[])).bind λVr=>
  e Vr)
def sI(b:List ByteArray)(g:List ByteArray):Option Bool:=
 if ((b.length:Int) != (g.length:Int)) then
  some false
 else
 jn (λ(_:Unit)=>
  some true) (λf=>
  (lp (E:=Bool ⊕ Unit) (λ(a:Int)=>
   if (decide (a<(b.length:Int))) then
    (ix b a).bind λc=>
    (ix g a).bind λe=>
    if (!(c.toList==e.toList)) then
     some (.inr (.inl false))
    else
    some (.inl (z8 (a+1)))
   else
   some (.inr (.inr ()))) 0).bind λi=>
  match i with
  | .inl w=>some w
  | .inr w=>f w)
def cS(a:ByteArray):Option Bool:=
 (B8 ((decide ((a.size:Int) > 600))==false) false sH).bind λb=>
 if ((decide ((a.size:Int) > 600))||(!b)) then
  (sH).bind λv2=>
  some v2
 else
 (dm a).bind λv3=>
 (ss a).bind λc=>
 (sI v3 c).bind λe=>
 some e
end
end Go.Sh
