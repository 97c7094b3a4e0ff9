/- A part. -/
import Derived.Test.YtmgbbnfgfmfgaaaGreatQ22aSh
import Derived.Test.YtmgbbnfgfmfgaaaGreatQ22aSh1
set_option linter.unusedVariables false
set_option linter.unusedSimpArgs false
set_option linter.unusedSectionVars false
namespace Go.Sh
def sp(h:Int):Prop:=1<=h/\(h-1) % 32<24/\(h-1) / 32<=9
instance(h:Int):Decidable (sp h):=by unfold sp;infer_instance
theorem Dd{h:Int}(q:sp h):1<=h/\h<=320:=by unfold sp at q;omega
theorem oX{i g:Int}(h1:0<=i)(h2:i<24)(h3:0<=g)(h4:g<=9):eC i g=some (1+i+32*g):=by
 unfold eC;rw[za (by simp;omega)];rw[show w9 (i*1)=i by rw[jr];omega,show w9 (1+i)=1+i by rw[jr];omega,show w9 (g*32)=32*g by rw[jr];omega,show w9 (1+i+32*g)=1+i+32*g by rw[jr];omega]
theorem Ge{i g:Int}:ua i g=some (if 0<=i/\i<24/\0<=g/\g<=9 then 1+i+32*g else 0):=by
 unfold ua;split;·rename_i h;rw[za (by simp at h;omega)]
 .rename_i h;have h:0<=i/\i<24/\0<=g/\g<=9:=by simp at h;omega
  rw[zb h];rw[show w9 (1+i)=1+i by rw[jr];omega,show w9 (32*g)=32*g by rw[jr];omega,show w9 (1+i+32*g)=1+i+32*g by rw[jr];omega]
theorem nV{h:Int}(hh:h<=9223372036854775807):eY h=some (if sp h then ((h-1) % 32,(h-1) / 32,true) else (-1,-1,false)):=by
 unfold eY;split
 .rename_i q;rw[za (by unfold sp;simp at q;omega)]
 .rename_i q;have q:1<=h:=by simpa using q
  rw[U2 (n:=h-1),xE (by omega) (by omega),a0q,xA (by omega) (by omega) (by omega),a0q,xA (by omega) (by omega) (by omega),a0q,Int.ediv_one];split
  .rename_i q2;rw[za (by unfold sp;simp at q2;omega)]
  .rename_i q2;rw[zb (by unfold sp;simp at q2;omega)]
theorem jN{h:Int}(hh:h<=9223372036854775807):gX h=some (if sp h then (h-1) % 32 else -1):=by
 unfold gX;rw[nV hh,a0q];split <;> rfl
theorem lz{h:Int}(hh:h<=9223372036854775807):jM h=some (if sp h then (h-1) / 32 else -1):=by
 unfold jM;rw[nV hh,a0q];split <;> rfl
theorem uc{h:Int}:mg h=some (decide (sp h)):=by
 unfold mg;split
 .rename_i q;rw[zQ (by unfold sp;simp at q;omega)]
 .rename_i q;have q:1<=h/\h<=400:=by simp at q;omega
  rw[U2 (n:=h-1),xE (by omega) (by omega),a0q,xA (by omega) (by omega) (by omega),a0q,Ge,a0q];congr 1;by_cases k:sp h
  .rw[zC k,zb (by unfold sp at k;omega)];simp;omega
  .rw[zQ k,za (by unfold sp at k;omega)];simp;omega
theorem Gg{h:Int}:ub h=some (if sp h then (h-1) % 32 else -1):=by
 unfold ub;rw[uc,a0q];by_cases k:sp h
 .have:=Dd k;rw[zC k,za (by simp),zb k,U2 (n:=h-1),xE (by omega) (by omega),a0q]
 .rw[zQ k,zb (by simp),za k]
theorem HX{h:Int}:xB h=some (if sp h then (h-1) / 32 else -1):=by
 unfold xB;rw[uc,a0q];by_cases k:sp h
 .have:=Dd k;rw[zC k,za (by simp),zb k,U2 (n:=h-1),xA (by omega) (by omega) (by omega),a0q]
 .rw[zQ k,zb (by simp),za k]
abbrev z0:n0:=⟨0,0,0,0,false,[]⟩
structure SlO (s:l4):Prop where
 len:s.b7.length<=24
 l0:0<=s.Last
 l9:s.Last<=9
 cell:∀i (h:i<s.b7.length),0<=s.b7[i].State/\s.b7[i].State<=3/\0<=s.b7[i].Gen/\s.b7[i].Gen<=s.Last
theorem mF{s:l4}{i:Int}{k:Nat}{c:c8}(hi:i=k)(hk:k<s.b7.length)(hl:s.b7.length<=24):E5 s i c=some ⟨s.b7.set k c,s.Last⟩:=by
 subst hi;unfold E5 z6;rw[dI (by omega) (by omega),a0q,s7 hk,a0q,zP]
theorem Ee{s:l4}(hR:SlO s)(v:n0) :
  (∃i,∃h:i<s.b7.length,s.b7[i].State=0/\(∀j (hj:j<i),s.b7[j].State≠0)/\M4 s v=some (⟨s.b7.set i ⟨1,s.b7[i].Gen,v⟩,s.Last⟩,1+i+32*s.b7[i].Gen,0)) \/
  ((∀i (h:i<s.b7.length),s.b7[i].State≠0)/\M4 s v=some (s,0,4)):=by
 have hlen:=hR.len;by_cases q:∃i,∃h:i<s.b7.length,s.b7[i].State=0
 .obtain⟨i,⟨hi,h0⟩,hmin⟩:=dQ (p:=λi=>∃h:i<s.b7.length,s.b7[i].State=0) q;left;refine⟨i,hi,h0,λj hj=>λe=>by have:=hmin j ⟨by omega,e⟩;omega,?_⟩;unfold M4;simp only[jn,Q9,a0q];have hc:=hR.cell i hi;refine db s.b7.length (λk=>k<=i) (by omega) (by omega) (λk hk hP=>?_) (λhP=>by omega);rcases zE k i with g | g
  .refine .inl ⟨?_,g⟩;have:s.b7[k].State≠0:=λe=>by have:=hmin k ⟨hk,e⟩;omega
   simp only[we,hk,wt,zY,s7 hk,a0q];rw[za (by simpa using this),o0]
  .have:k=i:=by omega
   subst this;refine .inr ⟨.inl _,?_,rfl⟩;simp only[we,hk,wt,zY,s7 hk,a0q,h0,mF rfl hk hlen];rw[oX (by omega) (by omega) hc.2.2.1 (by have:=hR.l9;omega)];simp
 .right;refine⟨λi h e=>q ⟨i,h,e⟩,?_⟩;unfold M4;simp only[jn,Q9,a0q];refine db s.b7.length (λk=>True) (by omega) trivial (λk hk _=>?_) (λhP=>⟨.inr (),by simp,rfl⟩);refine .inl ⟨?_,trivial⟩;have:s.b7[k].State≠0:=λe=>q ⟨k,hk,e⟩;simp only[we,hk,wt,zY,s7 hk,a0q];rw[za (by simpa using this),o0]
def wJ(s:l4)(h:Int)(i:Nat):Prop:=∃hi:i<s.b7.length,sp h/\(h-1) % 32=i/\s.b7[i].Gen=(h-1) / 32/\(s.b7[i].State=1\/s.b7[i].State=2)
theorem jc(s:l4){h:Int}(hh:h<=9223372036854775807) :
  (∃i,wJ s h i/\x6 s h=some ((i:Int),0))\/((∀i,¬wJ s h i)/\x6 s h=some (-1,if h=0 then 2 else 3)):=by
 unfold x6;by_cases h0:h=0
 .right;subst h0;exact⟨λi ⟨_,h1,_⟩=>by unfold sp at h1;omega,by simp⟩
 .rw[za (by simpa using h0),jN hh,a0q,za h0];by_cases hd:sp h
  .rw[zb hd];have hd':=hd;unfold sp at hd';obtain⟨k,hk⟩:∃k:Nat,(h-1) % 32=k:=⟨((h-1) % 32).toNat,by omega⟩;rw[hk];by_cases hl:k<s.b7.length
   .rw[za (by simp;omega),s7 hl,a0q,lz hh,a0q,zb hd];by_cases g:s.b7[k].Gen=(h-1) / 32/\(s.b7[k].State=1\/s.b7[k].State=2)
    .left;refine⟨k,⟨hl,hd,hk,g⟩,?_⟩;rw[za];simp;omega
    .right;refine⟨λi ⟨hi,_,h2,h3⟩=>?_,?_⟩
     .have:i=k:=by omega
      subst this;exact g h3
     .rw[zb];simp;omega
   .right;refine⟨λi ⟨hi,_,h2,h3⟩=>by omega,?_⟩;rw[zb (by simp;omega)]
  .right;refine⟨λi ⟨hi,h1,_⟩=>hd h1,?_⟩;rw[za hd,zb (by simp)]
theorem ve{s:l4}{h:Int}{i:Nat}(hf:wJ s h i):x6 s h=some ((i:Int),0):=by
 have hh:=Dd hf.2.1;rcases jc s (h:=h) (by omega) with ⟨j,h1,h2⟩ | ⟨h1,_⟩
 .obtain⟨_,_,e1,_⟩:=hf;obtain⟨_,_,e2,_⟩:=h1;have:i=j:=by omega
  subst this;exact h2
 .exact absurd hf (h1 i)
theorem BG{s:l4}{h:Int}(hh:h<=9223372036854775807)(hf:∀i,¬wJ s h i):x6 s h=some (-1,if h=0 then 2 else 3):=by
 rcases jc s hh with ⟨j,h1,_⟩ | ⟨_,h2⟩;·exact absurd h1 (hf j)
 .exact h2
theorem oT(h:Int):(if h=0 then 2 else 3:Int)≠0:=by split <;> omega
theorem Fl{s:l4}{h:Int}{i:Nat}(hf:wJ s h i):∃hi:i<s.b7.length,F3 s h=some (if s.b7[i].State=2 then (z0,3) else (s.b7[i].Val,0)):=by
 refine⟨hf.1,?_⟩;unfold F3;rw[ve hf,a0q,za (by simp),s7 hf.1,a0q];split <;> rename_i q
 .rw[zb (by simpa using q)]
 .rw[za (by simpa using q)]
theorem yB{s:l4}{h:Int}(hh:h<=9223372036854775807)(hf:∀i,¬wJ s h i):F3 s h=some (z0,if h=0 then 2 else 3):=by
 unfold F3;rw[BG hh hf,a0q,zb (by simpa using oT h)]
theorem PC{s:l4}{h:Int}{v:n0}{i:Nat}(hl:s.b7.length<=24)(hf:wJ s h i):∃hi:i<s.b7.length,aP s h v=some (⟨s.b7.set i ⟨s.b7[i].State,s.b7[i].Gen,v⟩,s.Last⟩,0):=by
 refine⟨hf.1,?_⟩;unfold aP;rw[ve hf,a0q,za (by simp),s7 hf.1,a0q,mF rfl hf.1 hl,a0q]
def oo(o:n0):bH:=⟨o.Serial,o.Strong,o.Weak,o.Prog,o.Started,o.Fields⟩
def cO(c:c8):B8:=⟨c.State,c.Gen,oo c.Val⟩
def sO(s:b6):F1:=⟨s.S.b7.map cO,s.S.Last,s.Serial⟩
def Sm(s:b6):Prop:=s.S.b7.length<=30/\∀i (h:i<s.S.b7.length),s.S.b7[i].Val.Fields.length<=10
instance(s:b6):Decidable (Sm s):=by unfold Sm;infer_instance
def SJ(i:Nat)(c:B8):G6:=⟨c.State,c.Gen,(i:Int)⟩
def pl(t:F1):U0:=⟨t.b7.mapIdx SJ,t.Last⟩
theorem SI(t:F1)(h:t.b7.length<=1000):qf t=some (pl t):=by
 unfold qf;simp only[jn];refine Y8 t.b7.length (λk acc=>acc=(t.b7.mapIdx SJ).take k) (by omega) (by simp) (λk acc hk hP=>?_) (λacc hP=>?_)
 .subst hP;refine .inl ⟨_,?_,rfl⟩;simp only[we,hk,wt,zY,s7 hk,a0q];rw[J3 (by omega) (by simp;omega),a0q,o0];have e:(t.b7.mapIdx SJ).take (k+1)=(t.b7.mapIdx SJ).take k ++ [SJ k t.b7[k]]:=by
   rw[List.take_add_one,zc (by simpa using hk)];simp
  rw[e];rfl
 .subst hP;rw[List.take_of_length_le (by simp)];exact⟨t.b7.mapIdx SJ,by simp only[zbh,zbq,zA,ul],rfl⟩
def Qe(c:B8):Prop:=c.State=1\/c.State=2
instance(c:B8):Decidable (Qe c):=by unfold Qe;infer_instance
def XE(t:F1)(o:bH):Prop:=1<=o.Serial/\o.Serial<=t.Serial/\0<=o.Strong/\0<=o.Weak /\ -1<=o.Prog/\o.Prog<=5/\o.Fields.length<=4
def KJ(o:bH):Prop:=o.Serial=0/\o.Strong=0/\o.Weak=0/\o.Prog=0/\o.Started=false/\o.Fields.length=0
structure wL (t:F1):Prop where
 len:t.b7.length<=24
 l0:0<=t.Last
 l9:t.Last<=9
 aR:0<=t.Serial
 cell:∀i (h:i<t.b7.length),0<=t.b7[i].State/\t.b7[i].State<=3/\0<=t.b7[i].Gen/\t.b7[i].Gen<=t.Last
 no:∀i (h:i<t.b7.length),¬Qe t.b7[i]->KJ t.b7[i].Val
 ok:∀i (h:i<t.b7.length),Qe t.b7[i]->XE t t.b7[i].Val
 dif:∀i (h:i<t.b7.length) k (hk:k<i),Qe t.b7[i]->Qe t.b7[k]->t.b7[k].Val.Serial≠t.b7[i].Val.Serial
theorem Gw{c:Int->Int->Option Int}{xs:List Int}(key:Int->Int)(hc:∀x y,∃r,c x y=some r/\(r<0↔key x<key y))(hl:xs.length<4611686018427387904) :
  ∃ys,vO c xs=some ys/\ys.Perm xs/\ys.Pairwise (λa b=>key a<=key b):=by
 have hlt:∀x y,Go.Proofs.ltOf (λx y=>(c x y).getD 0) x y=decide (key x<key y):=λx y=>by
  obtain⟨r,h1,h2⟩:=hc x y;show decide ((c x y).getD 0<0)=_;rw[h1,un];exact zbd.2 h2
 have hO:Go.Sort.SWO (Go.Proofs.ltOf λx y=>(c x y).getD 0):=by
  refine⟨λx=>?_,λx y z=>?_,λx y z=>?_⟩;·rw[hlt];simp
  .rw[hlt,hlt,hlt];simp;omega
  .rw[hlt,hlt,hlt];simp;omega
 have hcond:(∀x y,(c x y).isSome=true)/\Go.Sort.SWO (Go.Proofs.ltOf λx y=>(c x y).getD 0)/\xs.length<4611686018427387904:=⟨λx y=>by
  obtain⟨r,h1,_⟩:=hc x y;rw[h1];rfl,hO,hl⟩
 unfold vO;rw[zb hcond];refine⟨_,rfl,?_⟩;obtain⟨⟨p1,p2,p3⟩,p4⟩:=Go.Sort.pdq_sorts (Go.Proofs.ltOf λx y=>(c x y).getD 0) hO xs.toArray 0 xs.length (Go.Lib.bitLen xs.length) true true (zX _) (by simp) (Or.inl rfl);generalize Go.Sort.pdq (Go.Proofs.ltOf λx y=>(c x y).getD 0) xs.toArray 0 xs.length (Go.Lib.bitLen xs.length) true true=d at p1 p2 p3 p4 |-;have hs:d.size=xs.length:=by simpa using p1
 refine⟨?_,?_⟩
 .have e1:d.extract 0 xs.length=d:=by rw[<-hs];exact Array.extract_size
  have e2:xs.toArray.extract 0 xs.length=xs.toArray:=by
   simp
  rw[e1,e2] at p3;simpa using p3
 .rw[za5];intro i j hi hj hij;have hi':i<d.size:=by simpa using hi
  have hj':j<d.size:=by simpa using hj
  have:=p4 i j (zX _) hij (by omega);rw[hlt,getElem!_pos d j hj',getElem!_pos d i hi'] at this;have:=of_decide_eq_false this;simp only[Array.getElem_toList];omega
def du:Nat->List c8->List Int
 | _,[]=>[]
 | k,c::r=>(if c.State=1 then [1+(k:Int)+32*c.Gen] else [])++du (k+1) r
theorem vh(c:c8):∀(k:Nat) (xs:List c8),du k (xs ++ [c])=du k xs++(if c.State=1 then [1+((k+xs.length:Nat):Int)+32*c.Gen] else [])
 | k,[]=>by simp[du]
 | k,x::r=>by
  simp only[List.cons_append,du,vh c (k+1) r,zah,zH];rw[show k+1+r.length=k+(r.length+1) by omega]
theorem tz:∀(k:Nat) (xs:List c8),(du k xs).length<=xs.length
 | _,[]=>by simp[du]
 | k,c::r=>by
  have:=tz (k+1) r;simp only[du,zL,zH];split <;> simp <;> omega
theorem pe{h:Int}:∀ {k:Nat} {xs:List c8},h∈du k xs↔∃i,∃hi:i<xs.length,xs[i].State=1/\h=1+((k+i:Nat):Int)+32*xs[i].Gen
 | k,[]=>by simp[du]
 | k,c::r=>by
  simp only[du,zu,pe (k:=k+1) (xs:=r)];constructor
  .rintro (q | ⟨i,hi,q1,q2⟩)
   .by_cases hc:c.State=1
    .rw[zb hc] at q;exact⟨0,by simp,by simpa using hc,by simpa using q⟩
    .rw[za hc] at q;cases q
   .exact⟨i+1,by simpa using hi,by simpa using q1,by simp only[List.getElem_cons_succ];rw[q2,show k+1+i=k+(i+1) by omega]⟩
  .rintro⟨i,hi,q1,q2⟩;cases i with
   | zero=>
    left;simp only[List.getElem_cons_zero] at q1 q2;rw[zb q1];simp[q2]
   | succ i=>
    right;simp only[List.getElem_cons_succ] at q1 q2;exact⟨i,by simpa using hi,q1,by rw[q2,show k+1+i=k+(i+1) by omega]⟩
def sk(cs:List c8)(h:Int):Int:=match cs[((h-1) % 32).toNat]? with
 | some c=>c.Val.Serial
 | none=>0
theorem Gv{cs:List c8}{i:Nat}{g:Int}(h:i<cs.length)(h32:cs.length<=32):sk cs (1+(i:Int)+32*g)=cs[i].Val.Serial:=by
 unfold sk;have:((1+(i:Int)+32*g-1) % 32).toNat=i:=by omega
 rw[this,zc h]
structure Zr (cs:List c8):Prop where
 len:cs.length<=24
 gen:∀i (h:i<cs.length),0<=cs[i].Gen/\cs[i].Gen<=9
theorem BQ{s:b6}(hR:Zr s.S.b7):∃l,F5 s=some l/\l.Perm (du 0 s.S.b7)/\l.Pairwise (λa b=>sk s.S.b7 a<=sk s.S.b7 b):=by
 have hlen:=hR.len;unfold F5;simp only[jn];have hh:=tz 0 s.S.b7;have hloop:∃e:List (Int × Int) × List Int,lp (S:=Int × (List (Int × Int)) × (List Int)) (E:=((List (Int × Int)) × (List Int))) (λ((s23,s24,s25):Int × (List (Int × Int)) × (List Int))=>
   if (decide (s23<(s.S.b7.length:Int))) then
    ((ix s.S.b7 s23).bind λv35=>
     if (v35.State==1) then
      (eC s23 v35.Gen).bind λv36=>
      (app 8 s25 [v36]).bind λv37=>
      some (.inl (w9 (s23+1),(p7 s24 v36 v35.Val.Serial),v37))
     else
     some (.inl (w9 (s23+1),s24,s25)))
   else
   some (.inr (s24,s25))) (0,[],[])=some e/\e.2=du 0 s.S.b7/\∀h∈e.2,A2 e.1 h=some (sk s.S.b7 h):=by
  refine iC (T:=List (Int × Int) × List Int) s.S.b7.length (λk e=>e.2=du 0 (s.S.b7.take k)/\∀h∈e.2,A2 e.1 h=some (sk s.S.b7 h)) (λe:List (Int × Int) × List Int=>e.2=du 0 s.S.b7/\∀h∈e.2,A2 e.1 h=some (sk s.S.b7 h)) (by omega) ⟨by simp[du],by simp⟩ (λk e hk hP=>?_) (λe hP=>?_)
  .obtain⟨h1,h2⟩:=hP;obtain⟨m,l⟩:=e;simp only at h1 h2;left;have hc:=hR.gen k hk;have hl:l.length<=24:=by rw[h1];have:=tz 0 (s.S.b7.take k);simp at this;omega
   have et:s.S.b7.take (k+1)=s.S.b7.take k ++ [s.S.b7[k]]:=by rw[List.take_add_one,zc hk];rfl
   have el:(s.S.b7.take k).length=k:=by simp;omega
   by_cases q:s.S.b7[k].State=1
   .refine⟨(p7 m (1+(k:Int)+32*s.S.b7[k].Gen) s.S.b7[k].Val.Serial,l ++ [1+(k:Int)+32*s.S.b7[k].Gen]),?_,?_,?_⟩
    .simp only[we,hk,wt,zY,s7 hk,a0q,q,t8];rw[oX (by omega) (by omega) hc.1 hc.2,a0q,J3 (by omega) (by simp;omega),a0q,o0]
    .simp only;rw[et,vh,zb q,el,h1,zaj]
    .intro h hh;simp only[zu,zp] at hh |-;rw[qd];rcases hh with hh | rfl
     .split;·rename_i e;rw[e,Gv hk (by omega)]
      .exact h2 h hh
     .rw[zb rfl,Gv hk (by omega)]
   .refine⟨(m,l),?_,?_,h2⟩
    .simp only[we,hk,wt,zY,s7 hk,a0q];rw[za (by simpa using q),o0]
    .simp only;rw[et,vh,za q,h1,zat]
  .obtain⟨h1,h2⟩:=hP;obtain⟨m,l⟩:=e;refine⟨(m,l),by simp only[zbh,zbq,zA,ul],?_,h2⟩;simpa using h1
 obtain⟨⟨m,l⟩,e1,e2,e3⟩:=hloop;rw[show lp _ _=_ from e1,a0q];simp only at e2 e3 |-;subst e2;obtain⟨ys,q1,q2,q3⟩:=Gw (c:=λp q=>jl p q m) (xs:=du 0 s.S.b7) (λh=>(A2 m h).getD 0) (λx y=>by
  unfold jl iw dt;simp only[a0q,zbt,zA,ul];generalize (A2 m x).getD 0=a;generalize (A2 m y).getD 0=b;by_cases h1:a<b
  .rw[zC h1];exact⟨-1,rfl,by simp[h1]⟩
  .rw[zQ h1];by_cases h2:a > b
   .rw[zC h2];exact⟨1,rfl,by simp[h1]⟩
   .rw[zQ h2];exact⟨0,rfl,by simp[h1]⟩) (by omega)
 refine⟨ys,by rw[q1];rfl,q2,q3.imp_of_mem λ{a b} ha hb hab=>?_⟩;rw[e3 a (q2.mem_iff.1 ha),e3 b (q2.mem_iff.1 hb)] at hab;simpa using hab
theorem sa{key:Int->Int}:∀ {l m:List Int},l.Perm m->l.Pairwise (λa b=>key a<=key b)->m.Pairwise (λa b=>key a<=key b)->(∀a∈l,∀b∈l,key a=key b->a=b)->l=m
 | [],m,hp,_,_,_=>(List.nil_perm.1 hp).symm
 | a::l,[],hp,_,_,_=>by simp at hp
 | a::l,b::m,hp,h1,h2,hk=>by
  have ha:=zbb.1 h1;have hb:=zbb.1 h2;have e:a=b:=by
   have m1:b∈a::l:=hp.mem_iff.2 (zg ..);have m2:a∈b::m:=hp.mem_iff.1 (zg ..);rcases zM.1 m1 with q | q
   .exact q.symm
   .rcases zM.1 m2 with q' | q'
    .exact q'
    .exact hk a (zg ..) b m1 (Int.le_antisymm (ha.1 b q) (hb.1 a q'))
  subst e;rw[sa (List.perm_cons a |>.1 hp) ha.2 hb.2 λx hx y hy=>hk x (zn _ hx) y (zn _ hy)]
theorem fJ(s:b6):(sO s).b7.length=s.S.b7.length:=by simp[sO]
theorem Wy(t:F1):(pl t).b7.length=t.b7.length:=by simp[pl]
theorem Um{t:F1}{k:Nat}(h:k<t.b7.length):ix (pl t).b7 k=some (SJ k t.b7[k]):=by
 rw[s7 (by simpa[pl] using h)];simp[pl]
theorem Vt(s:b6){h:Int}(hh:h<=9223372036854775807):uf (pl (sO s)) h=x6 s.S h:=by
 unfold uf x6;rw[Gg,jN hh,HX,lz hh];simp only[a0q,Wy,fJ];generalize (if sp h then (h-1) % 32 else -1:Int)=v;generalize (if sp h then (h-1) / 32 else -1:Int)=g;split;·rfl
 .split;·rfl
  .rename_i q;have q:0<=v/\v<s.S.b7.length:=by simp at q;omega
   obtain⟨k,rfl⟩:∃k:Nat,v=k:=⟨v.toNat,by omega⟩;have hk:k<s.S.b7.length:=by omega
   rw[Um (by rw[fJ];exact hk),s7 hk];simp only[a0q,SJ,sO,ut,cO]
theorem pA{s:b6}(h:wL (sO s)):s.S.b7.length<=24:=by have:=h.len;rwa [fJ] at this
theorem DT{s:b6}(h:wL (sO s))(i:Nat)(hi:i<s.S.b7.length):0<=s.S.b7[i].State/\s.S.b7[i].State<=3/\0<=s.S.b7[i].Gen/\s.S.b7[i].Gen<=s.S.Last:=by
 have:=h.cell i (by rw[fJ];exact hi);simpa[sO,cO] using this
theorem Ii{s:b6}(h:wL (sO s)):Zr s.S.b7:=⟨pA h,λi hi=>by have:=DT h i hi;have h9:s.S.Last<=9:=h.l9;omega⟩
theorem Ps{s:b6}(h:wL (sO s))(i:Nat)(hi:i<s.S.b7.length)(ht:s.S.b7[i].State=1\/s.S.b7[i].State=2):XE (sO s) (oo s.S.b7[i].Val):=by
 have:=h.ok i (by rw[fJ];exact hi);simp only[sO,ut,cO,Qe] at this;exact this ht
theorem Pr{s:b6}(h:wL (sO s)){i j:Nat}(hi:i<s.S.b7.length)(hj:j<s.S.b7.length)(a:s.S.b7[i].State=1\/s.S.b7[i].State=2)(b:s.S.b7[j].State=1\/s.S.b7[j].State=2)(e:s.S.b7[i].Val.Serial=s.S.b7[j].Val.Serial):i=j:=by
 have key:∀i (hi:i<s.S.b7.length) j (hj:j<i),(s.S.b7[i].State=1\/s.S.b7[i].State=2)->(s.S.b7[j].State=1\/s.S.b7[j].State=2)->s.S.b7[j].Val.Serial≠s.S.b7[i].Val.Serial:=λi hi j hj a b=>by
  have:=h.dif i (by rw[fJ];exact hi) j hj;simp only[sO,ut,cO,Qe,oo] at this;exact this a b
 rcases Nat.lt_trichotomy i j with q | q | q
 .exact absurd e (key j hj i q b a)
 .exact q
 .exact absurd e.symm (key i hi j q a b)
theorem pd{s:b6}(hR:wL (sO s)){x:Int}(hx:x∈du 0 s.S.b7):∃i,∃hi:i<s.S.b7.length,s.S.b7[i].State=1/\x=1+(i:Int)+32*s.S.b7[i].Gen/\wJ s.S x i/\sk s.S.b7 x=s.S.b7[i].Val.Serial/\x4 s x=some (s.S.b7[i].Val,0):=by
 obtain⟨i,hi,h1,h2⟩:=pe.1 hx;rw[zaj] at h2;have hl:=(pA hR);have hc:=(Ii hR).gen i hi;have hf:wJ s.S x i:=⟨hi,by unfold sp;omega,by omega,by omega,.inl h1⟩;refine⟨i,hi,h1,h2,hf,by rw[h2];exact Gv hi (by omega),?_⟩;obtain⟨_,e⟩:=Fl hf;unfold x4;rw[e,za (by omega)];rfl
theorem NC{s:b6}{x:Int}{i:Nat}(hf:wJ s.S x i)(h1:∀hi:i<s.S.b7.length,s.S.b7[i].State=1):x∈du 0 s.S.b7:=by
 obtain⟨hi,q1,q2,q3,_⟩:=hf;refine pe.2 ⟨i,hi,h1 hi,?_⟩;unfold sp at q1;rw[zaj];omega
theorem Im{s:b6}(hR:wL (sO s)){x y:Int}(hx:x∈du 0 s.S.b7)(hy:y∈du 0 s.S.b7)(e:sk s.S.b7 x=sk s.S.b7 y):x=y:=by
 obtain⟨i,hi,a1,a2,_,a4,_⟩:=pd hR hx;obtain⟨j,hj,b1,b2,_,b4,_⟩:=pd hR hy;have:=(Pr hR) hi hj (.inl a1) (.inl b1) (by rw[<-a4,<-b4];exact e);subst this;rw[a2,b2]
theorem nf:∀(k:Nat) (cs:List c8),k+cs.length<=32->(du k cs).Nodup
 | _,[],_=>zb2
 | k,c::r,h=>by
  simp only[zH] at h;unfold du;rw[zbu];refine⟨by split <;> simp,nf (k+1) r (by omega),λa ha b hb e=>?_⟩;split at ha
  .simp only[zp] at ha;subst ha;subst e;obtain⟨i,hi,h1,h2⟩:=pe.1 hb;have:((1+(k:Int)+32*c.Gen)-1) % 32=((1+((k+1+i:Nat):Int)+32*r[i].Gen)-1) % 32:=by rw[h2]
   omega
  .cases ha
theorem JI{s:b6}(hR:wL (sO s)):∃l,F5 s=some l/\l.Perm (du 0 s.S.b7)/\l.Pairwise (λa b=>sk s.S.b7 a<sk s.S.b7 b):=by
 obtain⟨l,h1,h2,h3⟩:=BQ (Ii hR);refine⟨l,h1,h2,?_⟩;have hn:l.Nodup:=h2.nodup_iff.2 (nf 0 _ (by have:=(pA hR);omega));have:=List.Pairwise.and h3 hn;refine this.imp_of_mem λ{a b} ha hb ⟨q1,q2⟩=>?_;rcases Int.lt_or_eq_of_le q1 with q | q
 .exact q
 .exact absurd (Im hR (h2.mem_iff.1 ha) (h2.mem_iff.1 hb) q) q2
theorem tA:∀(k:Nat) (cs:List c8) (i:Nat) (c:c8) (hi:i<cs.length),cs[i].State≠1->c.State=1->(du k (cs.set i c)).Perm ((1+((k+i:Nat):Int)+32*c.Gen)::du k cs)
 | _,[],i,_,hi,_,_=>by simp at hi
 | k,d::r,0,c,hi,h1,h2=>by
  simp only[List.getElem_cons_zero] at h1;simp only[List.set_cons_zero,du,zb h2,za h1,zci,za0];exact List.Perm.refl _
 | k,d::r,i+1,c,hi,h1,h2=>by
  simp only[List.getElem_cons_succ] at h1;simp only[List.set_cons_succ,du];have:=tA (k+1) r i c (by simpa using hi) h1 h2;rw[show k+1+i=k+(i+1) by omega] at this;exact (List.Perm.append_left _ this).trans List.perm_middle
theorem Xa{cs:List c8}{i:Nat}{c:c8}{x:Int}(h:((x-1) % 32).toNat≠i):sk (cs.set i c) x=sk cs x:=by
 unfold sk;rw[List.getElem?_set_ne (by omega)]
theorem HI{s:b6}(hR:wL (sO s)){i:Nat}(hi:i<s.S.b7.length)(h0:s.S.b7[i].State=0)(o:n0)(ho:o.Serial=s.Serial+1){l:List Int}(hl:F5 s=some l) :
  F5 ⟨⟨s.S.b7.set i ⟨1,s.S.b7[i].Gen,o⟩,s.S.Last⟩,s.Serial+1⟩=some (l ++ [1+(i:Int)+32*s.S.b7[i].Gen]):=by
 obtain⟨l',e,l1,l2⟩:=JI hR;rw[hl] at e;cases e;have hlen:=pA hR;have hsl:Zr (s.S.b7.set i ⟨1,s.S.b7[i].Gen,o⟩):=⟨by simpa using hlen,λj hj=>by
  rw[zcq];have:=(Ii hR).gen;split;·exact this i hi
  .exact this j (by simpa using hj)⟩
 obtain⟨m,m1,m2,m3⟩:=BQ (s:=⟨⟨s.S.b7.set i ⟨1,s.S.b7[i].Gen,o⟩,s.S.Last⟩,s.Serial+1⟩) hsl;have hp:=tA 0 s.S.b7 i ⟨1,s.S.b7[i].Gen,o⟩ hi (by omega) rfl;rw[zaj] at hp;have hold:∀x∈l,sk (s.S.b7.set i ⟨1,s.S.b7[i].Gen,o⟩) x=sk s.S.b7 x/\sk s.S.b7 x<=s.Serial:=λx hx=>by
  obtain⟨j,hj,a1,a2,a3,a4,_⟩:=pd hR (l1.mem_iff.1 hx);refine⟨Xa ?_,?_⟩
  .obtain⟨_,_,q,_⟩:=a3;intro e;have:j=i:=by omega
   subst this;omega
  .rw[a4];exact (Ps hR j hj (.inl a1)).2.1
 have hnew:sk (s.S.b7.set i ⟨1,s.S.b7[i].Gen,o⟩) (1+(i:Int)+32*s.S.b7[i].Gen)=s.Serial+1:=by
  rw[Gv (by simpa using hi) (by simp;omega)];simp[ho]
 rw[m1];congr 1;refine sa (key:=sk (s.S.b7.set i ⟨1,s.S.b7[i].Gen,o⟩)) ?_ m3 ?_ ?_
 .refine m2.trans (hp.trans ?_);refine List.Perm.trans (List.Perm.cons _ l1.symm) ?_;exact (List.perm_append_singleton _ _).symm
 .rw[zar];refine⟨l2.imp_of_mem λ{a b} ha hb hab=>?_,by simp,λa ha b hb=>?_⟩;·rw[(hold a ha).1,(hold b hb).1];omega
  .rw[zp] at hb;subst hb;rw[hnew,(hold a ha).1];have:=(hold a ha).2;omega
 .have hm:∀a∈m,a∈l\/a=1+(i:Int)+32*s.S.b7[i].Gen:=λa ha=>by
   have:=hp.mem_iff.1 (m2.mem_iff.1 ha);rcases zM.1 this with q | q
   .exact .inr q
   .exact .inl (l1.mem_iff.2 q)
  intro a ha b hb hab;rcases hm a ha with qa | rfl <;> rcases hm b hb with qb | rfl
  .rw[(hold a qa).1,(hold b qb).1] at hab;exact Im hR (l1.mem_iff.1 qa) (l1.mem_iff.1 qb) hab
  .rw[(hold a qa).1,hnew] at hab;have:=(hold a qa).2;omega
  .rw[(hold b qb).1,hnew] at hab;have:=(hold b qb).2;omega
  .rfl
theorem Yw(n last:Int):∃a,jC n last=some a/\DI n last=some (sO a)/\wL (sO a)/\a.S.b7.length<=24/\∀i (h:i<a.S.b7.length),a.S.b7[i].Val.Fields.length<=4:=by
 unfold jC DI aO Kg;by_cases h:0<=n/\n<=24/\0<=last/\last<=9
 .obtain⟨h1,h2,h3,h4⟩:=h;obtain⟨k,rfl⟩:∃k:Nat,n=k:=⟨n.toNat,by omega⟩;rw[za (by simp;omega),za (by simp;omega),kU (by omega) (by omega),kU (by omega) (by omega)];simp only[a0q,List.length_replicate];rw[kU (by omega) (by omega)];refine⟨_,rfl,?_,?_,by simp;omega,λi h=>by simp⟩;·simp[sO,cO,oo]
  .refine⟨by simp[sO];omega,h3,h4,by simp[sO],λi h=>?_,λi h=>?_,λi h q=>?_,λi h k hk q=>?_⟩;·simp[sO,cO];omega
   .simp[sO,cO,oo,KJ]
   .exfalso;simp[sO,cO,oo,Qe] at q
   .exfalso;simp[sO,cO,oo,Qe] at q
 .rw[zb (by simp;omega),zb (by simp;omega)];simp only[a0q,zag];rw[show mk 80 ((0:Nat):Int) (⟨0,0,⟨0,0,0,0,false,[]⟩⟩:B8)=some [] from rfl];refine⟨_,rfl,rfl,⟨by simp[sO],by simp[sO],by simp[sO],by simp[sO],?_,?_,?_,?_⟩,by simp,λi h=>by simp at h⟩ <;> (intro i h;simp[sO] at h)
noncomputable def lv(s:b6):List Int:=(F5 s).getD []
def ob(s:b6)(h:Int):n0:=((x4 s h).getD (z0,0)).1
def outs(s:b6)(h:Int):List Int:=nz (ob s h).Fields
def FB(s:b6):Prop:=∀c∈s.S.b7,∀x∈c.Val.Fields,x<=9223372036854775807
section
variable{s:b6}(hR:wL (sO s))
include hR
theorem kP:F5 s=some (lv s)/\(lv s).Perm (du 0 s.S.b7)/\(lv s).Pairwise (λa b=>sk s.S.b7 a<sk s.S.b7 b):=by
 obtain⟨l,h1,h2,h3⟩:=JI hR;have:lv s=l:=by unfold lv;rw[h1];rfl
 rw[this];exact⟨h1,h2,h3⟩
theorem fg:F5 s=some (lv s):=(kP hR).1
theorem Dk{h:Int}:h∈lv s↔h∈du 0 s.S.b7:=(kP hR).2.1.mem_iff
theorem K8:(lv s).length<=24:=by
 rw[(kP hR).2.1.length_eq];exact zO (tz 0 s.S.b7) (pA hR)
theorem tK:(lv s).Nodup:=(kP hR).2.1.nodup_iff.2 (nf 0 _ (by have:=(pA hR);omega))
theorem vl{h:Int}(hh:h∈lv s):x4 s h=some (ob s h,0):=by
 obtain⟨i,hi,_,_,_,_,e⟩:=pd hR ((Dk hR).1 hh);unfold ob;rw[e];rfl
theorem Dj{h:Int}(hh:h∈lv s):∃i,∃hi:i<s.S.b7.length,s.S.b7[i].State=1/\h=1+(i:Int)+32*s.S.b7[i].Gen/\wJ s.S h i/\ob s h=s.S.b7[i].Val:=by
 obtain⟨i,hi,h1,h2,h3,_,e⟩:=pd hR ((Dk hR).1 hh);refine⟨i,hi,h1,h2,h3,?_⟩;unfold ob;rw[e];rfl
theorem pk{h:Int}(hh:h∈lv s):1<=h/\h<=320:=by
 obtain⟨i,hi,_,_,hf,_⟩:=Dj hR hh;exact Dd hf.2.1
theorem Uf{h:Int}(hh:h<=9223372036854775807)(hn:h∉lv s):∃e,e≠0/\x4 s h=some (z0,e):=by
 rcases jc s.S hh with ⟨i,hf,_⟩ | ⟨hf,_⟩
 .obtain⟨hi,e⟩:=Fl hf;unfold x4;rw[e];by_cases h2:s.S.b7[i].State=2
  .rw[zb h2];exact⟨3,by decide,rfl⟩
  .exact absurd ((Dk hR).2 (NC hf λ_=>hf.2.2.2.2.resolve_right h2)) hn
 .unfold x4;rw[yB hh hf];exact⟨_,oT h,rfl⟩
theorem wj{h:Int}(hh:h<=9223372036854775807)(hn:h∉lv s):ob s h=z0:=by
 obtain⟨e,_,h1⟩:=Uf hR hh hn;unfold ob;rw[h1];rfl
theorem gj{h:Int}(hh:h<=9223372036854775807):∃e,x4 s h=some (ob s h,e)/\(e=0↔h∈lv s):=by
 by_cases q:h∈lv s
 .exact⟨0,vl hR q,by simp[q]⟩
 .obtain⟨e,h0,h1⟩:=Uf hR hh q;refine⟨e,?_,by simp[h0,q]⟩;rw[h1,wj hR hh q]
theorem SD{h:Int}(hh:h<=9223372036854775807)(hn:h∉lv s):outs s h = []:=by
 unfold outs;rw[wj hR hh hn];rfl
theorem JV(h:Int)(hh:h<=9223372036854775807):(ob s h).Fields.length<=4:=by
 by_cases q:h∈lv s
 .obtain⟨i,hi,h1,_,_,e⟩:=Dj hR q;rw[e];exact (Ps hR i hi (.inl h1)).2.2.2.2.2.2
 .rw[wj hR hh q];exact zX _
theorem yX(h:Int)(hh:h<=9223372036854775807):(outs s h).length<=4:=zO (Oz _) (JV hR h hh)
theorem SC(hF:FB s){h x:Int}(hh:h<=9223372036854775807)(hx:x∈outs s h):x<=9223372036854775807:=by
 by_cases q:h∈lv s
 .obtain⟨i,hi,h1,_,_,e⟩:=Dj hR q;unfold outs at hx;rw[e] at hx;exact hF _ (zh hi) x (gr.1 hx).1
 .rw[SD hR hh q] at hx;cases hx
end
theorem SE{s:b6}{h x:Int}(hx:x∈outs s h):x≠0:=(gr.1 hx).2
theorem XX(s:b6)(hl:s.S.b7.length<=1000){h:Int}(hh:h<=9223372036854775807):xC (sO s) h=(x4 s h).map λp=>(oo p.1,p.2):=by
 unfold xC x4 F3 DG;rw[SI _ (by rw[fJ];exact hl),a0q,Vt s hh];rcases jc s.S hh with ⟨i,hf,e⟩ | ⟨hf,e⟩
 .rw[e];have hi:=hf.1;simp only[a0q,zbt,zA,ul];rw[Um (by rw[fJ];exact hi),s7 hi];simp only[a0q,SJ,sO,ut,cO];split;·rfl
  .simp only[a0q,zbt,zA,ul];rw[s7 (by simpa using hi)];simp[cO,oo]
 .rw[e];simp only[a0q];have hne:((if h=0 then 2 else 3:Int) != 0)=true:=by simpa using oT h
  simp only[hne,zY,a0q];rfl
theorem FO(v:List Int)(h:v.length<=1000000):jD v=some (nz v):=by
 unfold jD qw;simp only[jn,a0q];rw[V7 v (λb x=>if x != 0 then b ++ [x] else b) id (λk b=>b.length<=k) (by omega) (by simp) (λk hk b hb=>?_) (λb _=>?_)]
 .simp only[a0q,id];rw[foldl_filter];rfl
 .simp only[we,hk,wt,zY,s7 hk,a0q];by_cases q:(v[k] != 0)=true
  .rw[zb (by simpa using q),zb q,J3 (by omega) (by simp;omega),a0q,o0];exact⟨rfl,by simp;omega⟩
  .rw[za (by simpa using q),za q,o0];exact⟨rfl,by omega⟩
 .simp only[zbh,zbq,zA,ul];rfl
noncomputable def kz(s:b6)(h:Int):Nat:=((lv s).map λx=>T3 (outs s x) h).sum
theorem Ue{s:b6}(hR:wL (sO s)){k:Nat}(hk:k<(lv s).length):(lv s)[k]<=9223372036854775807:=by
 have:=pk hR (zh hk);omega
section
variable{s:b6}(hR:wL (sO s))
include hR
theorem ON{h:Int}(hh:h<=9223372036854775807):mi s h=some (outs s h):=by
 obtain⟨e,h1,_⟩:=gj hR hh;unfold mi;rw[h1,a0q,FO _ (by have:=JV hR h hh;simp only;omega)];rfl
theorem NQ(h:Int):kz s h<=96:=by
 have:=Iq (λx=>T3 (outs s x) h) 4 (lv s) λx hx=>zO (Ir _ _) (yX hR x (by have:=pk hR hx;omega));have:=K8 hR;unfold kz;omega
theorem Yc(h:Int):xD s h=some (kz s h:Int):=by
 unfold xD nA;simp only[jn,a0q];rw[show F5 s=_ from fg hR,a0q];have hl:=K8 hR;rw[V7 (lv s) (λ(b:Int) x=>b+(T3 (outs s x) h:Int)) id (λk b=>0<=b/\b<=4*k) (by omega) (by simp) (λk hk b hb=>?_) (λb _=>?_)]
 .simp only[a0q,id];have:=yu (λx=>T3 (outs s x) h) (lv s) 0;rw[show ((0:Nat):Int)=0 from rfl] at this;rw[this,zaj];rfl
 .have ho:=ON hR (Ue hR hk);have hol:=yX hR _ (Ue hR hk);have ht:=Ir (outs s (lv s)[k]) h;simp only[we,hk,wt,zY,s7 hk,a0q,ho];rw[V7 (outs s (lv s)[k]) (λ(b:Int) x=>if (x==h&&h != 0) then b+1 else b) id (λj c=>b<=c/\c<=b+j) (by omega) (by simp) (λj hj c hc=>?_) (λc _=>?_)]
  .simp only[a0q,id];rw[Ff,o0];exact⟨rfl,by omega⟩
  .simp only[we,hj,wt,zY,s7 hj,a0q];have hne:=SE (zh hj);by_cases q:(outs s (lv s)[k])[j]=h
   .have e2:((outs s (lv s)[k])[j]==h&&h != 0)=true:=by simp only[zy,pu,bne_iff_ne];omega
    rw[e2,zb (by simpa using q),zb rfl,o0,U2 (n:=c+1) (by omega) (by omega)];exact⟨rfl,by omega⟩
   .have e2:((outs s (lv s)[k])[j]==h&&h != 0)=false:=by rw[zbm];simp only[ne_eq,zy,pu,bne_iff_ne];omega
    rw[e2,za (by simpa using q),o0];exact⟨rfl,by simp;omega⟩
  .simp only[zbh,zbq,zA,ul];rfl
 .simp only[zbh,zbq,zA,ul];rfl
end
section
variable{s:b6}(hR:wL (sO s))(hF:FB s)
include hR hF
end
theorem sW{α:Type}(p:α->Bool):∀l:List α,l.length=(l.filter p).length+(l.filter λx => !p x).length
 | []=>rfl
 | x::l=>by
  have:=sW p l;by_cases h:p x
  .simp[h];omega
  .simp[h];omega
theorem Yk{s:b6}(hR:wL (sO s)){l:List Int}(hp:l.Perm (du 0 s.S.b7))(hs:l.Pairwise (λa b=>sk s.S.b7 a<sk s.S.b7 b)):lv s=l:=by
 obtain⟨_,l2,l3⟩:=kP hR;exact sa (key:=sk s.S.b7) (l2.trans hp.symm) (l3.imp λh=>by omega) (hs.imp λh=>by omega) λa ha b hb e=>Im hR (l2.mem_iff.1 ha) (l2.mem_iff.1 hb) e
inductive su (s:b6) (l:List Int):Int->Prop
 | base {h:Int}:h∈l->h∈lv s->su s l h
 | step {a b:Int}:su s l a->b∈outs s a->b∈lv s->su s l b
open Classical in
noncomputable def Ib (s:b6) (l:List Int):List Int:=(lv s).filter λh=>decide (su s l h)
open Classical in
noncomputable def lst (s:b6) (l:List Int):List Int:=(lv s).filter λh=>decide (¬su s l h)
def Cl(s:b6)(l:List Int):Prop:=∀a∈l,∀b∈outs s a,b∈lv s->b∈l
def LB(l:List Int):Prop:=∀x∈l,x<=9223372036854775807
theorem su.live{s:b6}{l:List Int}{h:Int}(q:su s l h):h∈lv s:=by cases q <;> assumption
open Classical in
theorem fG {s:b6} {l:List Int} {h:Int}:h∈Ib s l↔su s l h:=by
 unfold Ib;rw[zk];exact⟨λq=>zbl q.2,λq=>⟨q.live,zC q⟩⟩
theorem SV{s:b6}(hR:wL (sO s))(l:List Int):(Ib s l).length<=24:=zO (zD ..) (K8 hR)
theorem WL(s:b6)(l:List Int):Cl s (Ib s l):=λa ha b hb hl=>fG.2 (.step (fG.1 ha) hb hl)
theorem su.least{s:b6}{l m:List Int}(hc:Cl s m)(hl:∀x∈l,x∈lv s->x∈m){h:Int}(q:su s l h):h∈m:=by
 induction q with
 | base h1 h2=>exact hl _ h1 h2
 | step _ h1 h2 ih=>exact hc _ ih _ h1 h2
theorem su.mono{s:b6}{l m:List Int}(hl:∀x∈l,x∈lv s->su s m x){h:Int}(q:su s l h):su s m h:=by
 induction q with
 | base h1 h2=>exact hl _ h1 h2
 | step _ h1 h2 ih=>exact .step ih h1 h2
theorem LV{s:b6}{l m:List Int}(h:∀x,su s l x↔su s m x):Ib s l=Ib s m:=by
 unfold Ib;exact pm λx _=>zbd.2 (h x)
theorem filter_lt{α:Type}{p q:α->Bool}:∀ {l:List α},(∀x∈l,p x=true->q x=true)->∀x∈l,q x=true->p x=false->(l.filter p).length<(l.filter q).length
 | [],_,x,hx,_,_=>by cases hx
 | y::l,h,x,hx,h1,h2=>by
  have hle:(l.filter p).length<=(l.filter q).length:=by
   have h':∀x∈l,p x=true->q x=true:=λx hx=>h x (zn _ hx);clear h hx;induction l with
   | nil=>simp
   | cons z l ih=>
    have:=ih λx hx=>h' x (zn _ hx);have hz:=h' z (zg ..);simp only[or];by_cases a:p z=true
    .rw[zb a,zb (hz a)];simp only[zH];omega
    .rw[za a];split <;> (try simp only[zH]) <;> omega
  rcases zM.1 hx with rfl | hx'
  .simp only[or,h1,h2,zY,zA,ul,zH];omega
  .have:=filter_lt (λx hx=>h x (zn _ hx)) x hx' h1 h2;have hy:=h y (zg ..);simp only[or];by_cases a:p y=true
   .rw[zb a,zb (hy a)];simp only[zH];omega
   .rw[za a];split <;> (try simp only[zH]) <;> omega
theorem ae{l m:List Int}(hn:l.Nodup)(h:∀x∈l,x∈m):l.length<=m.length:=by
 induction l generalizing m with
 | nil=>simp
 | cons x l ih=>
  rw[me] at hn;have hx:=h x (zg ..);have:=ih (m:=m.erase x) hn.2 λy hy=>(List.mem_erase_of_ne (λe=>hn.1 (by subst e;exact hy))).2 (h y (zn _ hy));rw[List.length_erase_of_mem hx] at this;have:0<m.length:=List.length_pos_of_mem hx;simp only[zH];omega
section
variable{s:b6}(hR:wL (sO s))
include hR
theorem Lx{h:Int}(hh:h<=9223372036854775807):cM s h=some (decide (h∈lv s)):=by
 obtain⟨e,h1,h2⟩:=gj hR hh;unfold cM;rw[h1,a0q];congr 1;rw[za9,pu,zG];exact h2
abbrev Mk(m:List (Int × Bool))(x:Int):Prop:=(A2 m x).getD false=true
noncomputable def KB(s:b6)(m:List (Int × Bool)):Nat:=((lv s).filter λx => !(A2 m x).getD false).length
omit hR in
theorem dW (m:List (Int × Bool)) (x y:Int):Mk (p7 m x true) y↔y=x\/Mk m y:=by
 unfold Mk;rw[qd];by_cases q:y=x
 .simp[q]
 .simp[q]
omit hR in
theorem Tx {m:List (Int × Bool)} {x:Int} (hx:x∈lv s) (hm:¬Mk m x):KB s (p7 m x true)<KB s m:=by
 unfold KB;refine filter_lt (λy _ h=>?_) x hx (by simpa[Mk] using hm) ?_
 .by_cases q:Mk m y
  .have:=(dW m x y).2 (.inr q);unfold Mk at this;rw[this] at h;cases h
  .simpa[Mk] using q
 .have:=(dW m x x).2 (.inl rfl);unfold Mk at this;rw[this];rfl
structure GU (s:b6) (l:List Int) (q:c9) (m:List (Int × Bool)):Prop where
 nd:q.L.Nodup
 cap:q.Cap=((lv s).length:Int)
 iD:∀x∈q.L,Mk m x
 rc:∀x,Mk m x->su s l x
omit hR in
theorem GU.room {l:List Int} {q:c9} {m:List (Int × Bool)} (h:GU s l q m) {x:Int} (hx:x∈lv s) (hm:¬Mk m x):q.L.length<(lv s).length:=by
 have:(x::q.L).length<=(lv s).length:=ae (me.2 ⟨λk=>hm (h.iD x k),h.nd⟩) λy hy=>by
  rcases zM.1 hy with rfl | k
  .exact hx
  .exact (h.rc y (h.iD y k)).live
 simp only[zH] at this;omega
omit hR in
theorem Ke {q:c9} {x:Int} (h:(q.L.length:Int)<q.Cap) (h2:q.L.length<=1000):D8 q x=some (⟨q.L ++ [x],q.Cap⟩,0):=by
 unfold D8 I1 T9;rw[a0q,za (by simp;omega)];have:=uZ (xs:=q.L) (i:=0) (j:=q.L.length) (by omega) (zF _);rw[show ((0:Nat):Int)=0 from rfl] at this;rw[this];simp only[zW,List.drop_zero,a0q];rw[J3 (by omega) (by simp;omega)];rfl
omit hR in
theorem OY {x:Int} {r:List Int} {c:Int} (h2:r.length<=1000):X9 ⟨x::r,c⟩=some (⟨r,c⟩,x,0):=by
 unfold X9 iM I1 T9;simp only[a0q,zH];have e:(if (if (((r.length+1:Nat):Int))<1 then (((r.length+1:Nat):Int)) else 1) > 0 then (if (((r.length+1:Nat):Int))<1 then (((r.length+1:Nat):Int)) else 1) else 0:Int)=((1:Nat):Int):=by
  rw[za (show ¬(((r.length+1:Nat):Int)<1) by omega)];rfl
 rw[e];have h1:=uZ (xs:=x::r) (i:=0) (j:=1) (by omega) (by simp);have h3:=uZ (xs:=x::r) (i:=1) (j:=r.length+1) (by omega) (by simp);rw[show ((0:Nat):Int)=0 from rfl] at h1;rw[h1,h3];simp only[a0q];have e1:List.drop 0 (List.take 1 (x::r)) = [x]:=by simp
 have e2:List.drop 1 (List.take (r.length+1) (x::r))=r:=by simp
 rw[e1,e2];rfl
abbrev FZ(s:b6)(xs:List Int):Int × c9 × (List (Int × Bool))->Option ((Int × c9 × (List (Int × Bool))) ⊕ (c9 × (List (Int × Bool)))):=
 λ(s114,s115,s116)=>
   if (decide (s114<(xs.length:Int))) then
     (ix xs s114).bind λv126=>
     (cM s v126).bind λv127=>
     if (v127==true) then
      if (!((A2 s116 v126).getD (false:Bool))) then
       (D8 s115 v126).bind λv128=>
       some (.inl (w9 (s114+1),v128.1,(p7 s116 v126 true)))
      else
      some (.inl (w9 (s114+1),s115,s116))
     else
     some (.inl (w9 (s114+1),s115,s116))
   else
   some (.inr (s115,s116))
theorem Cb{l xs:List Int}{q:c9}{m:List (Int × Bool)}(hxs:LB xs)(hlen:xs.length<=1000000)(h0:GU s l q m)(hr:∀x∈xs,x∈lv s->su s l x) :
  ∃q' m',lp (FZ s xs) (0,q,m)=some (q',m')/\GU s l q' m'/\(∀x,Mk m' x↔Mk m x\/x∈xs/\x∈lv s)/\(∀x,Mk m' x->Mk m x\/x∈q'.L)/\(∀x∈q.L,x∈q'.L)/\2*KB s m'+q'.L.length<=2*KB s m+q.L.length:=by
 have:=iC (f:=FZ s xs) (t0:=(q,m)) xs.length (λk t=>GU s l t.1 t.2/\(∀x,Mk t.2 x↔Mk m x\/x∈xs.take k/\x∈lv s)/\(∀x,Mk t.2 x->Mk m x\/x∈t.1.L)/\(∀x∈q.L,x∈t.1.L)/\2*KB s t.2+t.1.L.length<=2*KB s m+q.L.length)
  (λt=>GU s l t.1 t.2/\(∀x,Mk t.2 x↔Mk m x\/x∈xs/\x∈lv s)/\(∀x,Mk t.2 x->Mk m x\/x∈t.1.L)/\(∀x∈q.L,x∈t.1.L)/\2*KB s t.2+t.1.L.length<=2*KB s m+q.L.length) (by omega)
  ⟨h0,λx=>by simp,λx h=>.inl h,λx h=>h,zF _⟩ (λk t hk hP=>?_) (λt hP=>?_)
 .obtain⟨⟨q',m'⟩,h1,h2⟩:=this;exact⟨q',m',h1,h2⟩
 .obtain⟨q1,m1⟩:=t;obtain⟨p1,p2,p3,p4,p5⟩:=hP;simp only at p1 p2 p3 p4 p5;left;have hle:=hxs _ (zh hk);have ht:∀x,x∈xs.take (k+1)↔x∈xs.take k\/x=xs[k]:=λx=>by rw[zt hk,zu,zp]
  simp only[FZ,we,hk,wt,zY,s7 hk,a0q,Lx hR hle];by_cases hv:xs[k]∈lv s
  .rw[zb (by simpa using hv)];by_cases hm:Mk m1 xs[k]
   .rw[za (by rw[show (A2 m1 xs[k]).getD false=true from hm];decide),o0];refine⟨(q1,m1),rfl,p1,λx=>?_,p3,p4,p5⟩;rw[p2,ht];constructor
    .rintro (a | ⟨a,b⟩);·exact .inl a
     .exact .inr ⟨.inl a,b⟩
    .rintro (a | ⟨a | rfl,b⟩);·exact .inl a
     .exact .inr ⟨a,b⟩
     .exact (p2 _).1 hm
   .have hm':(A2 m1 xs[k]).getD false=false:=by simpa[Mk] using hm
    have hroom:=p1.room hv hm;have hl24:=K8 hR;rw[zb (by rw[hm'];decide),Ke (by rw[p1.cap];omega) (by omega),a0q,o0];refine⟨(⟨q1.L ++ [xs[k]],q1.Cap⟩,p7 m1 xs[k] true),rfl,⟨?_,p1.cap,λx hx=>?_,λx hx=>?_⟩,λx=>?_,λx hx=>?_,λx hx=>?_,?_⟩
    .simp only;rw[zbu];refine⟨p1.nd,by simp,λa ha b hb e=>?_⟩;rw[zp] at hb;subst hb;subst e;exact hm (p1.iD _ ha)
    .simp only[zu,zp] at hx;rw[dW];rcases hx with a | a
     .exact .inr (p1.iD x a)
     .exact .inl a
    .rcases (dW m1 xs[k] x).1 hx with rfl | a
     .exact hr _ (zh hk) hv
     .exact p1.rc x a
    .simp only;rw[dW,p2,ht];constructor
     .rintro (rfl | a | ⟨a,b⟩);·exact .inr ⟨.inr rfl,hv⟩
      .exact .inl a
      .exact .inr ⟨.inl a,b⟩
     .rintro (a | ⟨a | a,b⟩);·exact .inr (.inl a)
      .exact .inr (.inr ⟨a,b⟩)
      .exact .inl a
    .simp only[zu,zp];rcases (dW m1 xs[k] x).1 hx with a | a
     .exact .inr (.inr a)
     .rcases p3 x a with b | b
      .exact .inl b
      .exact .inr (.inl b)
    .simp only[zu];exact .inl (p4 x hx)
    .have:=Tx hv hm;simp only[zL,List.length_singleton];omega
  .rw[za (by simpa using hv),o0];refine⟨(q1,m1),rfl,p1,λx=>?_,p3,p4,p5⟩;rw[p2,ht];constructor
   .rintro (a | ⟨a,b⟩);·exact .inl a
    .exact .inr ⟨.inl a,b⟩
   .rintro (a | ⟨a | rfl,b⟩);·exact .inl a
    .exact .inr ⟨a,b⟩
    .exact absurd b hv
 .obtain⟨q1,m1⟩:=t;refine⟨(q1,m1),?_,?_⟩;·simp only[FZ,zbh,zbq,zA,ul]
  .simpa using hP
theorem Cj(hF:FB s){l:List Int}(hl:LB l)(hlen:l.length<=1000000):∃m,fH s l=some m/\∀x,Mk m x↔su s l x:=by
 unfold fH bg;simp only[jn,fg hR,a0q];have h24:=K8 hR;obtain⟨q0,m0,e0,i0,i1,i2,i3,i4⟩:=Cb hR (l:=l) (xs:=l) (q:=⟨[],((lv s).length:Int)⟩) (m:=[]) hl hlen ⟨zb2,rfl,(λx hx=>by cases hx),(λx hx=>by simp[Mk,A2] at hx)⟩ (λx h1 h2=>.base h1 h2);rw[show lp _ _=_ from e0,a0q];simp only;have hu:KB s []<=24:=zO (zD ..) h24;obtain⟨m,h1,h2⟩:=vk (s0:=(q0,m0)) (f:=λ((s70,s71):c9 × (List (Int × Bool)))=>
    (I1 s70).bind λv74=>
    if (decide (v74 > 0)) then
     (X9 s70).bind λv75=>
     (mi s v75.2.1).bind λv76=>
      (lp (FZ s v76) (0,v75.1,s71)).bind λe97=>
      (some (.inl (e97.1,e97.2)):Option ((c9 × List (Int × Bool)) ⊕ List (Int × Bool)))
    else
    some (.inr s71)) (λt=>GU s l t.1 t.2/\(∀x∈l,x∈lv s->Mk t.2 x)/\∀a,Mk t.2 a->a∈t.1.L\/∀b∈outs s a,b∈lv s->Mk t.2 b) (λm=>∀x,Mk m x↔su s l x) (λt=>2*KB s t.2+t.1.L.length)
   ⟨i0,λx h1 h2=>(i1 x).2 (.inr ⟨h1,h2⟩),λa ha=>.inl ((i2 a ha).resolve_left (by simp[Mk,A2]))⟩ (by show 2*KB s m0+q0.L.length<_;simp only[zag] at i4;omega) (by
   rintro⟨q,m⟩ ⟨p1,p2,p3⟩;simp only at p1 p2 p3 |-;have hq:=ae p1.nd λx hx=>(p1.rc x (p1.iD x hx)).live;unfold I1;rw[a0q];cases hqL:q.L with
   | nil=>
    right;refine⟨m,by rw[za (by simp)],λx=>⟨p1.rc x,λh=>?_⟩⟩;induction h with
    | base a b=>exact p2 _ a b
    | step _ a b ih=>
     rcases p3 _ ih with c | c
     .rw[hqL] at c;cases c
     .exact c _ a b
   | cons a r=>
    left;have hqe:q=⟨a::r,q.Cap⟩:=by rw[<-hqL]
    have hal:a∈lv s:=(p1.rc a (p1.iD a (by rw[hqL];exact zg ..))).live;have ha:a<=9223372036854775807:=by have:=pk hR hal;omega
    have hnd:=p1.nd;rw[hqL] at hnd hq;simp only[zH] at hq;obtain⟨q',m',e1,j0,j1,j2,j3,j4⟩:=Cb hR (l:=l) (xs:=outs s a) (q:=⟨r,q.Cap⟩) (m:=m) (λx hx=>SC hR hF ha hx) (by have:=yX hR a ha;omega) ⟨(me.1 hnd).2,p1.cap,λx hx=>p1.iD x (by rw[hqL];exact zn _ hx),p1.rc⟩ (λx h1 h2=>.step (p1.rc a (p1.iD a (by rw[hqL];exact zg ..))) h1 h2);refine⟨(q',m'),?_,⟨j0,λx h1 h2=>(j1 x).2 (.inl (p2 x h1 h2)),λb hb=>?_⟩,?_⟩
    .rw[zb (by simp),hqe,OY (by omega),a0q];simp only;rw[ON hR ha,a0q,e1,a0q]
    .simp only at hb |-;rcases j2 b hb with c | c
     .rcases p3 b c with d | d
      .rw[hqL] at d;rcases zM.1 d with rfl | d
       .exact .inr λy h1 h2=>(j1 y).2 (.inr ⟨h1,h2⟩)
       .exact .inl (j3 b d)
      .exact .inr λy h1 h2=>(j1 y).2 (.inl (d y h1 h2))
     .exact .inl c
    .show 2*KB s m'+q'.L.length<2*KB s m+(a::r).length;simp only[zH] at j4 |-;omega)
 refine⟨m,?_,h2⟩;rw[show lp _ _=_ from h1];rfl
end
theorem NP(l:List Int)(x:Int)(hl:l.length<=1000000):∃r:Int,H8 l x=some r/\(0<=r↔x∈l):=by
 unfold H8;simp only[jn];by_cases h:x∈l
 .obtain⟨i,hi,e⟩:=List.mem_iff_getElem.1 h;obtain⟨j,⟨hj,ej⟩,hmin⟩:=dQ (p:=λi=>∃hi:i<l.length,l[i]=x) ⟨i,hi,e⟩;refine⟨(j:Int),?_,by simp[h]⟩;refine db l.length (λk=>k<=j) (by omega) (zX _) (λk hk hP=>?_) (λhP=>by omega);simp only[we,hk,wt,zY,s7 hk,a0q];rcases zE k j with q | q
  .refine .inl ⟨?_,q⟩;rw[za (by
    rw[pu];intro e;have:=hmin k ⟨hk,e.symm⟩;omega),o0]
  .have:k=j:=by omega
   subst this;exact .inr ⟨_,by rw[zb (by simpa using ej.symm)],rfl⟩
 .refine⟨-1,?_,by simp[h]⟩;refine db l.length (λk=>True) (by omega) trivial (λk hk hP=>.inl ⟨?_,trivial⟩) (λhP=>⟨.inr (),by simp,rfl⟩);simp only[we,hk,wt,zY,s7 hk,a0q];rw[za (by
   rw[pu];intro e;exact h (e▸zh hk)),o0]
theorem contains_eq(l:List Int)(x:Int)(hl:l.length<=1000000):E6 l x=some (decide (x∈l)):=by
 obtain⟨r,h1,h2⟩:=NP l x hl;unfold E6;rw[h1,a0q];congr 1;exact zbd.2 h2
section
variable{s:b6}(hR:wL (sO s))
include hR
open Classical in
theorem Jw (hF:FB s) {l:List Int} (hl:LB l) (hlen:l.length<=1000000):jW s l=some (Ib s l):=by
 obtain⟨m,h1,h2⟩:=Cj hR hF hl hlen;unfold jW Y0 jh;rw[h1,a0q];simp only[jn,fg hR,a0q];have h24:=K8 hR;rw[V7 (lv s) (λacc x=>if decide (su s l x) then acc ++ [x] else acc) id (λk acc=>acc.length<=k) (by omega) (by simp) (λk hk acc hb=>?_) (λb _=>?_)]
 .simp only[a0q,id];rw[foldl_filter];rfl
 .simp only[we,hk,wt,zY,s7 hk,a0q];by_cases q:su s l (lv s)[k]
  .rw[zb ((h2 _).2 q),zb (by simpa using q),J3 (by omega) (by simp;omega),a0q,o0];exact⟨rfl,by simp;omega⟩
  .rw[za (λk=>q ((h2 _).1 k)),za (by simpa using q),o0];exact⟨rfl,by omega⟩
 .simp only[zbh,zbq,zA,ul];rfl
open Classical in
theorem RW (hF:FB s) {l:List Int} (hl:LB l) (hlen:l.length<=1000000):ny s l=some (lst s l):=by
 obtain⟨m,h1,h2⟩:=Cj hR hF hl hlen;unfold ny Y1 ji;rw[h1,a0q];simp only[jn,fg hR,a0q];have h24:=K8 hR;rw[V7 (lv s) (λacc x=>if decide (¬su s l x) then acc ++ [x] else acc) id (λk acc=>acc.length<=k) (by omega) (by simp) (λk hk acc hb=>?_) (λb _=>?_)]
 .simp only[a0q,id];rw[foldl_filter];rfl
 .simp only[we,hk,wt,zY,s7 hk,a0q];by_cases q:su s l (lv s)[k]
  .have e:(A2 m (lv s)[k]).getD false=true:=(h2 _).2 q;rw[za (by rw[e];decide),za (by simpa using q),o0];exact⟨rfl,by omega⟩
  .have e:(A2 m (lv s)[k]).getD false=false:=by
    have:¬Mk m (lv s)[k]:=λk=>q ((h2 _).1 k);simpa[Mk] using this
   rw[zb (by rw[e];decide),zb (by simpa using q),J3 (by omega) (by simp;omega),a0q,o0];exact⟨rfl,by simp;omega⟩
 .simp only[zbh,zbq,zA,ul];rfl
end
abbrev Tb:=List g5
abbrev eF(p:g5):u9:=⟨p.State,p.Key,p.Val⟩
def pt(t:Tb)(j:Nat):g5:=t.getD j ⟨0,0,0⟩
theorem ma{t:Tb}{j:Nat}(h:j<t.length):pt t j=t[j]:=by unfold pt;rw[zd,zc h];rfl
theorem Fu{t:Tb}{j:Nat}(h:j<t.length):ix t (j:Int)=some (pt t j):=by rw[s7 h,ma h]
theorem yZ{t:Tb}{i:Nat}(h:i<t.length)(p:g5)(j:Nat):pt (t.set i p) j=if j=i then p else pt t j:=by
 unfold pt;rw[zd,zd,List.getElem?_set];by_cases e:i=j
 .subst e;simp[h]
 .rw[za e,za (zay e)]
def hm(n:Nat)(k:Int):Nat:=(w9 ((w9 (5*k))+1) % (n:Int)).toNat
theorem Ua{n:Nat}(h:1<=n)(k:Int):hm n k<n:=by
 unfold hm;have h1:=Int.emod_nonneg (w9 ((w9 (5*k))+1)) (show (n:Int)≠0 by omega);have h2:=Int.emod_lt_of_pos (w9 ((w9 (5*k))+1)) (show (0:Int)<n by omega);omega
theorem JC{n:Nat}(h:1<=n)(h2:n<=1000)(k:Int):eD n k=some (hm n k:Int):=by
 unfold eD hm;rw[za (by simp;omega)];generalize w9 ((w9 (5*k))+1)=a;have hp:=Int.emod_nonneg a (show (n:Int)≠0 by omega);have hl:=Int.emod_lt_of_pos a (show (0:Int)<n by omega);unfold rem;rw[za (by omega),a0q,Int.toNat_of_nonneg hp];rw[Int.tmod_eq_emod];split;·rw[show a % (n:Int)-((0:Nat):Int)=a % n by simp,za (by simp;omega)]
 .have:((n:Int).natAbs:Int)=n:=by simp
  rw[this];rw[zb (by simp;omega),U2 (by omega) (by omega)];congr 1;omega
def pos(n:Nat)(k:Int)(d:Nat):Nat:=(hm n k+d) % n
theorem rU{n:Nat}(h:1<=n)(k:Int)(d:Nat):pos n k d<n:=Nat.mod_lt _ h
theorem Uq{n:Nat}(h:1<=n)(h8:n<=8):n=1\/n=2\/n=3\/n=4\/n=5\/n=6\/n=7\/n=8:=by omega
theorem Ou{n m i:Nat}(h:1<=n)(h8:n<=8)(hm:m<n)(hi:i<n):∃d,d<n/\(m+d) % n=i:=by
 refine⟨(i+n-m) % n,Nat.mod_lt _ h,?_⟩;rcases Uq h h8 with rfl | rfl | rfl | rfl | rfl | rfl | rfl | rfl <;> omega
theorem Sg{n m d d':Nat}(h:1<=n)(h8:n<=8)(hd:d<n)(hd':d'<n)(e:(m+d) % n=(m+d') % n):d=d':=by
 rcases Uq h h8 with rfl | rfl | rfl | rfl | rfl | rfl | rfl | rfl <;> omega
theorem FV{n:Nat}(h:1<=n)(h8:n<=8)(k:Int){i:Nat}(hi:i<n):∃d,d<n/\pos n k d=i:=Ou h h8 (Ua h k) hi
theorem SK{n:Nat}(h:1<=n)(h8:n<=8){k:Int}{d d':Nat}(hd:d<n)(hd':d'<n)(e:pos n k d=pos n k d'):d=d':=Sg h h8 hd hd' e
structure HR (t:Tb):Prop where
 l1:1<=t.length
 l8:t.length<=8
 st:∀i,i<t.length->((pt t i).State=0\/(pt t i).State=1\/(pt t i).State=2)/\((pt t i).State≠1->(pt t i).Key=0/\(pt t i).Val=0)
 uq:∀i j,i<t.length->j<t.length->(pt t i).State=1->(pt t j).State=1->(pt t i).Key=(pt t j).Key->i=j
 rd:∀i,i<t.length->(pt t i).State=1->∀d,d<t.length->(∀d',d'<=d->pos t.length (pt t i).Key d'≠i)->(pt t (pos t.length (pt t i).Key d)).State≠0
def Fk(t:Tb)(k:Int)(i:Nat):Prop:=i<t.length/\(pt t i).State=1/\(pt t i).Key=k
instance(t:Tb)(k:Int)(i:Nat):Decidable (Fk t k i):=by unfold Fk;infer_instance
theorem step_eq{n:Nat}(h:1<=n)(h2:n<=1000)(k:Int){d:Nat}(hd:d<n):rem (w9 ((hm n k:Int)+d)) n=some ((pos n k d:Nat):Int):=by
 have:=Ua h k;rw[U2 (by omega) (by omega),xE (by omega) (by omega)];unfold pos;simp[Int.natCast_emod]
theorem BH{t:Tb}(h1:1<=t.length)(h8:t.length<=8)(k:Int) :
  (∃d,d<t.length/\(∀j,j<d->(pt t (pos t.length k j)).State≠0/\¬Fk t k (pos t.length k j))/\Fk t k (pos t.length k d)/\bb t k=some ((pos t.length k d:Nat):Int)) \/
  (∃d,d<=t.length/\(∀j,j<d->(pt t (pos t.length k j)).State≠0/\¬Fk t k (pos t.length k j))/\(d=t.length\/(pt t (pos t.length k d)).State=0)/\bb t k=some (-1)):=by
 unfold bb;simp only[jn,jw,a0q];generalize hq:(lp (S:=Int) (E:=Int ⊕ Unit) _ 0)=q;have body:∀d:Nat,d<t.length->(if (decide ((d:Int)<(t.length:Int))) then
    (eD (t.length:Int) k).bind λv14=>
    (rem (w9 (v14+d)) (t.length:Int)).bind λv15=>
    (ix t v15).bind λv16=>
    if (v16.State==0) then
     some (.inr (.inr ()))
    else
    if ((v16.State==1)&&(v16.Key==k)) then
     some (.inr (.inl v15))
    else
    some (.inl (w9 ((d:Int)+1)))
   else
   some (.inr (.inr ())):Option (Int ⊕ (Int ⊕ Unit)))=if (pt t (pos t.length k d)).State=0 then some (.inr (.inr ())) else if Fk t k (pos t.length k d) then some (.inr (.inl ((pos t.length k d:Nat):Int))) else some (.inl ((d+1:Nat):Int)):=λd hd=>by
  have hp:=rU h1 k d;rw[zb (by simpa using hd),JC h1 (by omega),a0q,step_eq h1 (by omega) k hd,a0q,Fu hp,a0q,o0 (by omega)];by_cases a:(pt t (pos t.length k d)).State=0
  .rw[zb (by simpa using a),zb a]
  .rw[za (by simpa using a),za a];by_cases b:Fk t k (pos t.length k d)
   .rw[zb (by simp[b.2.1,b.2.2]),zb b]
   .rw[za (by simp;exact λh1 h2=>b ⟨hp,h1,h2⟩),za b]
 have key:=BS (f:=λ(s12:Int)=>if (decide (s12<(t.length:Int))) then
    (eD (t.length:Int) k).bind λv14=>
    (rem (w9 (v14+s12)) (t.length:Int)).bind λv15=>
    (ix t v15).bind λv16=>
    if (v16.State==0) then
     some (.inr (.inr ()))
    else
    if ((v16.State==1)&&(v16.Key==k)) then
     some (.inr (.inl v15))
    else
    some (.inl (w9 (s12+1)))
   else
   some (.inr (.inr ()))) t.length (λd=>∀j,j<d->(pt t (pos t.length k j)).State≠0/\¬Fk t k (pos t.length k j))
   (λ(e:Int ⊕ Unit)=>(∃d,d<t.length/\(∀j,j<d->(pt t (pos t.length k j)).State≠0/\¬Fk t k (pos t.length k j))/\Fk t k (pos t.length k d)/\e = .inl ((pos t.length k d:Nat):Int)) \/
    (∃d,d<=t.length/\(∀j,j<d->(pt t (pos t.length k j)).State≠0/\¬Fk t k (pos t.length k j))/\(d=t.length\/(pt t (pos t.length k d)).State=0)/\e = .inr ())) (by omega) (λj hj=>by omega)
   (λd hd hP=>by
    rw[body d hd];by_cases a:(pt t (pos t.length k d)).State=0
    .rw[zb a];exact .inr ⟨_,rfl,.inr ⟨d,by omega,hP,.inr a,rfl⟩⟩
    .rw[za a];by_cases b:Fk t k (pos t.length k d)
     .rw[zb b];exact .inr ⟨_,rfl,.inl ⟨d,hd,hP,b,rfl⟩⟩
     .rw[za b];refine .inl ⟨rfl,λj hj=>?_⟩;rcases zE j d with q | q
      .exact hP j q
      .have:j=d:=by omega
       subst this;exact⟨a,b⟩)
   (λhP=>⟨.inr (),by simp,.inr ⟨t.length,zF _,hP,.inl rfl,rfl⟩⟩)
 obtain⟨e,he,hQ⟩:=key;rw[he] at hq;subst hq;rcases hQ with ⟨d,a1,a2,a3,rfl⟩ | ⟨d,a1,a2,a3,rfl⟩;·exact .inl ⟨d,a1,a2,a3,rfl⟩
 .exact .inr ⟨d,a1,a2,a3,rfl⟩
theorem sY{t:Tb}(hR:HR t){k:Int}{i:Nat}(hi:Fk t k i):bb t k=some (i:Int):=by
 obtain⟨di,hdi,hpi⟩:=FV hR.l1 hR.l8 k hi.1;have road:∀d,d<di->(pt t (pos t.length k d)).State≠0:=λd hd=>by
  have:=hR.rd i hi.1 hi.2.1 d (by omega) (λd' hd' e=>by
   rw[hi.2.2] at e;have:=SK hR.l1 hR.l8 (by omega) hdi (e.trans hpi.symm);omega)
  rwa [hi.2.2] at this
 rcases BH hR.l1 hR.l8 k with ⟨d,a1,a2,a3,a4⟩ | ⟨d,a1,a2,a3,a4⟩;·rw[a4,hR.uq _ i (rU hR.l1 k d) hi.1 a3.2.1 hi.2.1 (by rw[a3.2.2,hi.2.2])]
 .exfalso;rcases zE di d with q | q
  .exact (a2 di q).2 (by rw[hpi];exact hi)
  .rcases a3 with rfl | a3
   .omega
   .rcases zE d di with q' | q'
    .exact road d q' a3
    .have:d=di:=by omega
     subst this;rw[hpi,hi.2.1] at a3;cases a3
theorem sX{t:Tb}(h1:1<=t.length)(h8:t.length<=8){k:Int}(hi:∀i,¬Fk t k i):bb t k=some (-1):=by
 rcases BH h1 h8 k with ⟨d,a1,a2,a3,a4⟩ | ⟨d,a1,a2,a3,a4⟩;·exact absurd a3 (hi _)
 .exact a4
theorem BI(t:Tb)(k:Int):(∃i,Fk t k i)\/∀i,¬Fk t k i:=by
 by_cases h:∃i,Fk t k i
 .exact .inl h
 .exact .inr λi hi=>h ⟨i,hi⟩
theorem AN{t:Tb}{i:Nat}(h8:t.length<=1000)(hi:i<t.length)(p:g5):eE t (i:Int) p=some (t.set i p):=by
 unfold eE F4;rw[dI (by omega) (by omega),a0q,s7 hi,a0q,zP]
inductive xS (t:Tb) (k v:Int):Tb × Int->Prop
 | old (i:Nat) (hi:Fk t k i):xS t k v (t.set i ⟨1,k,v⟩,0)
 | new (d:Nat) (hn:∀i,¬Fk t k i) (hd:d<t.length) (hb:∀j,j<d->(pt t (pos t.length k j)).State=1) (hf:(pt t (pos t.length k d)).State≠1):xS t k v (t.set (pos t.length k d) ⟨1,k,v⟩,0)
 | full (hn:∀i,¬Fk t k i) (ha:∀i,i<t.length->(pt t i).State=1):xS t k v (t,8)
theorem Pb{t:Tb}(hR:HR t)(k v:Int):∃r,pb t k v=some r/\xS t k v r:=by
 have h1:=hR.l1;have h8:=hR.l8;unfold pb;rcases BI t k with ⟨i,hi⟩ | hn
 .rw[sY hR hi,a0q,zb (by simp),AN (by omega) hi.1];exact⟨_,rfl,.old i hi⟩
 .rw[sX h1 h8 hn,a0q,za (by decide)];simp only[jn,jw,a0q];have key:=BS (f:=λ(s15:Int)=>
   if (decide (s15<(t.length:Int))) then
    (eD (t.length:Int) k).bind λv17=>
    (rem (w9 (v17+s15)) (t.length:Int)).bind λv18=>
    (ix t v18).bind λv19=>
    if (v19.State != 1) then
     (eE t v18 (⟨1,k,v⟩:g5)).bind λv20=>
     some (Sum.inr (.inl (v20,(0:Int))))
    else
    some (.inl (w9 (s15+1)))
   else
   some (.inr (.inr ()))) t.length (λd=>∀j,j<d->(pt t (pos t.length k j)).State=1)
   (λ(e:(Tb × Int) ⊕ Unit)=>(∃r,e = .inl r/\xS t k v r)\/(e = .inr ()/\xS t k v (t,8))) (by omega) (λj hj=>by omega)
   (λd hd hP=>by
    have hp:=rU h1 k d;rw[zb (by simpa using hd),JC h1 (by omega),a0q,step_eq h1 (by omega) k hd,a0q,Fu hp,a0q];by_cases a:(pt t (pos t.length k d)).State=1
    .rw[za (by simpa using a),o0 (by omega)];refine .inl ⟨rfl,λj hj=>?_⟩;rcases zE j d with q | q
     .exact hP j q
     .have:j=d:=by omega
      subst this;exact a
    .rw[zb (by simpa using a),AN (by omega) hp,a0q];exact .inr ⟨_,rfl,.inl ⟨_,rfl,.new d hn hd hP a⟩⟩)
   (λhP=>⟨.inr (),by simp,.inr ⟨rfl,.full hn λi hi=>by
    obtain⟨d,hd,rfl⟩:=FV h1 h8 k hi;exact hP d hd⟩⟩)
  obtain⟨e,he,hQ⟩:=key;rw[he,a0q];rcases hQ with ⟨r,rfl,hr⟩ | ⟨rfl,hr⟩;·exact⟨r,rfl,hr⟩
  .exact⟨_,rfl,hr⟩
theorem NH{t:Tb}(hR:HR t){k:Int}{i:Nat}(hi:Fk t k i):Z5 t k=some ((pt t i).Val,0):=by
 unfold Z5;rw[sY hR hi,a0q,za (by simp),Fu hi.1,a0q]
theorem NG{t:Tb}(hR:HR t){k:Int}(hi:∀i,¬Fk t k i):Z5 t k=some (0,9):=by
 unfold Z5;rw[sX hR.l1 hR.l8 hi,a0q,zb (by decide)]
theorem sQ{t:Tb}(hR:HR t){k:Int}{i:Nat}(hi:Fk t k i):ba t k=some (t.set i ⟨2,0,0⟩,(pt t i).Val,0):=by
 have:=hR.l8;unfold ba;rw[sY hR hi,a0q,za (by simp),AN (by omega) hi.1,a0q,Fu hi.1,a0q]
theorem sP{t:Tb}(hR:HR t){k:Int}(hi:∀i,¬Fk t k i):ba t k=some (t,0,9):=by
 unfold ba;rw[sX hR.l1 hR.l8 hi,a0q,zb (by decide)]
theorem HR.set{t:Tb}(hR:HR t){i:Nat}(hi:i<t.length){p:g5}(h0:p.State=1\/p=⟨2,0,0⟩)
  (hu:p.State=1->∀j,j≠i->¬Fk t p.Key j)(hr:p.State=1->∀d,d<t.length->(∀d',d'<=d->pos t.length p.Key d'≠i)->(pt t (pos t.length p.Key d)).State≠0):HR (t.set i p):=by
 have hnz:p.State≠0:=by
  rcases h0 with h | rfl
  .omega
  .simp
 refine⟨by simpa using hR.l1,by simpa using hR.l8,λj hj=>?_,λj j' hj hj' s1 s2 hk=>?_,λj hj s1 d hd hne=>?_⟩ <;> simp only[zap] at *
 .rw[yZ hi];split
  .rcases h0 with h | rfl
   .exact⟨.inr (.inl h),λq=>absurd h q⟩
   .exact⟨.inr (.inr rfl),λ_=>⟨rfl,rfl⟩⟩
  .exact hR.st j hj
 .rw[yZ hi] at s1 s2 hk;rw[yZ hi] at hk;by_cases e1:j=i <;> by_cases e2:j'=i
  .rw[e1,e2]
  .rw[zb e1] at s1 hk;rw[za e2] at s2 hk;exact absurd ⟨hj',s2,hk.symm⟩ (hu s1 j' e2)
  .rw[za e1] at s1 hk;rw[zb e2] at s2 hk;exact absurd ⟨hj,s1,hk⟩ (hu s2 j e1)
  .rw[za e1] at s1 hk;rw[za e2] at s2 hk;exact hR.uq j j' hj hj' s1 s2 hk
 .simp only[yZ hi] at s1 hne |-;by_cases e1:j=i
  .simp only[zb e1] at s1 hne |-;split;·exact hnz
   .exact hr s1 d hd (by rw[<-e1];exact hne)
  .simp only[za e1] at s1 hne |-;split;·exact hnz
   .exact hR.rd j hj s1 d hd hne
theorem Aa{t:Tb}(hR:HR t){k v:Int}{r:Tb × Int}(h:xS t k v r):HR r.1:=by
 cases h with
 | old i hi=>
  refine hR.set hi.1 (.inl rfl) (λ_ j hj q=>hj (hR.uq j i q.1 hi.1 q.2.1 hi.2.1 (q.2.2.trans hi.2.2.symm))) λ_ d hd hne=>?_;have:=hR.rd i hi.1 hi.2.1 d hd (by rw[hi.2.2];exact hne);rwa [hi.2.2] at this
 | new d hn hd hb hf=>
  refine hR.set (rU hR.l1 k d) (.inl rfl) (λ_ j _=>hn j) λ_ d' hd' hne=>?_;rcases zE d' d with q | q
  .have:=hb d' q;simp only;omega
  .exact absurd rfl (hne d q)
 | full hn ha=>exact hR
theorem oP{t:Tb}(hR:HR t){i:Nat}(hi:i<t.length):HR (t.set i ⟨2,0,0⟩):=hR.set hi (.inr rfl) (λq=>by cases q) λq=>by cases q
theorem Zg{t:Tb}{j:Nat}(h:j<t.length):ix (t.map eF) (j:Int)=some (eF (pt t j)):=by rw[tE,Fu h];rfl
theorem Pm{t:Tb}(h8:t.length<=1000){k:Int}{i:Nat}(hi:Fk t k i)(hf:∀j,j<i->¬Fk t k j):mh (t.map eF) k=some (i:Int):=by
 unfold mh;simp only[jn];refine db t.length (λj=>j<=i) (by omega) (zX _) (λj hj hP=>?_) (λhP=>by have:=hi.1;omega);rw[zb (by simpa using hj),Zg hj,a0q];by_cases e:j=i
 .subst e;exact .inr ⟨.inl (j:Int),by rw[zb (by simp[eF,hi.2.1,hi.2.2])],rfl⟩
 .have:=hf j (by omega);refine .inl ⟨by rw[za (by simp[eF];exact λh1 h2=>this ⟨hj,h1,h2⟩),o0 (by omega)],by omega⟩
theorem Pk{t:Tb}(h8:t.length<=1000){k:Int}(hf:∀j,¬Fk t k j):mh (t.map eF) k=some (-1):=by
 unfold mh;simp only[jn];refine db t.length (λj=>True) (by omega) trivial (λj hj hP=>?_) (λhP=>⟨.inr (),by simp,rfl⟩);rw[zb (by simpa using hj),Zg hj,a0q];refine .inl ⟨by rw[za (by simp[eF];exact λh1 h2=>hf j ⟨hj,h1,h2⟩),o0 (by omega)],trivial⟩
theorem Nz{t:Tb}{k:Int}(h:∃i,Fk t k i):∃i,Fk t k i/\∀j,j<i->¬Fk t k j:=by
 obtain⟨i,h1,h2⟩:=dQ h;exact⟨i,h1,λj hj q=>by have:=h2 j q;omega⟩
theorem Mf{t:Tb}{i:Nat}(h8:t.length<=1000)(hi:i<t.length)(p:g5):Ad (t.map eF) (i:Int) (eF p)=some ((t.set i p).map eF):=by
 unfold Ad;rw[dI (by omega) (by simp;omega),a0q,Zg hi,a0q,zP,zcp]
def Has(t:Tb)(k v:Int):Prop:=∃i,Fk t k i/\(pt t i).Val=v
theorem VG{t:Tb}{k:Int}:(∀v,¬Has t k v)↔∀i,¬Fk t k i:=by
 constructor;·intro h i hi;exact h _ ⟨i,hi,rfl⟩
 .rintro h v ⟨i,hi,_⟩;exact h i hi
theorem VH(t:Tb)(k:Int):(∃v,Has t k v)\/∀v,¬Has t k v:=by
 by_cases h:∃v,Has t k v
 .exact .inl h
 .exact .inr λv hv=>h ⟨v,hv⟩
theorem Has.fn{t:Tb}(hR:HR t){k v v':Int}(h:Has t k v)(h':Has t k v'):v=v':=by
 obtain⟨i,a,rfl⟩:=h;obtain⟨j,b,rfl⟩:=h';rw[hR.uq i j a.1 b.1 a.2.1 b.2.1 (a.2.2.trans b.2.2.symm)]
theorem Jy{t:Tb}(hR:HR t){k v:Int}(h:Has t k v):Z5 t k=some (v,0):=by
 obtain⟨i,a,rfl⟩:=h;exact NH hR a
theorem Lu{t:Tb}(hR:HR t){k:Int}(h:∀v,¬Has t k v):Z5 t k=some (0,9):=NG hR (VG.1 h)
theorem Db{t:Tb}{i:Nat}(hi:i<t.length){k v:Int}(p:g5)(h:∀j,j≠i->Fk t p.Key j->p.State≠1)(k' v':Int) :
  Has (t.set i p) k' v'↔(p.State=1/\p.Key=k'/\p.Val=v')\/∃j,j≠i/\Fk t k' j/\(pt t j).Val=v':=by
 unfold Has Fk;simp only[zap,yZ hi];constructor
 .rintro⟨j,⟨h1,h2,h3⟩,h4⟩;by_cases e:j=i
  .rw[zb e] at h2 h3 h4;exact .inl ⟨h2,h3,h4⟩
  .rw[za e] at h2 h3 h4;exact .inr ⟨j,e,⟨h1,h2,h3⟩,h4⟩
 .rintro (⟨h1,h2,h3⟩ | ⟨j,e,⟨h1,h2,h3⟩,h4⟩);·exact⟨i,by simp[hi,h1,h2,h3]⟩
  .exact⟨j,by simp[e,h1,h2,h3,h4]⟩
theorem xz{t:Tb}(hR:HR t){k v:Int}{r:Tb × Int}(h:xS t k v r)(h0:r.2=0)(k' v':Int):Has r.1 k' v'↔(k'=k/\v'=v)\/(k'≠k/\Has t k' v'):=by
 cases h with
 | old i hi=>
  rw[Db (k:=k) (v:=v) hi.1 _ (λj hj q=>absurd (hR.uq j i q.1 hi.1 q.2.1 hi.2.1 (q.2.2.trans hi.2.2.symm)) hj)];constructor
  .rintro (⟨_,rfl,rfl⟩ | ⟨j,e,h1,h2⟩);·exact .inl ⟨rfl,rfl⟩
   .refine .inr ⟨λq=>?_,j,h1,h2⟩;subst q;exact e (hR.uq j i h1.1 hi.1 h1.2.1 hi.2.1 (h1.2.2.trans hi.2.2.symm))
  .rintro (⟨rfl,rfl⟩ | ⟨e,j,h1,h2⟩);·exact .inl ⟨rfl,rfl,rfl⟩
   .refine .inr ⟨j,λq=>?_,h1,h2⟩;subst q;exact e (h1.2.2.symm.trans hi.2.2)
 | new d hn hd hb hf=>
  rw[Db (k:=k) (v:=v) (rU hR.l1 k d) _ (λj hj q=>absurd q (hn j))];constructor
  .rintro (⟨_,rfl,rfl⟩ | ⟨j,e,h1,h2⟩);·exact .inl ⟨rfl,rfl⟩
   .refine .inr ⟨λq=>?_,j,h1,h2⟩;subst q;exact hn j h1
  .rintro (⟨rfl,rfl⟩ | ⟨e,j,h1,h2⟩);·exact .inl ⟨rfl,rfl,rfl⟩
   .refine .inr ⟨j,λq=>?_,h1,h2⟩;subst q;exact hf h1.2.1
 | full hn ha=>cases h0
theorem sN{t:Tb}(hR:HR t){k:Int}{i:Nat}(hi:Fk t k i)(k' v':Int):Has (t.set i ⟨2,0,0⟩) k' v'↔k'≠k/\Has t k' v':=by
 rw[Db (k:=k) (v:=0) hi.1 _ (λj hj q=>by simp)];constructor
 .rintro (⟨h,_⟩ | ⟨j,e,h1,h2⟩);·cases h
  .refine⟨λq=>?_,j,h1,h2⟩;subst q;exact e (hR.uq j i h1.1 hi.1 h1.2.1 hi.2.1 (h1.2.2.trans hi.2.2.symm))
 .rintro⟨e,j,h1,h2⟩;refine .inr ⟨j,λq=>?_,h1,h2⟩;subst q;exact e (h1.2.2.symm.trans hi.2.2)
def keys(t:Tb):List Int:=(t.filter (·.State==1)).map (·.Key)
theorem Hy{α β:Type}(p:α->Bool)(f:α->β)(l:List α)(k:Nat)(h:k<l.length):((l.take (k+1)).filter p).map f=((l.take k).filter p).map f++(if p l[k] then [f l[k]] else []):=by
 rw[zt h,zbc,q9];congr 1;simp only[or,List.filter_nil];split <;> rfl
theorem keys_eq{t:Tb}(h:t.length<=1000):lN t=some (keys t):=by
 unfold lN keys;simp only[jn];refine Y8 t.length (λk l=>l=((t.take k).filter (·.State==1)).map (·.Key)) (by omega) (by simp) ?_ (λl hl=>⟨_,by simp;rfl,by rw[hl,zW]⟩);rintro k l hk rfl;left;rw[Hy _ _ _ _ hk];rw[zb (by simpa using hk),s7 hk,a0q,o0 (by omega)];have hle:(List.map (·.Key) (List.filter (·.State==1) (List.take k t))).length<=1000:=by
  rw[zl];exact zO (zD ..) (by simp;omega)
 by_cases c:(t[k].State==1)=true
 .rw[zb c,zb c,J3 (by omega) (by simp only[zH,zag];omega),a0q];exact⟨_,rfl,rfl⟩
 .rw[za c,za c];exact⟨_,rfl,by simp⟩
theorem Pj{t:Tb}(hR:HR t)(k:Int):mh (t.map eF) k=bb t k:=by
 have h8:=hR.l8;rcases BI t k with ⟨i,hi⟩ | hn
 .rw[sY hR hi];obtain⟨f,hf1,hf2⟩:=Nz ⟨i,hi⟩;rw[Pm (by omega) hf1 hf2,hR.uq f i hf1.1 hi.1 hf1.2.1 hi.2.1 (hf1.2.2.trans hi.2.2.symm)]
 .rw[sX hR.l1 hR.l8 hn,Pk (by omega) hn]
theorem WR{t:Tb}(hR:HR t)(k:Int):ug (t.map eF) k=(ba t k).map λr=>(r.1.map eF,r.2):=by
 have h8:=hR.l8;rcases BI t k with ⟨i,hi⟩ | hn
 .rw[sQ hR hi];unfold ug;rw[Pj hR,sY hR hi,a0q,za (by simp)];have:=Mf (t:=t) (by omega) hi.1 ⟨2,0,0⟩;dsimp only[eF] at this;rw[this,a0q,Zg hi.1];rfl
 .rw[sP hR hn];unfold ug;rw[Pj hR,sX hR.l1 hR.l8 hn];rfl
theorem Ga{t:Tb}{k v:Int}{r:Tb × Int}(h:xS t k v r):r.1.length=t.length:=by cases h <;> simp
theorem jQ(t:Tb):(keys t).length=t.countP (·.State==1):=by
 unfold keys;rw[zl,zbw]
theorem tF{t:Tb}{i:Nat}(h:i<t.length)(p:g5):(keys (t.set i p)).length+(if (pt t i).State=1 then 1 else 0)=(keys t).length+if p.State=1 then 1 else 0:=by
 rw[jQ,jQ,List.countP_set h,ma h];simp only[pu];have:(if t[i].State=1 then 1 else 0)<=t.countP λc=>c.State==1:=by
  split
  .rename_i e;exact zbx.2 ⟨t[i],zh h,by simpa using e⟩
  .exact zX _
 omega
theorem Ly{t:Tb}(h:∀i,i<t.length->(pt t i).State=1):(keys t).length=t.length:=by
 rw[jQ,List.countP_eq_length];intro a ha;obtain⟨i,hi,rfl⟩:=ww ha;have:=h i hi;rw[ma hi] at this;simpa using this
theorem RR{t:Tb}{i:Nat}(hi:i<t.length)(h:(pt t i).State≠1):(keys t).length<t.length:=by
 have h1:(keys t).length<=t.length:=by rw[jQ];exact zcj
 rcases zE (keys t).length t.length with q | q
 .exact q
 .exfalso;have e:(keys t).length=t.length:=by omega
  rw[jQ,List.countP_eq_length] at e;have:=e t[i] (zh hi);rw[ma hi] at h;exact h (by simpa using this)
structure TM {V:Type} (φ:V->Int->Prop) (t:Tb) (m:List (Int × V)):Prop where
 R:HR t
 nd:(m.map (·.1)).Nodup
 len:(keys t).length=m.length
 has:∀k,(∀v,Has t k v->∃u,A2 m k=some u/\φ u v)/\((A2 m k).isSome=true->∃v,Has t k v)
theorem TM.some{V:Type}{φ:V->Int->Prop}{t:Tb}{m:List (Int × V)}(h:TM φ t m)(k:Int):(∃v u,Has t k v/\A2 m k=some u/\φ u v)\/(A2 m k=none/\∀v,¬Has t k v):=by
 rcases VH t k with ⟨v,hv⟩ | hn
 .obtain⟨u,h1,h2⟩:=(h.has k).1 v hv;exact .inl ⟨v,u,hv,h1,h2⟩
 .refine .inr ⟨?_,hn⟩;cases hq:A2 m k with
  | none=>rfl
  | some u=>
   obtain⟨v,hv⟩:=(h.has k).2 (by rw[hq];rfl);exact absurd hv (hn v)
theorem TM.put{V:Type}{φ:V->Int->Prop}{t:Tb}{m:List (Int × V)}(h:TM φ t m)(k v:Int)(u:V)(hφ:φ u v):∃r,pb t k v = .some r/\r.1.length=t.length/\((r.2=0/\TM φ r.1 (p7 m k u)/\((A2 m k).isSome=true\/m.length<t.length))\/(r=(t,8)/\(A2 m k)=none/\m.length=t.length)):=by
 obtain⟨r,hr,hp⟩:=Pb h.R k v;refine⟨r,hr,Ga hp,?_⟩;have hRr:=Aa h.R hp;by_cases h0:r.2=0
 .left;have hh:=xz h.R hp h0;have hmem:∀k',(∀w,Has r.1 k' w->∃x,A2 (p7 m k u) k' = .some x/\φ x w)/\((A2 (p7 m k u) k').isSome=true->∃w,Has r.1 k' w):=λk'=>by
   rw[qd];by_cases e:k'=k
   .subst e;rw[zb rfl];refine⟨λw hw=>?_,λ_=>⟨v,(hh _ _).2 (.inl ⟨rfl,rfl⟩)⟩⟩;rcases (hh _ _).1 hw with ⟨_,rfl⟩ | ⟨q,_⟩;·exact⟨u,rfl,hφ⟩
    .exact absurd rfl q
   .rw[za e];refine⟨λw hw=>?_,λq=>?_⟩
    .rcases (hh _ _).1 hw with ⟨q,_⟩ | ⟨_,q⟩;·exact absurd q e
     .exact (h.has k').1 w q
    .obtain⟨w,hw⟩:=(h.has k').2 q;exact⟨w,(hh _ _).2 (.inr ⟨e,hw⟩)⟩
  have hlen:(keys r.1).length=(p7 m k u).length/\((A2 m k).isSome=true\/m.length<t.length):=by
   rw[Ov];cases hp with
   | old i hi=>
    have h1:(A2 m k).isSome=true:=by
     obtain⟨x,h1,_⟩:=(h.has k).1 _ ⟨i,hi,rfl⟩;rw[h1];rfl
    have:=tF hi.1 ⟨1,k,v⟩;rw[zb hi.2.1,zb rfl,h.len] at this;rw[zb h1];exact⟨by simp only;omega,.inl h1⟩
   | new d hn hd hb hf=>
    have h1:(A2 m k)=none:=by
     rcases h.some k with ⟨w,x,hw,_⟩ | ⟨q,_⟩
     .obtain⟨i,hi,_⟩:=hw;exact absurd hi (hn i)
     .exact q
    have hlt:=rU h.R.l1 k d;have:=tF hlt ⟨1,k,v⟩;rw[za hf,zb rfl,h.len] at this;rw[h1];have h2:=RR hlt hf;rw[h.len] at h2;exact⟨by simpa using this,.inr h2⟩
   | full hn ha=>cases h0
  exact⟨h0,⟨hRr,HJ h.nd k u,hlen.1,hmem⟩,hlen.2⟩
 .right;cases hp with
  | old i hi=>exact absurd rfl h0
  | new d hn hd hb hf=>exact absurd rfl h0
  | full hn ha=>
   refine⟨rfl,?_,?_⟩
   .rcases h.some k with ⟨w,x,hw,_⟩ | ⟨q,_⟩
    .obtain⟨i,hi,_⟩:=hw;exact absurd hi (hn i)
    .exact q
   .rw[<-h.len,Ly ha]
theorem TM.drop{V:Type}{φ:V->Int->Prop}{t:Tb}{m:List (Int × V)}(h:TM φ t m)(k:Int):(∃r v u,ba t k = .some (r,v,0)/\r.length=t.length/\A2 m k = .some u/\φ u v/\TM φ r (vo m k))\/(ba t k = .some (t,0,9)/\A2 m k=none/\vo m k=m):=by
 rcases BI t k with ⟨i,hi⟩ | hn
 .left;obtain⟨u,h1,h2⟩:=(h.has k).1 _ ⟨i,hi,rfl⟩;refine⟨_,_,u,sQ h.R hi,by simp,h1,h2,oP h.R hi.1,(Om m k).nodup h.nd,?_,λk'=>?_⟩
  .have:=tF hi.1 ⟨2,0,0⟩;rw[zb hi.2.1,za (by decide),h.len] at this;rw[Ol,h1];simp only[Option.isSome_some,zY];omega
  .have hh:=sN h.R hi;rw[LH h.nd];by_cases e:k'=k
   .subst e;rw[zb rfl];exact⟨λw hw=>absurd rfl ((hh _ _).1 hw).1,λq=>by cases q⟩
   .rw[za e];refine⟨λw hw=>(h.has k').1 w ((hh _ _).1 hw).2,λq=>?_⟩;obtain⟨w,hw⟩:=(h.has k').2 q;exact⟨w,(hh _ _).2 ⟨e,hw⟩⟩
 .right;have h1:A2 m k=none:=by
   rcases h.some k with ⟨w,x,hw,_⟩ | ⟨q,_⟩
   .obtain⟨i,hi,_⟩:=hw;exact absurd hi (hn i)
   .exact q
  refine⟨sP h.R hn,h1,?_⟩;have:∀(l:List (Int × V)),A2 l k=none->vo l k=l:=by
   intro l;induction l with
   | nil=>intro _;rfl
   | cons p l ih=>
    intro q;unfold A2 at q;unfold vo;by_cases e:k=p.1
    .rw[zb (by simpa using e)] at q;cases q
    .rw[za (by simpa using e)] at q;rw[za (by simpa using e),ih q]
  exact this m h1
theorem Wf{n:Nat}(h1:1<=n)(h8:n<=8):tt (n:Int)=some (List.replicate n ⟨0,0,0⟩):=by
 unfold tt;rw[za (by simp;omega),kU (by omega) (by omega)];rfl
theorem vF{n j:Nat}:pt (List.replicate n ⟨0,0,0⟩) j=⟨0,0,0⟩:=by
 unfold pt;rw[zd,List.getElem?_replicate];split <;> rfl
theorem Xl{V:Type}(φ:V->Int->Prop){n:Nat}(h1:1<=n)(h8:n<=8):TM φ (List.replicate n ⟨0,0,0⟩) []:=by
 refine⟨⟨by simpa using h1,by simpa using h8,λi hi=>?_,λi j hi hj s=>?_,λi hi s=>?_⟩,by simp,?_,λk=>⟨λv hv=>?_,λq=>by cases q⟩⟩;·rw[vF];exact⟨.inl rfl,λ_=>⟨rfl,rfl⟩⟩
 .rw[vF] at s;cases s
 .rw[vF] at s;cases s
 .rw[jQ,List.countP_replicate];rfl
 .obtain⟨i,hi,_⟩:=hv;have:=hi.2.1;rw[vF] at this;cases this
def jU(t:Tb):List k7:=(t.filter (·.State==1)).map λp=>⟨p.Key,p.Val⟩
theorem yG(t:Tb):keys t=(jU t).map (·.Key):=by
 unfold keys jU;rw[za1];rfl
theorem jg(t:Tb):(jU t).length=(keys t).length:=by rw[yG,zl]
theorem rV{t:Tb}(h:t.length<=8):(jU t).length<=8:=by
 rw[jg,jQ];exact zO zcj h
theorem cE{t:Tb}{p:k7}:p∈jU t↔Has t p.Key p.Val:=by
 unfold jU Has;rw[zw];constructor
 .rintro⟨q,hq,rfl⟩;obtain⟨h1,h2⟩:=zk.1 hq;obtain⟨i,hi,rfl⟩:=ww h1;refine⟨i,⟨hi,?_,?_⟩,?_⟩ <;> rw[ma hi]
  simpa using h2
 .rintro⟨i,⟨hi,h1,h2⟩,h3⟩;rw[ma hi] at h1 h2 h3;refine⟨t[i],zk.2 ⟨zh hi,by simpa using h1⟩,?_⟩;cases p;simp at h2 h3 |-;exact⟨h2,h3⟩
theorem Kd{t:Tb}(hR:HR t){j:Nat}(h:j<(jU t).length):Z5 t (jU t)[j].Key=some ((jU t)[j].Val,0):=Jy hR (cE.1 (zh h))
theorem TN{E R:Type}{x:Option E}{r:E}{κ:E->Option R}{y:Option R}(h:x=some r)(hy:κ r=y):((x.bind λe=>some e).bind κ)=y:=by rw[h];exact hy
theorem OW{t:Tb}(hR:HR t):kL t=some (jU t):=by
 have h8:=hR.l8;have hp:=rV h8;unfold kL B4 ef gH;simp only[jn,a0q];rw[keys_eq (by omega),a0q];refine TN (qo (iC (jU t).length (λk l=>l=(jU t).take k) (λe=>e=jU t) (by omega) (by simp) ?_ ?_)) rfl
 .rintro k l hk rfl;refine .inl ⟨_,?_,rfl⟩;dsimp only;rw[zb (by rw[<-jg];simpa using hk),s7 (by rw[<-jg];exact hk),a0q];have e:(keys t)[k]'(by rw[<-jg];exact hk)=(jU t)[k].Key:=by simp[yG]
  rw[e,Kd hR hk,a0q,zb (by trivial),J3 (by omega) (by simp;omega),a0q,o0 (by omega),zt hk]
 .rintro l rfl;exact⟨_,by rw[<-jg];simp;rfl,by simp⟩
def own(t:Tb)(h:Int):Nat:=(jU t).countP λp=>(h != 0)&&(p.Val==h)
theorem OR{t:Tb}(hR:HR t)(h:Int):kK t h=some (own t h:Int):=by
 have h8:=hR.l8;have hp:=rV h8;unfold kK B3 ef gG;simp only[jn,a0q];rw[keys_eq (by omega),a0q];refine TN (r:=(jU t).filter λp=>(h != 0)&&(p.Val==h)) (qo (iC (jU t).length (λk l=>l=((jU t).take k).filter λp=>(h != 0)&&(p.Val==h)) (λe=>e=(jU t).filter λp=>(h != 0)&&(p.Val==h)) (by omega) (by simp) ?_ ?_)) (by unfold own;rw[zbw])
 .rintro k l hk rfl;refine .inl ⟨((jU t).take (k+1)).filter λp=>(h != 0)&&(p.Val==h),?_,rfl⟩;dsimp only;rw[zb (by rw[<-jg];simpa using hk),s7 (by rw[<-jg];exact hk),a0q];have e:(keys t)[k]'(by rw[<-jg];exact hk)=(jU t)[k].Key:=by simp[yG]
  have hle:(((jU t).take k).filter λp=>(h != 0)&&(p.Val==h)).length<=8:=zO (zD ..) (by simp;omega);rw[e,Kd hR hk,a0q,o0 (by omega),zt hk,zbc,or,List.filter_nil];by_cases c:((h != 0)&&((jU t)[k].Val==h))=true
  .rw[zb c,zb c,J3 (by omega) (by simp only[zH,zag];omega),a0q]
  .rw[za c,za c,zat]
 .rintro l rfl;exact⟨_,by rw[<-jg];simp;rfl,by simp⟩
theorem dZ{t:Tb}(hR:HR t)(k v:Int):∃r,V3 t k v=some r/\HR r.1/\r.1.length=t.length /\
  ((k=0/\r=(t,0,2))\/(k≠0/\v=0/\((∃i,Fk t k i/\r=(t.set i ⟨2,0,0⟩,(pt t i).Val,0))\/((∀i,¬Fk t k i)/\r=(t,0,0)))) \/
   (k≠0/\v≠0/\((∃i,Fk t k i/\r=(t.set i ⟨1,k,v⟩,(pt t i).Val,0))\/(∃d,(∀i,¬Fk t k i)/\d<t.length/\(pt t d).State≠1/\xS t k v (t.set d ⟨1,k,v⟩,0)/\r=(t.set d ⟨1,k,v⟩,0,0))\/((∀i,¬Fk t k i)/\(∀i,i<t.length->(pt t i).State=1)/\r=(t,0,8))))):=by
 unfold V3;by_cases hk:k=0
 .rw[zb (by simpa using hk)];exact⟨_,rfl,hR,rfl,.inl ⟨hk,rfl⟩⟩
 .rw[za (by simpa using hk)];obtain⟨g,hg,hgv⟩:∃g,Z5 t k=some g/\((∃i,Fk t k i/\g=((pt t i).Val,0))\/((∀i,¬Fk t k i)/\g=(0,9))):=by
   rcases BI t k with ⟨i,hi⟩ | hn;·exact⟨_,NH hR hi,.inl ⟨i,hi,rfl⟩⟩
   .exact⟨_,NG hR hn,.inr ⟨hn,rfl⟩⟩
  rw[hg,a0q];by_cases hv:v=0
  .rw[zb (by simpa using hv)];rcases hgv with ⟨i,hi,rfl⟩ | ⟨hn,rfl⟩
   .rw[sQ hR hi,a0q];exact⟨_,rfl,oP hR hi.1,by simp,.inr (.inl ⟨hk,hv,.inl ⟨i,hi,rfl⟩⟩)⟩
   .rw[sP hR hn,a0q];exact⟨_,rfl,hR,rfl,.inr (.inl ⟨hk,hv,.inr ⟨hn,rfl⟩⟩)⟩
  .rw[za (by simpa using hv)];obtain⟨r,hr,hp⟩:=Pb hR k v;rw[hr,a0q];have hRr:=Aa hR hp;have hl:=Ga hp;have hp':=hp;cases hp with
   | old i hi=>
    rcases hgv with ⟨j,hj,rfl⟩ | ⟨hn,rfl⟩
    .rw[hR.uq j i hj.1 hi.1 hj.2.1 hi.2.1 (hj.2.2.trans hi.2.2.symm)];exact⟨_,rfl,hRr,hl,.inr (.inr ⟨hk,hv,.inl ⟨i,hi,rfl⟩⟩)⟩
    .exact absurd hi (hn i)
   | new d hn hd hb hf=>
    rcases hgv with ⟨j,hj,rfl⟩ | ⟨_,rfl⟩;·exact absurd hj (hn j)
    .exact⟨_,rfl,hRr,hl,.inr (.inr ⟨hk,hv,.inr (.inl ⟨_,hn,rU hR.l1 k d,hf,hp',rfl⟩)⟩)⟩
   | full hn ha=>exact⟨_,rfl,hR,rfl,.inr (.inr ⟨hk,hv,.inr (.inr ⟨hn,ha,rfl⟩)⟩)⟩
theorem Ca(t:Tb)(h:Int):own t h=t.countP λp=>(p.State==1)&&((h != 0)&&(p.Val==h)):=by
 unfold own jU;rw[List.countP_map,List.countP_filter];congr 1;funext p
 simp[Bool.and_comm]
theorem Kc{t:Tb}{i:Nat}(hi:i<t.length)(p:g5)(h:Int):own (t.set i p) h+(if (((pt t i).State==1)&&((h != 0)&&((pt t i).Val==h)))=true then 1 else 0)=own t h+if ((p.State==1)&&((h != 0)&&(p.Val==h)))=true then 1 else 0:=by
 rw[Ca,Ca,List.countP_set hi,ma hi];have:(if ((t[i].State==1)&&((h != 0)&&(t[i].Val==h)))=true then 1 else 0)<=t.countP λp=>(p.State==1)&&((h != 0)&&(p.Val==h)):=by
  split
  .rename_i e;exact zbx.2 ⟨t[i],zh hi,e⟩
  .exact zX _
 omega
theorem OQ{t:Tb}(h8:t.length<=8)(h:Int):own t h<=8:=zO zcj (rV h8)
theorem wH{t:Tb}(hR:HR t)(ks:List Int)(hks:ks.length<=1000):∃a had,aZ t ks=some (a,had)/\HR a/\a.length=t.length/\had.length<=ks.length/\pw (t.map eF) ks=some (a.map eF,had) /\
  (∀k v,Has a k v↔k∉ks/\Has t k v)/\(keys a).length+had.length=(keys t).length/\(∀k v,k∈ks->Has t k v->v∈had)/\∀y,own a y+T3 had y=own t y:=by
 have key:∀n,n<=ks.length->∃a had,HR a/\a.length=t.length/\had.length<=n/\(∀k v,Has a k v↔k∉ks.take n/\Has t k v)/\(keys a).length+had.length=(keys t).length/\(∀k v,k∈ks.take n->Has t k v->v∈had)/\(∀y,own a y+T3 had y=own t y) /\
   ∃f:Nat->Tb × List Int,f 0=(t,[])/\f n=(a,had)/\∀j,(hj:j<n)->HR (f j).1/\(f j).2.length<=j/\((∃i,∃hjk:j<ks.length,Fk (f j).1 ks[j] i/\f (j+1)=((f j).1.set i ⟨2,0,0⟩,(f j).2 ++ [(pt (f j).1 i).Val]))\/((∀i,∀hjk:j<ks.length,¬Fk (f j).1 ks[j] i)/\f (j+1)=f j)):=by
  intro n;induction n with
  | zero=>exact λ_=>⟨t,[],hR,rfl,by simp,by simp,by simp,by simp,λy=>by unfold T3;split <;> simp,λ_=>(t,[]),rfl,rfl,λj hj=>by omega⟩
  | succ n ih=>
   intro hn;obtain⟨a,had,h1,h2,h3,h4,h5,h6,h7,f,f0,fn,fs⟩:=ih (by omega);have hlt:n<ks.length:=by omega
   have htk:∀k,k∈ks.take (n+1)↔k∈ks.take n\/k=ks[n]:=λk=>by
    rw[zt hlt,zu,zp]
   rcases BI a ks[n] with ⟨i,hi⟩ | hno
   .have hd:=sN h1 hi;refine⟨a.set i ⟨2,0,0⟩,had ++ [(pt a i).Val],oP h1 hi.1,by simpa using h2,by simp;omega,λk v=>?_,?_,λk v hk hv=>?_,λy=>?_,λj=>if j=n+1 then (a.set i ⟨2,0,0⟩,had ++ [(pt a i).Val]) else f j,by simp[f0],by simp,λj hj=>?_⟩
    .rw[hd,h4,htk];constructor;·rintro⟨q1,q2,q3⟩;exact⟨λq=>q.elim q2 q1,q3⟩
     .rintro⟨q1,q2⟩;exact⟨λq=>q1 (.inr q),λq=>q1 (.inl q),q2⟩
    .have:=tF hi.1 ⟨2,0,0⟩;rw[zb hi.2.1,za (by decide)] at this;simp only[zL,zH,zag];omega
    .rw[zu];rcases (htk k).1 hk with q | q
     .exact .inl (h6 k v q hv)
     .subst q;by_cases q':ks[n]∈ks.take n
      .exact .inl (h6 _ v q' hv)
      .have:=(h4 _ _).2 ⟨q',hv⟩;rw[this.fn h1 ⟨i,hi,rfl⟩];exact .inr (by simp)
    .have:=Kc hi.1 ⟨2,0,0⟩ y;have h7':=h7 y;rw[G4];have e:T3 [(pt a i).Val] y=if (((pt a i).State==1)&&((y != 0)&&((pt a i).Val==y)))=true then 1 else 0:=by
      rw[hi.2.1];unfold T3;by_cases y0:y=0
      .simp[y0]
      .by_cases e:(pt a i).Val=y
       .simp[y0,e]
       .simp[y0,e]
     rw[e];rw[za (show ¬((((2:Int)==1)&&((y != 0)&&((0:Int)==y)))=true) by simp)] at this;omega
    .rcases zE j n with q | q
     .have:=fs j q;dsimp only;rw[za (by omega),za (by omega)];exact this
     .have:j=n:=by omega
      subst this;dsimp only;rw[za (by omega),zb rfl,fn];exact⟨h1,h3,.inl ⟨i,hlt,hi,rfl⟩⟩
   .refine⟨a,had,h1,h2,by omega,λk v=>?_,h5,λk v hk hv=>?_,h7,λj=>if j=n+1 then (a,had) else f j,by simp[f0],by simp,λj hj=>?_⟩
    .rw[h4,htk];constructor
     .rintro⟨q1,q2⟩;refine⟨λq=>q.elim q1 λq=>?_,q2⟩;subst q;obtain⟨i,hi,_⟩:=(h4 _ _).2 ⟨q1,q2⟩;exact hno i hi
     .rintro⟨q1,q2⟩;exact⟨λq=>q1 (.inl q),q2⟩
    .rcases (htk k).1 hk with q | q
     .exact h6 k v q hv
     .subst q;by_cases q':ks[n]∈ks.take n
      .exact h6 _ v q' hv
      .obtain⟨i,hi,_⟩:=(h4 _ _).2 ⟨q',hv⟩;exact absurd hi (hno i)
    .rcases zE j n with q | q
     .have:=fs j q;dsimp only;rw[za (by omega),za (by omega)];exact this
     .have:j=n:=by omega
      subst this;dsimp only;rw[za (by omega),zb rfl,fn];exact⟨h1,h3,.inr ⟨λi _=>hno i,rfl⟩⟩
 obtain⟨a,had,h1,h2,h3,h4,h5,h6,h7,f,f0,fn,fs⟩:=key ks.length (zF _);rw[zW] at h4 h6;refine⟨a,had,?_,h1,h2,h3,?_,h4,h5,h6,h7⟩
 .unfold aZ;simp only[jn];refine lP (λj=>((f j).1,(j:Int),(f j).2)) (by rw[f0];rfl) ks.length (λ_=>True) (by omega) trivial (λj hj _=>?_) (λ_=>⟨(a,had),by dsimp only;rw[za (by simp),fn],rfl⟩);obtain⟨g1,g2,g3⟩:=fs j hj;left;refine⟨?_,trivial⟩;dsimp only;rw[zb (by simpa using hj),s7 hj,a0q,o0 (by omega)];rcases g3 with ⟨i,_,hi,e⟩ | ⟨hno,e⟩
  .rw[sQ g1 hi,a0q,e];dsimp only;rw[zb (by decide),J3 (by omega) (by simp;omega),a0q]
  .rw[sP g1 (λi=>hno i hj),a0q,e];dsimp only;rw[za (by decide)]
 .unfold pw;simp only[jn];refine lP (λj=>((f j).1.map eF,(j:Int),(f j).2)) (by rw[f0];rfl) ks.length (λ_=>True) (by omega) trivial (λj hj _=>?_) (λ_=>⟨(a.map eF,had),by dsimp only;rw[za (by simp),fn],rfl⟩);obtain⟨g1,g2,g3⟩:=fs j hj;left;refine⟨?_,trivial⟩;dsimp only;rw[zb (by simpa using hj),s7 hj,a0q,o0 (by omega),WR g1];rcases g3 with ⟨i,_,hi,e⟩ | ⟨hno,e⟩
  .rw[sQ g1 hi,u8,a0q,e];dsimp only;rw[zb (by decide),J3 (by omega) (by simp;omega),a0q]
  .rw[sP g1 (λi=>hno i hj),u8,a0q,e];dsimp only;rw[za (by decide)]
inductive bk (s:b6) (t:Tb) (l:List Int):Int->Prop
 | base {h:Int}:h∈l->h∈lv s->bk s t l h
 | step {a b:Int}:bk s t l a->b∈outs s a->b∈lv s->bk s t l b
 | pair {k v:Int}:Has t k v->bk s t l k->v∈lv s->bk s t l v
open Classical in
noncomputable def Lp (s:b6) (t:Tb) (l:List Int):List Int:=(lv s).filter λh=>decide (bk s t l h)
open Classical in
noncomputable def Xu (s:b6) (t:Tb) (l:List Int):List Int:=(lv s).filter λh=>decide (¬bk s t l h)
noncomputable def Ez(s:b6)(t:Tb)(l:List Int):List Int:=((jU t).filter λp=>decide (p.Key∈l/\p.Key∈lv s/\p.Val∈lv s)).map (·.Val)
def TB(t:Tb):Prop:=∀p∈t,p.Key<=9223372036854775807/\p.Val<=9223372036854775807
def KK(s:b6)(t:Tb)(l:List Int):Prop:=∀k v,Has t k v->k∈l->k∈lv s->v∈lv s->v∈l
theorem TB.has{t:Tb}(h:TB t){k v:Int}(q:Has t k v):k<=9223372036854775807/\v<=9223372036854775807:=by
 obtain⟨i,⟨h1,_,h2⟩,h3⟩:=q;rw[ma h1] at h2 h3;have:=h _ (zh h1);rw[h2,h3] at this;exact this
theorem bk.live{s:b6}{t:Tb}{l:List Int}{h:Int}(q:bk s t l h):h∈lv s:=by cases q <;> assumption
open Classical in
theorem tc {s:b6} {t:Tb} {l:List Int} {h:Int}:h∈Lp s t l↔bk s t l h:=by
 unfold Lp;rw[zk];exact⟨λq=>zbl q.2,λq=>⟨q.live,zC q⟩⟩
theorem Jv{s:b6}(hR:wL (sO s))(t:Tb)(l:List Int):(Lp s t l).length<=24:=zO (zD ..) (K8 hR)
theorem Vv{s:b6}(hR:wL (sO s))(t:Tb)(l:List Int):LB (Lp s t l):=λx hx=>by have:=pk hR (tc.1 hx).live;omega
theorem WM{s:b6}(hR:wL (sO s))(l:List Int):LB (Ib s l):=λx hx=>by have:=pk hR (fG.1 hx).live;omega
theorem Vu(s:b6)(t:Tb)(l:List Int):Cl s (Lp s t l):=λa ha b hb hl=>tc.2 (.step (tc.1 ha) hb hl)
theorem bk.least{s:b6}{t:Tb}{l m:List Int}(hc:Cl s m)(hp:KK s t m)(hl:∀x∈l,x∈lv s->x∈m){h:Int}(q:bk s t l h):h∈m:=by
 induction q with
 | base h1 h2=>exact hl _ h1 h2
 | step _ h1 h2 ih=>exact hc _ ih _ h1 h2
 | pair h1 h2 h3 ih=>exact hp _ _ h1 ih h2.live h3
theorem bk.mono{s:b6}{t u:Tb}{l m:List Int}(ht:∀k v,Has t k v->Has u k v)(hl:∀x∈l,x∈lv s->bk s u m x){h:Int}(q:bk s t l h):bk s u m h:=by
 induction q with
 | base h1 h2=>exact hl _ h1 h2
 | step _ h1 h2 ih=>exact .step ih h1 h2
 | pair h1 _ h3 ih=>exact .pair (ht _ _ h1) ih h3
theorem su.ZJ{s:b6}(t:Tb){l:List Int}{h:Int}(q:su s l h):bk s t l h:=by
 induction q with
 | base h1 h2=>exact .base h1 h2
 | step _ h1 h2 ih=>exact .step ih h1 h2
theorem tY{s:b6}{t:Tb}{l:List Int}{v:Int}:v∈Ez s t l↔∃k,Has t k v/\k∈l/\k∈lv s/\v∈lv s:=by
 unfold Ez;rw[zw];constructor
 .rintro⟨p,hp,rfl⟩;obtain⟨h1,h2⟩:=zk.1 hp;exact⟨p.Key,cE.1 h1,zbl h2⟩
 .rintro⟨k,h1,h2⟩;exact⟨⟨k,v⟩,zk.2 ⟨cE.2 h1,zC h2⟩,rfl⟩
theorem HO{s:b6}{t:Tb}{l:List Int}:(∀v∈Ez s t l,v∈l)↔KK s t l:=by
 constructor;·exact λh k v h1 h2 h3 h4=>h v (tY.2 ⟨k,h1,h2,h3,h4⟩)
 .intro h v hv;obtain⟨k,h1,h2,h3,h4⟩:=tY.1 hv;exact h k v h1 h2 h3 h4
theorem JZ{s:b6}{t:Tb}(hT:HR t)(l:List Int):(Ez s t l).length<=8:=by
 unfold Ez;rw[zl];exact zO (zD ..) (rV hT.l8)
theorem Wv{s:b6}(hR:wL (sO s))(t:Tb)(l:List Int):LB (Ez s t l):=λx hx=>by
 obtain⟨_,_,_,_,h⟩:=tY.1 hx;have:=pk hR h;omega
noncomputable def U6(s:b6)(t:Tb)(l:List Int):Nat->List Int
 | 0=>Ib s l
 | k+1=>Ib s (U6 s t l k++Ez s t (U6 s t l k))
section
variable{s:b6}{t:Tb}{l:List Int}
theorem LZ(k:Nat):U6 s t l (k+1)=Ib s (U6 s t l k++Ez s t (U6 s t l k)):=rfl
theorem ur(k:Nat):∃m,U6 s t l k=Ib s m:=by
 cases k with
 | zero=>exact⟨_,rfl⟩
 | succ k=>exact⟨_,rfl⟩
theorem Tc(k:Nat):Cl s (U6 s t l k):=by
 obtain⟨m,e⟩:=ur (s:=s) (t:=t) (l:=l) k;rw[e];exact WL s m
theorem LX(k:Nat){x:Int}(h:x∈U6 s t l k):x∈lv s:=by
 obtain⟨m,e⟩:=ur (s:=s) (t:=t) (l:=l) k;rw[e] at h;exact (fG.1 h).live
theorem Gq(k:Nat){x:Int}(h:x∈U6 s t l k):x∈U6 s t l (k+1):=fG.2 (.base (zu.2 (.inl h)) (LX k h))
theorem LW(k:Nat):∀x∈l,x∈lv s->x∈U6 s t l k:=by
 induction k with
 | zero=>exact λx h1 h2=>fG.2 (.base h1 h2)
 | succ k ih=>exact λx h1 h2=>Gq k (ih x h1 h2)
theorem Pp(k:Nat):∀x∈U6 s t l k,bk s t l x:=by
 induction k with
 | zero=>exact λx h=>(fG.1 h).ZJ t
 | succ k ih=>
  intro x h;have:=fG.1 h;induction this with
  | base h1 h2=>
   rcases zu.1 h1 with q | q
   .exact ih _ q
   .obtain⟨k',q1,q2,q3,q4⟩:=tY.1 q;exact .pair q1 (ih _ q2) q4
  | step h0 h1 h2 ih2=>exact .step (ih2 (fG.2 h0)) h1 h2
theorem LY{k:Nat}(h:KK s t (U6 s t l k)):U6 s t l k=Lp s t l:=by
 obtain⟨m,e⟩:=ur (s:=s) (t:=t) (l:=l) k;have hm:∀x,su s m x↔bk s t l x:=λx=>by
  rw[<-fG,<-e];exact⟨Pp k x,λq=>q.least (Tc k) h (LW k)⟩
 rw[e];unfold Ib Lp;exact pm λx _=>zbd.2 (hm x)
theorem Cd{k:Nat}(h:¬KK s t (U6 s t l k)):((jU t).filter λp=>decide (p.Val∈U6 s t l k)).length<((jU t).filter λp=>decide (p.Val∈U6 s t l (k+1))).length:=by
 obtain⟨v,hv,hn⟩:∃v,v∈Ez s t (U6 s t l k)/\v∉U6 s t l k:=qr λq=>h (HO.1 λv hv=>qr λq2=>q ⟨v,hv,q2⟩);obtain⟨k',h1,h2,h3,h4⟩:=tY.1 hv;refine filter_lt (λp _ hp=>?_) ⟨k',v⟩ (cE.2 h1) ?_ ?_
 .rw[zG] at hp |-;exact Gq k hp
 .rw[zG];exact fG.2 (.base (zu.2 (.inr hv)) h4)
 .exact zQ hn
theorem uo(s:b6)(t:Tb)(l:List Int):∃n,n<=(jU t).length/\KK s t (U6 s t l n)/\∀j,j<n->¬KK s t (U6 s t l j):=by
 have key:∀k,(∃j,j<=k/\KK s t (U6 s t l j))\/k<((jU t).filter λp=>decide (p.Val∈U6 s t l (k+1))).length:=by
  intro k;induction k with
  | zero=>
   by_cases h:KK s t (U6 s t l 0)
   .exact .inl ⟨0,zF _,h⟩
   .have:=Cd h;exact .inr (by omega)
  | succ k ih=>
   rcases ih with ⟨j,h1,h2⟩ | ih;·exact .inl ⟨j,by omega,h2⟩
   .by_cases h:KK s t (U6 s t l (k+1))
    .exact .inl ⟨k+1,zF _,h⟩
    .have:=Cd h;exact .inr (by omega)
 obtain⟨j,h1,h2⟩:∃j,j<=(jU t).length/\KK s t (U6 s t l j):=by
  rcases key (jU t).length with q | q
  .exact q
  .have:=zD (λp:k7=>decide (p.Val∈U6 s t l ((jU t).length+1))) (jU t);omega
 obtain⟨n,hn,hmin⟩:=dQ (p:=λj=>KK s t (U6 s t l j)) ⟨j,h2⟩;exact⟨n,zO (hmin j h2) h1,hn,λi hi q=>by have:=hmin i q;omega⟩
end
noncomputable def Xx(s:b6)(t:Tb)(l:List Int):Nat:=Classical.choose (uo s t l)
theorem WV(s:b6)(t:Tb)(l:List Int):Xx s t l<=(jU t).length:=(zav (uo s t l)).1
theorem Po(s:b6)(t:Tb)(l:List Int):KK s t (U6 s t l (Xx s t l)):=(zav (uo s t l)).2.1
theorem Ta(s:b6)(t:Tb)(l:List Int){j:Nat}(h:j<Xx s t l):¬KK s t (U6 s t l j):=(zav (uo s t l)).2.2 j h
section
variable{s:b6}(hR:wL (sO s)){t:Tb}(hT:HR t)(hTB:TB t)
include hR hT hTB
omit hT hTB in
theorem BR {h:Int} (hh:h<=9223372036854775807):jK h s=some (decide (h∈lv s)):=by
 obtain⟨e,h1,h2⟩:=gj hR hh;unfold jK;rw[h1,a0q];congr 1;rw[za9,pu,zG];exact h2
theorem Ka{l:List Int}(hl:l.length<=1000000):ta s t l=some (Ez s t l):=by
 unfold ta;simp only[jn,OW hT,a0q];have h8:=rV hT.l8;rw[V7 ((jU t)) (λb p=>b++(if decide (p.Key∈l/\p.Key∈lv s/\p.Val∈lv s) then [p.Val] else [])) id (λk b=>b.length<=k) (by omega) (by simp) (λk hk b hb=>?_) (λb _=>?_)]
 .simp only[a0q,id];rw[rH];congr 1;unfold Ez;rw[zci];generalize jU t=P;induction P with
  | nil=>rfl
  | cons p P ih=>
   rw[zbj,or,ih];by_cases q:p.Key∈l/\p.Key∈lv s/\p.Val∈lv s
   .simp[q]
   .simp[q]
 .have hb':=hTB.has (cE.1 (zh hk));simp only[we,hk,wt,zY,s7 hk,a0q,contains_eq _ _ hl];rw[BR hR hb'.1,BR hR hb'.2];by_cases q1:(jU t)[k].Key∈l
  .rw[zC q1];simp only[t8,fX,a0q,zbe];by_cases q2:(jU t)[k].Key∈lv s
   .rw[zC q2];simp only[t8,fX,a0q,zbe];by_cases q3:(jU t)[k].Val∈lv s
    .rw[zb (by simpa using q3),J3 (by omega) (by simp;omega),a0q,o0,zb (by simp[q1,q2,q3])];exact⟨rfl,by simp;omega⟩
    .rw[za (by simpa using q3),o0,za (by simp[q3]),zat];exact⟨rfl,by omega⟩
   .rw[zQ q2];simp only[show ((false==true):Bool)=false from rfl,JX,a0q,Bool.false_and,zA,ul];rw[o0,za (by simp[q2]),zat];exact⟨rfl,by omega⟩
  .rw[zQ q1];simp only[show ((false==true):Bool)=false from rfl,JX,a0q,Bool.false_and,zA,ul];rw[o0,za (by simp[q1]),zat];exact⟨rfl,by omega⟩
 .simp only[zbh,zbq,zA,ul];rfl
theorem NM(hF:FB s){l:List Int}(hl:LB l)(hlen:l.length<=1000000):pY s t l=some (Lp s t l,(Xx s t l:Int)):=by
 unfold pY;rw[Jw hR hF hl hlen,a0q];simp only[jn];have hn:=WV s t l;have h8:=rV hT.l8;have hstep:∀k,∃m,U6 s t l k=Ib s m:=ur;refine lP (p:=λk=>(U6 s t l k,(k:Int))) rfl (Xx s t l) (λ_=>True) (by omega) trivial (λk hk _=>.inl ⟨?_,trivial⟩) (λ_=>?_)
 .obtain⟨m,hm⟩:=hstep k;have hlk:(U6 s t l k).length<=24:=by rw[hm];exact SV hR m
  have hlb:LB (U6 s t l k):=by rw[hm];exact WM hR m
  have hno:=Ta s t l hk;simp only;rw[Ka hR hT hTB (by omega),a0q];have ho:=JZ (s:=s) hT (U6 s t l k);obtain⟨j,⟨hj,hjn⟩,hmin⟩:=dQ (p:=λj=>∃hj:j<(Ez s t (U6 s t l k)).length,(Ez s t (U6 s t l k))[j]∉U6 s t l k) (by
   refine qr λq=>hno (HO.1 λv hv=>qr λq2=>?_);obtain⟨j,hj,e⟩:=List.mem_iff_getElem.1 hv;exact q ⟨j,hj,by rw[e];exact q2⟩)
  refine db (Ez s t (U6 s t l k)).length (λi=>i<=j) (by omega) (zX _) (λi hi hP=>?_) (λhP=>by omega);simp only[we,hi,wt,zY,s7 hi,a0q];rw[contains_eq _ _ (by omega),a0q];rcases zE i j with q | q
  .refine .inl ⟨?_,q⟩;have:(Ez s t (U6 s t l k))[i]∈U6 s t l k:=qr λq2=>by have:=hmin i ⟨hi,q2⟩;omega
   rw[za (by simp[this]),o0]
  .have:i=j:=by omega
   subst this;refine .inr ⟨.inl (U6 s t l (k+1),((k+1:Nat):Int)),?_,rfl⟩;rw[zb (by simp[hjn]),J3 (by omega) (by omega),a0q,Jw hR hF (λx hx=>by
    rcases zu.1 hx with q | q
    .exact Wv hR t _ x q
    .exact hlb x q) (by simp;omega),a0q,o0,LZ]
   rw[LV (l:=Ez s t (U6 s t l k)++U6 s t l k) (m:=U6 s t l k++Ez s t (U6 s t l k)) λx=>⟨λq=>q.mono λy hy hyl=>.base (zu.2 (zu.1 hy).symm) hyl,λq=>q.mono λy hy hyl=>.base (zu.2 (zu.1 hy).symm) hyl⟩]
 .have hst:=Po s t l;have hfr:=LY hst;refine⟨(Lp s t l,(Xx s t l:Int)),?_,rfl⟩;simp only;rw[hfr] at hst |-;have hfl:=Jv hR t l;rw[Ka hR hT hTB (by omega),a0q];have ho:=JZ (s:=s) hT (Lp s t l);refine db (Ez s t (Lp s t l)).length (λ_=>True) (by omega) trivial (λi hi _=>.inl ⟨?_,trivial⟩) (λ_=>⟨.inr (),by simp,rfl⟩);have:=HO.2 hst _ (zh hi);simp only[we,hi,wt,zY,s7 hi,a0q];rw[contains_eq _ _ (by omega),a0q,za (by simp[this]),o0]
theorem Nv(hF:FB s){l:List Int}(hl:LB l)(hlen:l.length<=1000000):sZ s t l=some (Lp s t l):=by
 unfold sZ;rw[NM hR hT hTB hF hl hlen];rfl
omit hT hTB hR in
theorem SW {l:List Int} {x:Int}:su s (Lp s t l) x↔bk s t l x:=by
 constructor
 .intro q;exact tc.1 (su.least (Vu s t l) (λx h _=>h) q)
 .exact λq=>.base (tc.2 q) q.live
theorem NB(hF:FB s){l:List Int}(hl:LB l)(hlen:l.length<=1000000):oV s t l=some (Xu s t l):=by
 unfold oV;rw[Nv hR hT hTB hF hl hlen,a0q,RW hR hF (Vv hR t l) (by have:=Jv hR t l;omega),a0q];congr 1;unfold lst Xu;exact pm λx _=>zbd.2 (not_congr SW)
end
section
variable(s:b6)(hF:FB s)(t:Tb)(hTB:TB t)
include hF hTB
end
def ce(s:b6)(i:Nat):c8:=s.S.b7.getD i ⟨0,0,z0⟩
theorem N2{s:b6}{i:Nat}(h:i<s.S.b7.length):ce s i=s.S.b7[i]:=by
 unfold ce;rw[zd,zc h];rfl
theorem JF{s:b6}{i:Nat}(h:i<s.S.b7.length):ix s.S.b7 (i:Int)=some (ce s i):=by rw[s7 h,N2 h]
def Th(c:c8):Prop:=c.State=1\/c.State=2
instance(c:c8):Decidable (Th c):=by unfold Th;infer_instance
structure AR (s:b6) (o:n0):Prop where
 s1:1<=o.Serial
 s2:o.Serial<=s.Serial
 st:0<=o.Strong
 wk:0<=o.Weak
 p1 : -1<=o.Prog
 p2:o.Prog<=5
 fl:o.Fields.length<=4
structure SR (s:b6):Prop where
 len:s.S.b7.length<=24
 l0:0<=s.S.Last
 l9:s.S.Last<=9
 aR:0<=s.Serial
 cell:∀i,i<s.S.b7.length->0<=(ce s i).State/\(ce s i).State<=3/\0<=(ce s i).Gen/\(ce s i).Gen<=s.S.Last
 no:∀i,i<s.S.b7.length->¬Th (ce s i)->KJ (oo (ce s i).Val)
 ok:∀i,i<s.S.b7.length->Th (ce s i)->AR s (ce s i).Val
 dif:∀i j,i<s.S.b7.length->j<s.S.b7.length->Th (ce s i)->Th (ce s j)->(ce s i).Val.Serial=(ce s j).Val.Serial->i=j
theorem y8{s:b6}:wL (sO s)↔SR s:=by
 constructor
 .intro h;refine⟨pA h,h.l0,h.l9,h.aR,λi hi=>?_,λi hi hn=>?_,λi hi ht=>?_,λi j hi hj a b e=>?_⟩;·rw[N2 hi];exact DT h i hi
  .rw[N2 hi] at hn |-;have:=h.no i (by rw[fJ];exact hi);simp only[sO,ut] at this;exact this hn
  .rw[N2 hi] at ht |-;obtain⟨a,b,c,d,e,f,g⟩:=Ps h i hi ht;exact⟨a,b,c,d,e,f,g⟩
  .rw[N2 hi] at a e;rw[N2 hj] at b e;exact Pr h hi hj a b e
 .intro h;refine⟨by rw[fJ];exact h.len,h.l0,h.l9,h.aR,λi hi=>?_,λi hi hn=>?_,λi hi ht=>?_,λi hi k hk a b=>?_⟩
  .rw[fJ] at hi;have:=h.cell i hi;rw[N2 hi] at this;simpa[sO,cO] using this
  .rw[fJ] at hi;have:=h.no i hi;rw[N2 hi] at this;simp only[sO,ut] at hn |-;exact this hn
  .rw[fJ] at hi;have:=h.ok i hi;rw[N2 hi] at this;simp only[sO,ut] at ht |-;obtain⟨a,b,c,d,e,f,g⟩:=this ht;exact⟨a,b,c,d,e,f,g⟩
  .rw[fJ] at hi;have hk':k<s.S.b7.length:=by omega
   have:=h.dif i k hi hk';rw[N2 hi,N2 hk'] at this;simp only[sO,ut,cO,oo] at a b |-;intro e;have:=this a b e.symm;omega
def At(s:b6)(h:Int)(i:Nat):Prop:=i<s.S.b7.length/\(ce s i).State=1/\h=1+(i:Int)+32*(ce s i).Gen
def U7(s:b6)(h:Int)(i:Nat):Prop:=i<s.S.b7.length/\Th (ce s i)/\h=1+(i:Int)+32*(ce s i).Gen
theorem At.d{s:b6}{h:Int}{i:Nat}(q:At s h i):U7 s h i:=⟨q.1,.inl q.2.1,q.2.2⟩
theorem U7.one{s:b6}(hR:SR s){h:Int}{i j:Nat}(q:U7 s h i)(q':U7 s h j):i=j:=by
 obtain⟨a1,_,a2⟩:=q;obtain⟨b1,_,b2⟩:=q';have:=hR.len;omega
theorem U7.Ma{s:b6}(hR:SR s){h:Int}{i:Nat}(q:U7 s h i):1<=h/\h<=320:=by
 obtain⟨a1,_,a2⟩:=q;have:=hR.len;have:=hR.cell i a1;have:=hR.l9;omega
theorem FL{s:b6}{h:Int}:h∈du 0 s.S.b7↔∃i,At s h i:=by
 rw[pe];constructor
 .rintro⟨i,hi,h1,h2⟩;refine⟨i,hi,by rw[N2 hi];exact h1,?_⟩;rw[N2 hi,h2,zaj]
 .rintro⟨i,hi,h1,h2⟩;rw[N2 hi] at h1 h2;exact⟨i,hi,h1,by rw[h2,zaj]⟩
theorem fU{s:b6}(hR:SR s){h:Int}:h∈lv s↔∃i,At s h i:=by rw[Dk (y8.2 hR),FL]
theorem rG{s:b6}(hR:SR s){h:Int}{i:Nat}:wJ s.S h i↔U7 s h i:=by
 constructor
 .rintro⟨hi,h1,h2,h3,h4⟩;unfold sp at h1;refine⟨hi,by rw[N2 hi];exact h4,?_⟩;rw[N2 hi];omega
 .rintro⟨hi,h1,h2⟩;have l:=hR.len;have l9:=hR.l9;have c:=hR.cell i hi;rw[N2 hi] at h1 h2 c;exact⟨hi,by unfold sp;omega,by omega,by omega,h1⟩
theorem F7{s:b6}(hR:SR s){h:Int}{i:Nat}(q:At s h i):ob s h=(ce s i).Val:=by
 obtain⟨j,hj,h1,h2,_,e⟩:=Dj (y8.2 hR) ((fU hR).2 ⟨i,q⟩);have:j=i:=U7.one hR ⟨hj,by rw[N2 hj];exact .inl h1,by rw[N2 hj];exact h2⟩ q.d;subst this;rw[e,N2 hj]
theorem EM{s:b6}(hR:SR s){h:Int}{i:Nat}(q:At s h i):sk s.S.b7 h=(ce s i).Val.Serial:=by
 have:=hR.len;have hi:=q.1;rw[q.2.2,Gv hi (by omega),N2 hi]
theorem xr{s:b6}(hR:SR s){h:Int}{i:Nat}(q:U7 s h i):x6 s.S h=some ((i:Int),0):=ve ((rG hR).2 q)
theorem yb{s:b6}(hR:SR s){h:Int}(hh:h<=9223372036854775807)(q:∀i,¬U7 s h i):x6 s.S h=some (-1,if h=0 then 2 else 3):=BG hh λi hi=>q i ((rG hR).1 hi)
theorem Oc{s s':b6}(hR:SR s)(hR':SR s')(P:Int->Bool)(hm:∀h,(∃i,At s' h i)↔(∃i,At s h i)/\P h=true)(hk:∀h i j,At s' h i->At s h j->(ce s' i).Val.Serial=(ce s j).Val.Serial):lv s'=(lv s).filter P:=by
 have hk':∀h∈lv s,P h=true->sk s'.S.b7 h=sk s.S.b7 h:=λh hh hp=>by
  obtain⟨j,hj⟩:=(fU hR).1 hh;obtain⟨i,hi⟩:=(hm h).2 ⟨⟨j,hj⟩,hp⟩;rw[EM hR' hi,EM hR hj,hk h i j hi hj]
 refine Yk (y8.2 hR') ?_ ?_
 .rw[List.perm_ext_iff_of_nodup ((tK (y8.2 hR)).filter _) (nf 0 _ (by have:=hR'.len;omega))];intro h;rw[zk,fU hR,FL,hm h]
 .refine ((kP (y8.2 hR)).2.2.filter P).imp_of_mem λ{a b} ha hb hab=>?_;rw[zk] at ha hb;rw[hk' a ha.1 ha.2,hk' b hb.1 hb.2];exact hab
theorem Sb{s s':b6}(hR:SR s)(hR':SR s')(hl:s'.S.b7.length=s.S.b7.length)(h1:∀i,i<s.S.b7.length->((ce s' i).State=1↔(ce s i).State=1)/\(ce s' i).Gen=(ce s i).Gen/\(ce s' i).Val.Serial=(ce s i).Val.Serial):lv s'=lv s:=by
 have ha:∀h i,At s' h i↔At s h i:=λh i=>by
  unfold At;rw[hl];constructor
  .rintro⟨a,b,c⟩;obtain⟨x,y,z⟩:=h1 i a;exact⟨a,x.1 b,by rw[<-y];exact c⟩
  .rintro⟨a,b,c⟩;obtain⟨x,y,z⟩:=h1 i a;exact⟨a,x.2 b,by rw[y];exact c⟩
 rw[Oc hR hR' (λ_=>true) (λh=>by simp only[and_true];exact⟨λ⟨i,q⟩=>⟨i,(ha h i).1 q⟩,λ⟨i,q⟩=>⟨i,(ha h i).2 q⟩⟩) (λh i j q q'=>by
  have:=U7.one hR ((ha h i).1 q).d q'.d;subst this;exact (h1 i q'.1).2.2)]
 simp
def fY(s:b6)(i:Nat)(o:n0):b6:=⟨⟨s.S.b7.set i ⟨(ce s i).State,(ce s i).Gen,o⟩,s.S.Last⟩,s.Serial⟩
theorem K3(s:b6)(i:Nat)(o:n0):(fY s i o).S.b7.length=s.S.b7.length:=by simp[fY]
theorem yy{α:Type}{l:List α}{i:Nat}(hi:i<l.length)(c d:α)(j:Nat):(l.set i c).getD j d=if j=i then c else l.getD j d:=by
 rw[zd,zd,List.getElem?_set];by_cases h:j=i
 .subst h;rw[zb rfl,zb hi,zb rfl];rfl
 .rw[za (zay h),za h]
theorem mS{s:b6}{i:Nat}(hi:i<s.S.b7.length)(o:n0)(j:Nat):ce (fY s i o) j=if j=i then ⟨(ce s i).State,(ce s i).Gen,o⟩ else ce s j:=yy hi _ _ j
theorem AD{s:b6}{i:Nat}(hi:i<s.S.b7.length)(o:n0)(j:Nat):(ce (fY s i o) j).State=(ce s j).State/\(ce (fY s i o) j).Gen=(ce s j).Gen:=by
 rw[mS hi];split;·rename_i q;subst q;exact⟨rfl,rfl⟩
 .exact⟨rfl,rfl⟩
theorem xq{s:b6}{i:Nat}(hi:i<s.S.b7.length)(o:n0){h:Int}{j:Nat}:U7 (fY s i o) h j↔U7 s h j:=by
 unfold U7 Th;rw[K3,(AD hi o j).1,(AD hi o j).2]
theorem yd{s:b6}{i:Nat}(hi:i<s.S.b7.length)(o:n0){h:Int}{j:Nat}:At (fY s i o) h j↔At s h j:=by
 unfold At;rw[K3,(AD hi o j).1,(AD hi o j).2]
theorem PB{s:b6}(hR:SR s){h:Int}{i:Nat}(q:U7 s h i)(o:n0):T1 s h o=some (fY s i o,0):=by
 obtain⟨hi,e⟩:=PC (v:=o) hR.len ((rG hR).2 q);unfold T1;rw[e];simp[fY,N2 hi]
theorem SR.put{s:b6}(hR:SR s){i:Nat}(hi:i<s.S.b7.length)(ht:Th (ce s i)){o:n0}(hs:o.Serial=(ce s i).Val.Serial)(ho:AR s o):SR (fY s i o):=by
 have hst:=AD hi o;have hse:∀j,(ce (fY s i o) j).Val.Serial=(ce s j).Val.Serial:=λj=>by
  rw[mS hi];split;·rename_i q;subst q;exact hs
  .rfl
 refine⟨by rw[K3];exact hR.len,hR.l0,hR.l9,hR.aR,λj hj=>?_,λj hj hn=>?_,λj hj hn=>?_,λj k hj hk a b e=>?_⟩
 .rw[K3] at hj;rw[(hst j).1,(hst j).2];exact hR.cell j hj
 .rw[K3] at hj;unfold Th at hn;rw[(hst j).1] at hn;rw[mS hi];split;·rename_i q;subst q;exact absurd ht hn
  .exact hR.no j hj hn
 .rw[K3] at hj;unfold Th at hn;rw[(hst j).1] at hn;rw[mS hi];split;·exact⟨ho.s1,ho.s2,ho.st,ho.wk,ho.p1,ho.p2,ho.fl⟩
  .have:=hR.ok j hj hn;exact⟨this.s1,this.s2,this.st,this.wk,this.p1,this.p2,this.fl⟩
 .rw[K3] at hj hk;unfold Th at a b;rw[(hst j).1] at a;rw[(hst k).1] at b;rw[hse,hse] at e;exact hR.dif j k hj hk a b e
theorem Oa{s:b6}(hR:SR s){i:Nat}(hi:i<s.S.b7.length){o:n0}(hs:o.Serial=(ce s i).Val.Serial)(hR':SR (fY s i o)):lv (fY s i o)=lv s:=by
 refine Sb hR hR' (K3 ..) λj hj=>?_;rw[mS hi];split;·rename_i q;subst q;exact⟨Iff.rfl,rfl,hs⟩
 .exact⟨Iff.rfl,rfl,rfl⟩
theorem Wp{s:b6}(hR:SR s){h:Int}{i:Nat}(q:At s h i){o:n0}(hR':SR (fY s i o)){k:Int}(hk:k<=9223372036854775807):ob (fY s i o) k=if k=h then o else ob s k:=by
 by_cases e:k=h
 .subst e;rw[zb rfl,F7 hR' ((yd q.1 o).2 q),mS q.1,zb rfl]
 .rw[za e];by_cases hl:∃j,At s k j
  .obtain⟨j,hj⟩:=hl;rw[F7 hR' ((yd q.1 o).2 hj),F7 hR hj,mS q.1,za];intro e2;subst e2;exact e (hj.2.2.trans q.2.2.symm)
  .rw[wj (y8.2 hR) hk (λq2=>hl ((fU hR).1 q2)),wj (y8.2 hR') hk λq2=>hl (by
    obtain⟨j,hj⟩:=(fU hR').1 q2;exact⟨j,(yd q.1 o).1 hj⟩)]
def E0(h:Int):Nat:=((h-1) % 32).toNat
theorem U7.E0{s:b6}(hR:SR s){h:Int}{i:Nat}(q:U7 s h i):E0 h=i:=by
 obtain⟨a,_,c⟩:=q;have:=hR.len;unfold Sh.E0;omega
def dp(s:b6)(h:Int)(o:n0):b6:=fY s (E0 h) o
theorem o7{s:b6}(hR:SR s){h:Int}(hh:h∈lv s):At s h (E0 h):=by
 obtain⟨i,hi⟩:=(fU hR).1 hh;rw[hi.d.E0 hR];exact hi
theorem K9{s:b6}(hR:SR s){h:Int}(hh:h∈lv s):AR s (ob s h):=by
 have q:=o7 hR hh;rw[F7 hR q];exact hR.ok _ q.1 (.inl q.2.1)
theorem H5{s:b6}(hR:SR s){h:Int}(hh:h∈lv s):1<=h/\h<=320:=(o7 hR hh).d.Ma hR
theorem ff{s:b6}(hR:SR s):(0:Int)∉lv s:=λh=>by have:=H5 hR h;omega
section
variable{s:b6}(hR:SR s){h:Int}(hh:h∈lv s){o:n0}(hs:o.Serial=(ob s h).Serial)(ho:AR s o)
include hR hh hs ho
theorem bZ:SR (dp s h o):=by
 have q:=o7 hR hh;exact hR.put q.1 (.inl q.2.1) (by rw[hs,F7 hR q]) ho
theorem iN:lv (dp s h o)=lv s:=by
 have q:=o7 hR hh;exact Oa hR q.1 (by rw[hs,F7 hR q]) (bZ hR hh hs ho)
theorem gx{k:Int}(hk:k<=9223372036854775807):ob (dp s h o) k=if k=h then o else ob s k:=Wp hR (o7 hR hh) (bZ hR hh hs ho) hk
theorem xF:T1 s h o=some (dp s h o,0):=PB hR (o7 hR hh).d o
theorem DY{k:Int}{i:Nat}:U7 (dp s h o) k i↔U7 s k i:=xq (o7 hR hh).1 o
theorem Aq(i:Nat):ce (dp s h o) i=if i=E0 h then ⟨(ce s i).State,(ce s i).Gen,o⟩ else ce s i:=by
 unfold dp;rw[mS (o7 hR hh).1];split;·rename_i q;rw[q]
 .rfl
end
abbrev Bp(o:n0)(n:Int):n0:=⟨o.Serial,n,o.Weak,o.Prog,o.Started,o.Fields⟩
structure vY (s s':b6):Prop where
 sr:SR s'
 len:s'.S.b7.length=s.S.b7.length
 last:s'.S.Last=s.S.Last
 aR:s'.Serial=s.Serial
 lv:lv s'=lv s
 ad:∀k i,U7 s' k i↔U7 s k i
 ob:∀k,k<=9223372036854775807->∃n,ob s' k=(Bp (ob s k) (n))
 ce:∀i,i<s.S.b7.length->(ce s' i).State=(ce s i).State/\(ce s' i).Gen=(ce s i).Gen/\(ce s' i).Val.Weak=(ce s i).Val.Weak/\(ce s' i).Val.Fields=(ce s i).Val.Fields/\((ce s i).State≠1->ce s' i=ce s i)
theorem vY.refl{s:b6}(hR:SR s):vY s s:=⟨hR,rfl,rfl,rfl,rfl,λ_ _=>Iff.rfl,λk _=>⟨_,rfl⟩,λi _=>⟨rfl,rfl,rfl,rfl,λ_=>rfl⟩⟩
theorem vY.trans{a b c:b6}(h:vY a b)(q:vY b c):vY a c:=by
 refine⟨q.sr,q.len.trans h.len,q.last.trans h.last,q.aR.trans h.aR,q.lv.trans h.lv,λk i=>(q.ad k i).trans (h.ad k i),λk hk=>?_,λi hi=>?_⟩
 .obtain⟨n,e⟩:=h.ob k hk;obtain⟨m,f⟩:=q.ob k hk;exact⟨m,by rw[f,e]⟩
 .obtain⟨a1,a2,a3,a4,a5⟩:=h.ce i hi;obtain⟨b1,b2,b3,b4,b5⟩:=q.ce i (by rw[h.len];exact hi);refine⟨b1.trans a1,b2.trans a2,b3.trans a3,b4.trans a4,λhn=>?_⟩;rw[b5 (by rw[a1];exact hn),a5 hn]
theorem vY.outs{s s':b6}(k:vY s s'){h:Int}(hh:h<=9223372036854775807):outs s' h=outs s h:=by
 obtain⟨n,e⟩:=k.ob h hh;unfold Sh.outs;rw[e]
theorem vY.kz{s s':b6}(hR:SR s)(k:vY s s')(h:Int):kz s' h=kz s h:=by
 unfold Sh.kz;rw[k.lv];congr 1;refine zq λx hx=>?_;rw[k.outs (by have:=H5 hR hx;omega)]
theorem RT{s:b6}(hR:SR s){h:Int}(hh:h∈lv s){n:Int}(hn:0<=n):vY s (dp s h (Bp (ob s h) (n))):=by
 have ho:AR s (Bp (ob s h) (n)):=by
  have:=K9 hR hh;exact⟨this.s1,this.s2,hn,this.wk,this.p1,this.p2,this.fl⟩
 have q:=o7 hR hh;refine⟨bZ hR hh rfl ho,K3 ..,rfl,rfl,iN hR hh rfl ho,λk i=>DY (o:=(Bp (ob s h) (n))) hR hh rfl ho,λk hk=>?_,λi hi=>?_⟩
 .rw[gx (o:=(Bp (ob s h) (n))) hR hh rfl ho hk];split;·rename_i e;subst e;exact⟨n,rfl⟩
  .exact⟨_,rfl⟩
 .rw[Aq (o:=(Bp (ob s h) (n))) hR hh rfl ho];split
  .rename_i e;subst e;rw[F7 hR q];exact⟨rfl,rfl,rfl,rfl,λhn=>absurd q.2.1 hn⟩
  .exact⟨rfl,rfl,rfl,rfl,λ_=>rfl⟩
def SB(s:b6):Prop:=∀c∈s.S.b7,c.Val.Strong<=9223372036854775807
theorem XS{s:b6}:FB s↔∀i,i<s.S.b7.length->∀x∈(ce s i).Val.Fields,x<=9223372036854775807:=by
 constructor
 .intro h i hi x hx;rw[N2 hi] at hx;exact h _ (zh hi) x hx
 .intro h c hc x hx;obtain⟨i,hi,rfl⟩:=ww hc;exact h i hi x (by rw[N2 hi];exact hx)
theorem YM{s:b6}:SB s↔∀i,i<s.S.b7.length->(ce s i).Val.Strong<=9223372036854775807:=by
 constructor
 .intro h i hi;rw[N2 hi];exact h _ (zh hi)
 .intro h c hc;obtain⟨i,hi,rfl⟩:=ww hc;have:=h i hi;rwa [N2 hi] at this
noncomputable def inr(s:b6)(t:Tb)(h:Int):Nat:=kz s h+own t h
noncomputable def Md(s:b6)(t:Tb)(h:Int):Int:=if h∈lv s then (ob s h).Strong-(inr s t h:Int) else 0
noncomputable def Lv(s:b6)(t:Tb):List Int:=(lv s).filter λh=>decide (0<Md s t h\/12<=(ob s h).Strong)
def TL(s:b6)(t:Tb)(l:List Int):Prop:=∀h∈lv s,(ob s h).Strong<12->Md s t h=(T3 l h:Int)
noncomputable instance(s:b6)(t:Tb)(l:List Int):Decidable (TL s t l):=Classical.propDecidable _
section
variable{s:b6}(hR:wL (sO s)){t:Tb}(hT:HR t)
include hR hT
theorem NR(h:Int):lg s t h=some (inr s t h:Int):=by
 unfold lg;have h1:=NQ hR h;have h2:=OQ hT.l8 h;rw[Yc hR,a0q,OR hT,a0q,U2 (by omega) (by omega)];unfold inr;simp
theorem VP(h:Int):inr s t h<=104:=by
 have h1:=NQ hR h;have h2:=OQ hT.l8 h;unfold inr;omega
omit hT in
theorem Cm (hB:SB s) {h:Int} (hh:h∈lv s):0<=(ob s h).Strong/\(ob s h).Strong<=9223372036854775807:=by
 obtain⟨i,hi⟩:=(fU (y8.1 hR)).1 hh;rw[F7 (y8.1 hR) hi];refine⟨((y8.1 hR).ok i hi.1 (.inl hi.2.1)).st,?_⟩;rw[N2 hi.1];exact hB _ (zh _)
theorem SZ(hB:SB s){h:Int}(hh:h<=9223372036854775807):nQ s t h=some (Md s t h):=by
 unfold nQ;obtain⟨e,h1,h2⟩:=gj hR hh;rw[h1,a0q];by_cases q:h∈lv s
 .have:=h2.2 q;subst this;have h3:=VP hR hT h;have h4:=Cm hR hB q;rw[za (by simp),NR hR hT,a0q,U2 (by dsimp only;omega) (by dsimp only;omega)];unfold Md;rw[zb q]
 .rw[zb (by simpa using λq2=>q (h2.1 q2))];unfold Md;rw[za q]
omit hT in
theorem Yj {k:Nat} (hk:k<(lv s).length):(lv s)[k]<=9223372036854775807:=by
 have:=pk hR (zh hk);omega
theorem RL(hB:SB s):nO s t=some (Lv s t):=by
 unfold nO;simp only[jn];have h24:=K8 hR;rw[fg hR,a0q,V7 (lv s) (λb x=>if decide (0<Md s t x\/12<=(ob s x).Strong) then b ++ [x] else b) id (λk b=>b.length<=k) (by omega) (by simp) (λk hk b hI=>?_) (λb _=>by simp),a0q]
 .rw[foldl_filter];rfl
 .have hm:=zh hk;have hle:=Yj hR hk;simp only[we,hk,wt,zY,s7 hk,a0q];rw[vl hR hm,a0q];unfold nP oN I9;rw[SZ hR hT hB hle,a0q,a0q];by_cases q:0<Md s t (lv s)[k]
  .rw[zC (show Md s t (lv s)[k] > 0 from q)];simp only[show ((true==false):Bool)=false from rfl,JX,a0q,Bool.true_or,zY];rw[J3 (by omega) (by simp;omega),a0q,o0,zb (zC (.inl q))];exact⟨rfl,by simp;omega⟩
  .rw[zQ (show ¬Md s t (lv s)[k] > 0 from q)];simp only[t8,fX,a0q,zca];by_cases q2:12<=(ob s (lv s)[k]).Strong
   .rw[zb (zC q2),J3 (by omega) (by simp;omega),a0q,o0,zb (zC (.inr q2))];exact⟨rfl,by simp;omega⟩
   .rw[za (by simpa using q2),o0,za (by simp only[decide_eq_true_eq];exact λc=>c.elim q q2)];exact⟨rfl,by omega⟩
omit hT in
theorem RM:(Lv s t).length<=24:=zO (zD ..) (K8 hR)
omit hR hT in
theorem qc {h:Int}:h∈Lv s t↔h∈lv s/\(0<Md s t h\/12<=(ob s h).Strong):=by
 unfold Lv;rw[zk,decide_eq_true_eq]
omit hT in
theorem VJ:LB (Lv s t):=λx hx=>by have:=pk hR (qc.1 hx).1;omega
theorem HE(hTB:TB t)(hF:FB s)(hB:SB s):dF s t=some (Xu s t (Lv s t)):=by
 unfold dF;have:=RM hR (t:=t);rw[RL hR hT hB,a0q,NB hR hT hTB hF (VJ hR) (by omega)];rfl
end
abbrev TQ:=g7
def Xz(q:TQ)(t:g6):TQ × Int:=if q.Cap<=q.L.length then (q,4) else (⟨q.L ++ [t],q.Cap⟩,0)
def Tu(q:TQ):TQ × g6 × Int:=match q.L with
 | []=>(q,⟨0,0,0⟩,10)
 | t::l=>(⟨l,q.Cap⟩,t,0)
theorem Uo{q:TQ}(t:g6)(h:q.L.length<=1000):pM q t=some (Xz q t):=by
 unfold Xz;unfold pM W5 M3 H7;simp only[a0q];by_cases c:q.Cap<=q.L.length
 .rw[zb (by simpa using c),zb c,a0q]
 .rw[za (by simpa using c),za c];have e:cut q.L 0 (q.L.length:Int)=some q.L:=by
   have:=uZ (xs:=q.L) (i:=0) (j:=q.L.length) (zX _) (zF _);simpa using this
  rw[e,a0q,a0q,J3 (by omega) (by simp;omega),a0q,a0q]
theorem Ay{q:TQ}:bj q=some (Tu q):=by
 unfold Tu;unfold bj de bw M3 H7;simp only[a0q];cases hl:q.L with
 | nil=>
  have e:cut ([]:List g6) 0 0=some []:=rfl;simp[e]
 | cons t l=>
  have hm:(if (if (((t::l).length:Nat):Int)<1 then (((t::l).length:Nat):Int) else 1) > 0 then (if (((t::l).length:Nat):Int)<1 then (((t::l).length:Nat):Int) else 1) else 0)=1:=by
   rw[za (show ¬(((t::l).length:Nat):Int)<1 by simp;omega)];simp
  rw[hm];have e1:cut (t::l) 0 1=some [t]:=by
   have:=uZ (xs:=t::l) (i:=0) (j:=1) (zX _) (by simp);simpa using this
  have e2:cut (t::l) 1 (((t::l).length:Nat):Int)=some l:=by
   have:=uZ (xs:=t::l) (i:=1) (j:=(t::l).length) (by simp) (zF _);simpa using this
  rw[e1,e2];simp[ix]
theorem Lo{α β:Type}(p:α->Bool)(f:α->β)(l:List α)(k:Nat)(h:k<l.length):((l.take (k+1)).filter p).map f=((l.take k).filter p).map f++(if p l[k] then [f l[k]] else []):=by
 rw[zt h,zbc,q9];congr 1;simp only[or,List.filter_nil];split <;> rfl
theorem PI{q:TQ}(h:q.L.length<=1000):gy q=some ((q.L.filter (·.Kind==1)).map (·.At)):=by
 unfold gy qs;simp only[jn,a0q];refine Y8 q.L.length (λk l=>l=((q.L.take k).filter (·.Kind==1)).map (·.At)) (by omega) (by simp) ?_ (λl hl=>⟨_,by simp;rfl,by rw[hl,zW]⟩);rintro k l hk rfl;left;rw[Lo _ _ _ _ hk];simp only[we,hk,wt,zY,s7 hk,a0q];have hle:(List.map (·.At) (List.filter (·.Kind==1) (List.take k q.L))).length<=1000:=by
  rw[zl];exact zO (zD ..) (by simp;omega)
 by_cases c:(q.L[k].Kind==1)=true
 .rw[c,zb (by decide),J3 (by omega) (by simp only[zH,zag];omega),a0q,o0];exact⟨_,rfl,rfl⟩
 .have c:(q.L[k].Kind==1)=false:=by simpa using c
  rw[c,za (by decide),o0];exact⟨_,rfl,by simp⟩
theorem xI{q:TQ}{w:Int}(h:q.L.length<=1000):aQ q w=some (q.L.any λt=>t.Kind==2&&t.At==w):=by
 unfold aQ qs;simp only[jn,a0q];refine db q.L.length (λk=>(q.L.take k).any (λt=>t.Kind==2&&t.At==w)=false) (by omega) (by simp) ?_ (λhl=>⟨.inr (),by simp,by rw[zW] at hl;rw[hl]⟩);intro k hk hP;simp only[we,hk,wt,zY,s7 hk,a0q];rw[zt hk,List.any_append,hP,zca];by_cases c:(q.L[k].Kind==2)=true
 .rw[c,zb (by decide)];by_cases d:(q.L[k].At==w)=true
  .right;rw[d,zb rfl];refine⟨.inl true,rfl,?_⟩;simp only[zZ];symm
   rw[List.any_eq_true];exact⟨_,zh hk,by rw[c,d];rfl⟩
  .have d:(q.L[k].At==w)=false:=by simpa using d
   left;rw[d,za (by decide),o0];exact⟨rfl,by simp[d]⟩
 .have c:(q.L[k].Kind==2)=false:=by simpa using c
  left;rw[c,za (by decide),o0];exact⟨rfl,by simp[c]⟩
theorem Lw{l:List Int}(h:l.length<=100000):ue l l=some true:=by
 unfold ue;rw[za (by simp)];simp only[jn];refine db l.length (λ_=>True) (by omega) trivial (λk hk _=>.inl ⟨?_,trivial⟩) (λ_=>⟨.inr (),by simp,rfl⟩);simp only[we,hk,wt,zY,s7 hk,a0q];rw[za (by simp),o0]
def ZZ(t:g6):G7:=⟨t.Kind,t.At,t.Prog⟩
def tqR(q:TQ):ai:=⟨q.L.map ZZ,q.Cap⟩
abbrev Hp:=b9
abbrev wS(x:Hp)(s:b6):Hp:=⟨s,x.Roots,x.b7,x.T,x.Q⟩
abbrev wR(x:Hp)(l:List Int):Hp:=⟨x.S,l,x.b7,x.T,x.Q⟩
abbrev wC(x:Hp)(l:List j5):Hp:=⟨x.S,x.Roots,l,x.T,x.Q⟩
abbrev wT(x:Hp)(t:Tb):Hp:=⟨x.S,x.Roots,x.b7,t,x.Q⟩
abbrev wQ(x:Hp)(q:TQ):Hp:=⟨x.S,x.Roots,x.b7,x.T,q⟩
def jy(l:List j5)(h:Int):Nat:=l.countP λc=>(h != 0)&&(c.Target==h)
def pc(q:TQ):List Int:=(q.L.filter (·.Kind==1)).map (·.At)
def wI(q:TQ)(w:Int):Bool:=q.L.any λt=>t.Kind==2&&t.At==w
def oz(x:Hp):List Int:=nz x.Roots++pc x.Q
noncomputable def lY(x:Hp)(h:Int):Nat:=kz x.S h+own x.T h+T3 (oz x) h
def I3(s:b6)(i:Nat)(c:c8):b6:=⟨⟨s.S.b7.set i c,s.S.Last⟩,s.Serial⟩
theorem W6(s:b6)(i:Nat)(c:c8):(I3 s i c).S.b7.length=s.S.b7.length:=by simp[I3]
theorem L4{s:b6}{i:Nat}(hi:i<s.S.b7.length)(c:c8)(j:Nat):ce (I3 s i c) j=if j=i then c else ce s j:=yy hi _ _ j
theorem SR.I3{s:b6}(hR:SR s){i:Nat}(hi:i<s.S.b7.length){c:c8}(h1:0<=c.State/\c.State<=3/\0<=c.Gen/\c.Gen<=s.S.Last)(h2:¬Th c->KJ (oo c.Val))(h3:Th c->AR s c.Val/\Th (ce s i)/\c.Val.Serial=(ce s i).Val.Serial):SR (I3 s i c):=by
 have key:∀j,Th (ce (Sh.I3 s i c) j)->Th (ce s j)/\(ce (Sh.I3 s i c) j).Val.Serial=(ce s j).Val.Serial:=λj hj=>by
  rw[L4 hi] at hj |-;split at hj
  .rename_i e;subst e;rw[zb rfl];exact (h3 hj).2
  .rename_i e;rw[za e];exact⟨hj,rfl⟩
 refine⟨by rw[W6];exact hR.len,hR.l0,hR.l9,hR.aR,λj hj=>?_,λj hj hn=>?_,λj hj hn=>?_,λj k hj hk a b e=>?_⟩
 .rw[W6] at hj;rw[L4 hi];split;·exact h1
  .exact hR.cell j hj
 .rw[W6] at hj;rw[L4 hi] at hn |-;split at hn
  .rename_i e;rw[zb e];exact h2 hn
  .rename_i e;rw[za e];exact hR.no j hj hn
 .rw[W6] at hj;rw[L4 hi] at hn |-;split at hn
  .rename_i e;rw[zb e];have:=(h3 hn).1;exact⟨this.s1,this.s2,this.st,this.wk,this.p1,this.p2,this.fl⟩
  .rename_i e;rw[za e];have:=hR.ok j hj hn;exact⟨this.s1,this.s2,this.st,this.wk,this.p1,this.p2,this.fl⟩
 .rw[W6] at hj hk;obtain⟨a1,a2⟩:=key j a;obtain⟨b1,b2⟩:=key k b;rw[a2,b2] at e;exact hR.dif j k hj hk a1 b1 e
theorem EL{s:b6}{i:Nat}(hi:i<s.S.b7.length)(c:c8){h:Int}{j:Nat}(hj:j≠i):U7 (I3 s i c) h j↔U7 s h j:=by
 unfold U7;rw[W6,L4 hi,za hj]
theorem xt{s:b6}{i:Nat}(hi:i<s.S.b7.length)(c:c8){h:Int}{j:Nat}(hj:j≠i):At (I3 s i c) h j↔At s h j:=by
 unfold At;rw[W6,L4 hi,za hj]
theorem JL{s:b6}(hR:SR s){i:Nat}(hi:i<s.S.b7.length){c:c8}(hc:c.State≠1)(hR':SR (I3 s i c)):lv (I3 s i c)=(lv s).filter λh=>decide (E0 h≠i):=by
 have hno:∀h,¬At (I3 s i c) h i:=λh q=>by
  have:=q.2.1;rw[L4 hi,zb rfl] at this;exact hc this
 refine Oc hR hR' _ (λh=>?_) (λh j k q q'=>?_)
 .rw[zG];constructor
  .rintro⟨j,hj⟩;have hne:j≠i:=λe=>hno h (e▸hj);have:=(xt hi c hne).1 hj;exact⟨⟨j,this⟩,by rw[this.d.E0 hR];exact hne⟩
  .rintro⟨⟨j,hj⟩,hp⟩;rw[hj.d.E0 hR] at hp;exact⟨j,(xt hi c hp).2 hj⟩
 .have hne:j≠i:=λe=>hno h (e▸q);have q2:=(xt hi c hne).1 q;have:=U7.one hR q2.d q'.d;subst this;rw[L4 hi,za hne]
theorem JW{s:b6}(hR:SR s){i:Nat}(hi:i<s.S.b7.length){c:c8}(hR':SR (I3 s i c)){k:Int}(hk:k∈lv s)(hp:E0 k≠i):ob (I3 s i c) k=ob s k:=by
 have q:=o7 hR hk;rw[F7 hR' ((xt hi c hp).2 q),F7 hR q,L4 hi,za hp]
structure Kn (s s':b6):Prop where
 sr:SR s'
 len:s'.S.b7.length=s.S.b7.length
 lv:lv s'=lv s
 ad:∀k i,U7 s' k i↔U7 s k i
 ob:∀k,k∈Sh.lv s->∃n m,ob s' k=⟨(ob s k).Serial,n,m,(ob s k).Prog,(ob s k).Started,(ob s k).Fields⟩
theorem vY.kn{s s':b6}(hR:SR s)(k:vY s s'):Kn s s':=⟨k.sr,k.len,k.lv,k.ad,λh hh=>by
 obtain⟨n,e⟩:=k.ob h (by have:=H5 hR hh;omega);exact⟨n,_,e⟩⟩
theorem Kn.kz{s s':b6}(k:Kn s s')(h:Int):kz s' h=kz s h:=by
 unfold Sh.kz;rw[k.lv];congr 1;refine zq λx hx=>?_;obtain⟨n,m,e⟩:=k.ob x hx;unfold Sh.outs;rw[e]
structure jt (x:Hp):Prop where
 sr:SR x.S
 hr:HR x.T
 r6:x.Roots.length=6
 c6:x.b7.length=6
 cap:x.Q.Cap=30
 q30:x.Q.L.length<=30
 tk:∀t∈x.Q.L,0<=t.Prog/\t.Prog<=5/\((t.Kind=1/\t.At∈lv x.S/\(ob x.S t.At).Started=true)\/(t.Kind=2/\0<=t.At/\t.At<=5))
 td:x.Q.L.Pairwise λa b=>¬(a.Kind=b.Kind/\a.At=b.At)
 rt:∀h∈x.Roots,h=0\/h∈lv x.S
 fl:∀h∈lv x.S,∀v∈(ob x.S h).Fields,v=0\/v∈lv x.S
 pr:∀k v,Has x.T k v->k∈lv x.S/\v∈lv x.S
 cl:∀i (hi:i<x.b7.length),-1<=x.b7[i].Call/\x.b7[i].Call<=5/\(x.b7[i].Target=0->x.b7[i].Intact=false)/\(x.b7[i].Target≠0->∃p,U7 x.S x.b7[i].Target p)/\(x.b7[i].Intact=true->x.b7[i].Target∈lv x.S/\wI x.Q i=false)
def Wk(x:Hp):Prop:=∀i,i<x.S.S.b7.length->Th (ce x.S i)->(ce x.S i).Val.Weak=(jy x.b7 (1+(i:Int)+32*(ce x.S i).Gen):Int)/\((ce x.S i).State=2->1<=(ce x.S i).Val.Weak/\(ce x.S i).Val.Fields = []/\(ce x.S i).Val.Strong=0)
def aS(x:Hp)(L:List Int):Prop:=∀h∈lv x.S,(ob x.S h).Strong<12->(ob x.S h).Strong=((lY x h+T3 L h:Nat):Int)
structure L1 (x:Hp):Prop where
 sh:jt x
 wk:Wk x
 fair:aS x []
theorem jt.of{x:Hp}(h:jt x){s':b6}(hS:SR s')(hl:lv s'=lv x.S)(hd:∀k i,U7 x.S k i->U7 s' k i)(hst:∀k∈lv x.S,(ob x.S k).Started=true->(ob s' k).Started=true)(hfl:∀k∈lv x.S,∀v∈(ob s' k).Fields,v=0\/v∈lv x.S):jt (wS x s'):=by
 refine⟨hS,h.hr,h.r6,h.c6,h.cap,h.q30,λt ht=>?_,h.td,λk hk=>?_,λk hk=>?_,λk v hkv=>?_,λi hi=>?_⟩
 .obtain⟨a,b,c⟩:=h.tk t ht;refine⟨a,b,?_⟩;rcases c with ⟨c1,c2,c3⟩ | c;·exact .inl ⟨c1,by rw[hl];exact c2,hst _ c2 c3⟩
  .exact .inr c
 .dsimp only;rw[hl];exact h.rt k hk
 .dsimp only at hk |-;rw[hl] at hk |-;exact hfl k hk
 .dsimp only;rw[hl];exact h.pr k v hkv
 .obtain⟨a,b,c,d,e⟩:=h.cl i hi;refine⟨a,b,c,λq=>?_,λq=>?_⟩
  .obtain⟨p,hp⟩:=d q;exact⟨p,hd _ _ hp⟩
  .dsimp only;rw[hl];exact e q
theorem jt.kn{x:Hp}(h:jt x){s':b6}(k:Kn x.S s'):jt (wS x s'):=by
 refine h.of k.sr k.lv (λj i q=>(k.ad j i).2 q) (λj hj q=>?_) (λj hj=>?_)
 .obtain⟨n,m,e⟩:=k.ob j hj;rw[e];exact q
 .obtain⟨n,m,e⟩:=k.ob j hj;rw[e];exact h.fl j hj
theorem jt.wW{x:Hp}(h:jt x){s':b6}(k:vY x.S s'):jt (wS x s'):=h.kn (k.kn h.sr)
theorem Wk.wW{x:Hp}(h:Wk x){s':b6}(k:vY x.S s'):Wk (wS x s'):=by
 intro i hi ht;dsimp only at hi ht |-;rw[k.len] at hi;obtain⟨a,b,c,d,e⟩:=k.ce i hi;unfold Th at ht;rw[a] at ht;obtain⟨f,g⟩:=h i hi ht;rw[a,b,c];refine⟨f,λq=>?_⟩;have e':=e (by omega);rw[<-c,e'];exact g q
theorem jt.roots{x:Hp}(h:jt x){l:List Int}(hl:l.length=6)(hr:∀v∈l,v=0\/v∈lv x.S):jt (wR x l):=⟨h.sr,h.hr,hl,h.c6,h.cap,h.q30,h.tk,h.td,hr,h.fl,h.pr,h.cl⟩
theorem jt.table{x:Hp}(h:jt x){t:Tb}(hr:HR t)(hp:∀k v,Has t k v->k∈lv x.S/\v∈lv x.S):jt (wT x t):=⟨h.sr,hr,h.r6,h.c6,h.cap,h.q30,h.tk,h.td,h.rt,h.fl,hp,h.cl⟩
def Z8(c:Int):Int:=if 12<=c then 12 else if c<0 then 1 else c+1
def lu(c:Int):Int:=if 12<=c then 12 else if c<1 then c else c-1
theorem E9{c:Int}(h:0<=c):0<=Z8 c:=by unfold Z8;split <;> (try split) <;> omega
theorem Q1{c:Int}(h:0<=c):0<=lu c:=by unfold lu;split <;> (try split) <;> omega
noncomputable def uA(x:Hp)(h:Int)(f:Int->Int):Hp:=if h∈lv x.S then wS x (dp x.S h (Bp (ob x.S h) (f (ob x.S h).Strong))) else x
noncomputable def F0(x:Hp)(h:Int):Hp:=uA x h Z8
noncomputable def aN(x:Hp)(h:Int):Hp:=uA x h lu
theorem Av(x:Hp)(h:Int)(f:Int->Int):uA x h f=wS x (uA x h f).S:=by
 unfold uA;split <;> rfl
theorem pB(x:Hp)(h:Int):F0 x h=wS x (F0 x h).S:=Av x h Z8
theorem WT(x:Hp)(h:Int):aN x h=wS x (aN x h).S:=Av x h lu
section
variable{x:Hp}(hR:SR x.S)(h:Int){f:Int->Int}(hf:∀c,0<=c->0<=f c)
include hR hf
theorem I4:vY x.S (uA x h f).S:=by
 unfold uA;split
 .rename_i q;exact RT hR q (hf _ (K9 hR q).st)
 .exact vY.refl hR
theorem vP{k:Int}(hk:k∈lv x.S):(ob (uA x h f).S k).Strong=if k=h then f (ob x.S k).Strong else (ob x.S k).Strong:=by
 unfold uA;split
 .rename_i q;dsimp only;have ho:AR x.S (Bp (ob x.S h) (f (ob x.S h).Strong)):=by
   have:=K9 hR q;exact⟨this.s1,this.s2,hf _ this.st,this.wk,this.p1,this.p2,this.fl⟩
  rw[gx (o:=Bp (ob x.S h) (f (ob x.S h).Strong)) hR q rfl ho (by have:=H5 hR hk;omega)];split;·rename_i e;subst e;rfl
  .rfl
 .rename_i q;rw[za];intro e;subst e;exact q hk
theorem xH(k:Int):lY (uA x h f) k=lY x k:=by
 rw[Av];unfold lY oz;dsimp only;rw[(I4 hR h hf).kz hR]
end
theorem jt.st{x:Hp}(h:jt x)(k:Int){f:Int->Int}(hf:∀c,0<=c->0<=f c):jt (uA x k f):=by
 rw[Av];exact h.wW (I4 h.sr k hf)
theorem Wk.st{x:Hp}(h:Wk x)(hR:SR x.S)(k:Int){f:Int->Int}(hf:∀c,0<=c->0<=f c):Wk (uA x k f):=by
 rw[Av];exact h.wW (I4 hR k hf)
theorem J1(h:Int):T3 [] h=0:=by unfold T3;split <;> rfl
theorem I8(v:Int)(L:List Int)(h:Int):T3 (v::L) h=T3 L h+if v=h/\h≠0 then 1 else 0:=by
 unfold T3;by_cases h0:h=0
 .simp[h0]
 .rw[za h0,za h0,zcs];by_cases e:v=h
  .simp[e,h0]
  .simp[e]
theorem Gs{x:Hp}(hR:SR x.S){L:List Int}(hf:aS x L)(v:Int):aS (F0 x v) (v::L):=by
 intro h hh hlt;unfold F0 at hh hlt |-;rw[(I4 hR v λc=>E9).lv] at hh;rw[vP hR v (λc=>E9) hh] at hlt |-;rw[xH hR v λc=>E9,I8];have h0:h≠0:=λe=>ff hR (e▸hh);have hp:=(K9 hR hh).st;by_cases e:h=v
 .subst e;rw[zb rfl] at hlt |-;have:=hf h hh (by unfold Z8 at hlt;split at hlt <;> omega);rw[zb ⟨rfl,h0⟩];unfold Z8 at hlt |-;split at hlt;·omega
  .rename_i q;rw[za q,za (by omega)];omega
 .rw[za e] at hlt |-;rw[za (λq=>e q.1.symm)];exact hf h hh hlt
theorem um{x:Hp}(hR:SR x.S){L:List Int}{v:Int}(hf:aS x (v::L)):aS (aN x v) L:=by
 intro h hh hlt;unfold aN at hh hlt |-;rw[(I4 hR v λc=>Q1).lv] at hh;rw[vP hR v (λc=>Q1) hh] at hlt |-;rw[xH hR v λc=>Q1];have h0:h≠0:=λe=>ff hR (e▸hh);have hp:=(K9 hR hh).st;by_cases e:h=v
 .subst e;rw[zb rfl] at hlt |-;have:=hf h hh (by unfold lu at hlt;split at hlt <;> omega);rw[I8,zb ⟨rfl,h0⟩] at this;unfold lu at hlt |-;split at hlt;·omega
  .rename_i q;rw[za q,za (by omega)];omega
 .rw[za e] at hlt |-;have:=hf h hh hlt;rw[I8,za (λq=>e q.1.symm)] at this;exact this
theorem aS.mv{x x':Hp}{L L':List Int}(hf:aS x L)(hl:lv x'.S=lv x.S)(hs:∀h∈lv x.S,(ob x'.S h).Strong=(ob x.S h).Strong)(hn:∀h∈lv x.S,lY x' h+T3 L' h=lY x h+T3 L h):aS x' L':=by
 intro h hh hlt;rw[hl] at hh;rw[hs h hh] at hlt |-;rw[hf h hh hlt,hn h hh]
theorem xK:∀ {l:List Int} {r:Nat} (hr:r<l.length) (h k:Int),T3 (l.set r h) k+T3 [l.getD r 0] k=T3 l k+T3 [h] k
 | [],_,hr,_,_=>by simp at hr
 | a::l,0,_,h,k=>by
  rw[List.set_cons_zero,List.getD_cons_zero,I8 h l,I8 a l,I8 a [],I8 h [],J1];omega
 | a::l,r+1,hr,h,k=>by
  rw[List.set_cons_succ,List.getD_cons_succ,I8 a,I8 a l];have:=xK (l:=l) (r:=r) (by simpa using hr) h k;omega
theorem sf{x x1:Hp}(hx:L1 x){old new:Int}(h1:jt (F0 x new)->Wk (F0 x new)->jt x1/\Wk x1)
  (hl:lv x1.S=lv (F0 x new).S)(hs:∀h∈lv x.S,(ob x1.S h).Strong=(ob (F0 x new).S h).Strong)(hn:∀h∈lv x.S,lY x1 h+T3 [old] h=lY x h+T3 [new] h):L1 (aN x1 old):=by
 have l1:lv (F0 x new).S=lv x.S:=(I4 hx.sh.sr new λc=>E9).lv;have f1:aS (F0 x new) [new]:=Gs hx.sh.sr hx.fair new;obtain⟨h2,w2⟩:=h1 (hx.sh.st new λc=>E9) (hx.wk.st hx.sh.sr new λc=>E9);have f2:aS x1 [old]:=f1.mv hl (λh hh=>hs h (l1▸hh)) λh hh=>by
  rw[hn h (l1▸hh)];unfold F0;rw[xH hx.sh.sr new λc=>E9]
 exact⟨h2.st _ λc=>Q1,w2.st h2.sr _ λc=>Q1,um h2.sr f2⟩
noncomputable def G8(x:Hp)(r:Nat)(h:Int):Hp:=aN (wR (F0 x h) (x.Roots.set r h)) (x.Roots.getD r 0)
theorem bY{x:Hp}(hx:L1 x){r:Nat}(hr:r<6){h:Int}(hh:h=0\/h∈lv x.S):L1 (G8 x r h):=by
 have l1:lv (F0 x h).S=lv x.S:=(I4 hx.sh.sr h λc=>E9).lv;refine sf hx (λa b=>⟨a.roots (by rw[zap];exact hx.sh.r6) (λv hv=>?_),b⟩) rfl (λ_ _=>rfl) (λk hk=>?_)
 .rw[l1];rcases za3 hv with q | q
  .exact hx.sh.rt v q
  .exact q▸hh
 .have hi:=(I4 hx.sh.sr h λc=>E9).kz hx.sh.sr k;rw[pB];unfold lY oz;dsimp only;rw[show kz (F0 x h).S k=kz x.S k from hi,G4,G4,pN,pN];have:=xK (l:=x.Roots) (r:=r) (by rw[hx.sh.r6];exact hr) h k;omega
theorem Kz{α:Type}:∀ {l:List α} (hn:l.Nodup) {a:α} (ha:a∈l) (f g:α->Nat) (h:∀x∈l,x≠a->f x=g x),(l.map g).sum+f a=(l.map f).sum+g a
 | [],_,_,ha,_,_,_=>by cases ha
 | b::l,hn,a,ha,f,g,h=>by
  rw[me] at hn;rw[zU,zU,zbg,zbg];rcases zM.1 ha with e | e
  .subst e;have:l.map g=l.map f:=zq λx hx=>(h x (zn _ hx) λe=>hn.1 (e▸hx)).symm;rw[this];omega
  .have:=Kz hn.2 e f g λx hx=>h x (zn _ hx);have:=h b (zg ..) λq=>hn.1 (q▸e);omega
abbrev rF(o:n0)(l:List Int):n0:=⟨o.Serial,o.Strong,o.Weak,o.Prog,o.Started,l⟩
theorem JD{s:b6}(hR:SR s){h:Int}(hh:h∈lv s){o:n0}(hs:o.Serial=(ob s h).Serial)(ho:AR s o)(y:Int):kz (dp s h o) y+T3 (ob s h).Fields y=kz s y+T3 o.Fields y:=by
 have hle:=H5 hR hh;have:=Kz (tK (y8.2 hR)) hh (λx=>T3 (outs s x) y) (λx=>T3 (outs (dp s h o) x) y) λx hx hne=>by
  have:=H5 hR hx;unfold outs;rw[gx hR hh hs ho (by omega),za hne]
 have e:T3 (outs (dp s h o) h) y=T3 o.Fields y:=by
  unfold outs;rw[gx hR hh hs ho (by omega),zb rfl,pN]
 have e2:T3 (outs s h) y=T3 (ob s h).Fields y:=pN _ _;rw[e,e2] at this;unfold kz;rw[iN hR hh hs ho];exact this
noncomputable def bQ(x:Hp)(h:Int)(k:Nat)(v:Int):Hp:=aN (wS (F0 x v) (dp (F0 x v).S h (rF (ob (F0 x v).S h) ((ob x.S h).Fields.set k v)))) ((ob x.S h).Fields.getD k 0)
theorem CS{x:Hp}(hx:L1 x){h:Int}(hh:h∈lv x.S){k:Nat}(hk:k<(ob x.S h).Fields.length){v:Int}(hv:v=0\/v∈lv x.S):L1 (bQ x h k v):=by
 have wW:=I4 hx.sh.sr v (f:=Z8) λc=>E9;have l1:lv (F0 x v).S=lv x.S:=wW.lv;have hR1:SR (F0 x v).S:=wW.sr;have hh1:h∈lv (F0 x v).S:=by rw[l1];exact hh
 have hle:=H5 hx.sh.sr hh;have hof:(ob (F0 x v).S h).Fields=(ob x.S h).Fields:=by
  obtain⟨n,e⟩:=wW.ob h (by omega);show (ob (uA x v Z8).S h).Fields=_;rw[e]
 have ho:AR (F0 x v).S (rF (ob (F0 x v).S h) ((ob x.S h).Fields.set k v)):=by
  have:=K9 hR1 hh1;refine⟨this.s1,this.s2,this.st,this.wk,this.p1,this.p2,?_⟩;have h4:=this.fl;rw[hof] at h4;simpa using h4
 have hob:∀j,j∈lv x.S->ob (dp (F0 x v).S h (rF (ob (F0 x v).S h) ((ob x.S h).Fields.set k v))) j=if j=h then rF (ob (F0 x v).S h) ((ob x.S h).Fields.set k v) else ob (F0 x v).S j:=λj hj=>by
  have:=H5 hx.sh.sr hj;exact gx (o:=rF (ob (F0 x v).S h) ((ob x.S h).Fields.set k v)) hR1 hh1 rfl ho (by omega)
 refine sf hx (λa b=>⟨?_,?_⟩) (iN (o:=rF (ob (F0 x v).S h) ((ob x.S h).Fields.set k v)) hR1 hh1 rfl ho) (λj hj=>?_) (λj hj=>?_)
 .refine a.of (bZ (o:=rF (ob (F0 x v).S h) ((ob x.S h).Fields.set k v)) hR1 hh1 rfl ho) (iN (o:=rF (ob (F0 x v).S h) ((ob x.S h).Fields.set k v)) hR1 hh1 rfl ho) (λj i q=>(DY (o:=rF (ob (F0 x v).S h) ((ob x.S h).Fields.set k v)) hR1 hh1 rfl ho).2 q) (λj hj q=>?_) (λj hj u hu=>?_)
  .rw[hob j (l1▸hj)];split;·rename_i e;subst e;exact q
   .exact q
  .rw[hob j (l1▸hj)] at hu;split at hu
   .rename_i e;subst e;rcases za3 hu with q | q
    .exact a.fl j hj u (by rw[hof];exact q)
    .rw[l1,q];exact hv
   .exact a.fl j hj u hu
 .intro i hi ht;dsimp only at hi ht |-;have hp:=o7 hR1 hh1;unfold dp at hi;rw[K3] at hi;have hce:=Aq (o:=rF (ob (F0 x v).S h) ((ob x.S h).Fields.set k v)) hR1 hh1 rfl ho i;rw[hce] at ht |-;split at ht
  .rename_i e;subst e;rw[zb rfl];have:=b _ hp.1 (.inl hp.2.1);dsimp only;refine⟨?_,λq=>absurd q (by rw[hp.2.1];decide)⟩;rw[<-this.1,F7 hR1 hp]
  .rename_i e;rw[za e];exact b i hi ht
 .rw[hob j hj];split;·rename_i e;subst e;rfl
  .rfl
 .have hi:=JD (o:=rF (ob (F0 x v).S h) ((ob x.S h).Fields.set k v)) hR1 hh1 rfl ho j;have hi2:=wW.kz hx.sh.sr j;have hi2:kz (F0 x v).S j=kz x.S j:=hi2;rw[hi2,hof] at hi;dsimp only at hi;have:=xK hk v j;have hrest:F0 x v=wS x (F0 x v).S:=pB x v;unfold lY oz;dsimp only;rw[show (F0 x v).T=x.T by rw[hrest],show (F0 x v).Roots=x.Roots by rw[hrest],show (F0 x v).Q=x.Q by rw[hrest]];omega
theorem OV{t:Tb}(hT:HR t){k v:Int}{r:Tb × Int × Int}(h:V3 t k v=some r)(h0:r.2.2=0):HR r.1/\(∀y,own r.1 y+T3 [r.2.1] y=own t y+T3 [v] y)/\∀k' v',Has r.1 k' v'->Has t k' v'\/(k'=k/\v'=v/\v≠0):=by
 obtain⟨r',e1,e2,_,e3⟩:=dZ hT k v;rw[h] at e1;cases e1;refine⟨e2,?_⟩;have hos:∀(i:Nat) (p:g5) (y:Int),i<t.length->own (t.set i p) y+(if (pt t i).State=1/\(pt t i).Val=y/\y≠0 then 1 else 0)=own t y+if p.State=1/\p.Val=y/\y≠0 then 1 else 0:=λi p y hi=>by
  have key:∀q:g5,(if ((q.State==1)&&((y != 0)&&(q.Val==y)))=true then 1 else 0:Nat)=if q.State=1/\q.Val=y/\y≠0 then 1 else 0:=λq=>by
   by_cases c:q.State=1/\q.Val=y/\y≠0
   .rw[zb c,zb (by simp[c.1,c.2.1,c.2.2])]
   .rw[za c,za (by simp only[zy,pu,bne_iff_ne,ne_eq];exact λq=>c ⟨q.1,q.2.2,q.2.1⟩)]
  have:=Kc hi p y;rw[key,key] at this;exact this
 rcases e3 with ⟨_,rfl⟩ | ⟨hk,hv,⟨i,hi,rfl⟩ | ⟨hn,rfl⟩⟩ | ⟨hk,hv,⟨i,hi,rfl⟩ | ⟨d,hn,hd,hf,hp,rfl⟩ | ⟨hn,ha,rfl⟩⟩;·simp at h0
 .refine⟨λy=>?_,λk' v' q=>.inl ((sN hT hi k' v').1 q).2⟩;have:=hos i ⟨2,0,0⟩ y hi.1;rw[I8,I8,J1];subst hv;dsimp only at this |-;rw[za (show ¬((2:Int)=1/\(0:Int)=y/\y≠0) by omega)] at this;rw[za (show ¬((0:Int)=y/\y≠0) by omega)];simp only[hi.2.1,true_and] at this;omega
 .refine⟨λy=>?_,λk' v' q=>.inl q⟩;rw[hv]
 .refine⟨λy=>?_,λk' v' q=>?_⟩
  .have:=hos i ⟨1,k,v⟩ y hi.1;rw[I8,I8,J1];simp only[hi.2.1,true_and] at this;dsimp only;omega
  .rcases (xz hT (.old i hi) rfl k' v').1 q with ⟨a,b⟩ | ⟨_,b⟩;·exact .inr ⟨a,b,hv⟩
   .exact .inl b
 .refine⟨λy=>?_,λk' v' q=>?_⟩
  .have:=hos d ⟨1,k,v⟩ y hd;rw[I8,I8,J1];dsimp only;rw[za (show ¬((0:Int)=y/\y≠0) by omega)];simp only[hf,false_and,true_and,ul] at this;omega
  .rcases (xz hT hp rfl k' v').1 q with ⟨a,b⟩ | ⟨_,b⟩;·exact .inr ⟨a,b,hv⟩
   .exact .inl b
 .simp at h0
noncomputable def iU(x:Hp)(v:Int)(t:Tb)(old:Int):Hp:=aN (wT (F0 x v) t) old
theorem FU{x:Hp}(hx:L1 x){k v:Int}(hk:k∈lv x.S)(hv:v=0\/v∈lv x.S){r:Tb × Int × Int}(h:V3 x.T k v=some r)(h0:r.2.2=0):L1 (iU x v r.1 r.2.1):=by
 have wW:=I4 hx.sh.sr v (f:=Z8) λc=>E9;have l1:lv (F0 x v).S=lv x.S:=wW.lv;obtain⟨p1,p2,p3⟩:=OV hx.sh.hr h h0;refine sf hx (λa b=>⟨a.table p1 λk' v' q=>?_,b⟩) rfl (λ_ _=>rfl) (λj hj=>?_)
 .rw[l1];rcases p3 k' v' q with q | ⟨rfl,rfl,hne⟩
  .exact hx.sh.pr k' v' q
  .exact⟨hk,hv.resolve_left hne⟩
 .have hi2:kz (F0 x v).S j=kz x.S j:=wW.kz hx.sh.sr j;have hrest:F0 x v=wS x (F0 x v).S:=pB x v;unfold lY oz;dsimp only;rw[show (F0 x v).Roots=x.Roots by rw[hrest],show (F0 x v).Q=x.Q by rw[hrest],hi2];have:=p2 j;omega
instance(s:b6)(h:Int)(i:Nat):Decidable (U7 s h i):=by unfold U7;infer_instance
abbrev Zq(o:n0)(n:Int):n0:=⟨o.Serial,o.Strong,n,o.Prog,o.Started,o.Fields⟩
def lS(s:b6)(i:Nat)(d:Int):b6:=fY s i (Zq (ce s i).Val ((ce s i).Val.Weak+d))
def Ew(s:b6)(i:Nat):b6:=I3 s i (if (ce s i).Gen=s.S.Last then ⟨3,(ce s i).Gen,z0⟩ else ⟨0,(ce s i).Gen+1,z0⟩)
def cv(s:b6)(i:Nat):Int:=1+(i:Int)+32*(ce s i).Gen
theorem xp{s:b6}{i:Nat}(hi:i<s.S.b7.length)(ht:Th (ce s i)):U7 s (cv s i) i:=⟨hi,ht,rfl⟩
theorem tv{s:b6}(hR:SR s){i:Nat}(hi:i<s.S.b7.length):1<=cv s i:=by
 have:=hR.cell i hi;unfold cv;omega
section
variable{s:b6}(hR:SR s){i:Nat}(hi:i<s.S.b7.length)(ht:Th (ce s i))
include hR hi ht
theorem vp{d:Int}(hd:0<=(ce s i).Val.Weak+d):SR (lS s i d):=by
 have:=hR.ok i hi ht;exact hR.put hi ht rfl ⟨this.s1,this.s2,this.st,hd,this.p1,this.p2,this.fl⟩
theorem fk(d:Int)(j:Nat):ce (lS s i d) j=if j=i then ⟨(ce s i).State,(ce s i).Gen,Zq (ce s i).Val ((ce s i).Val.Weak+d)⟩ else ce s j:=mS hi _ j
theorem nj{d:Int}(hd:0<=(ce s i).Val.Weak+d):Kn s (lS s i d):=by
 have hS:=vp hR hi ht hd;refine⟨hS,K3 ..,Oa hR hi rfl hS,λk j=>xq hi _,λk hk=>?_⟩;have q:=o7 hR hk;rw[F7 hS ((yd hi _).2 q),F7 hR q,fk hR hi ht];split
 .rename_i e;rw[e];exact⟨_,_,rfl⟩
 .exact⟨_,_,rfl⟩
theorem nk{d:Int}(hd:0<=(ce s i).Val.Weak+d){k:Int}(hk:k∈lv s):(ob (lS s i d) k).Strong=(ob s k).Strong:=by
 have hS:=vp hR hi ht hd;have q:=o7 hR hk;rw[F7 hS ((yd hi _).2 q),F7 hR q,fk hR hi ht];split
 .rename_i e;rw[e]
 .rfl
omit ht in
theorem Da:SR (Ew s i):=by
 have hc:=hR.cell i hi;have no:KJ (oo z0):=⟨rfl,rfl,rfl,rfl,rfl,rfl⟩;unfold Ew;split;·exact hR.I3 hi ⟨by simp,by simp,hc.2.2.1,hc.2.2.2⟩ (λ_=>no) (λq=>absurd q (by unfold Th;simp))
 .refine hR.I3 hi ⟨by simp,by simp,?_,?_⟩ (λ_=>no) (λq=>absurd q (by unfold Th;simp));·show 0<=(ce s i).Gen+1;omega
  .show (ce s i).Gen+1<=s.S.Last;omega
omit hR ht in
theorem CX:∃c,(c.State=0\/c.State=3)/\Ew s i=I3 s i c/\∀j,ce (Ew s i) j=if j=i then c else ce s j:=by
 unfold Ew;split;·exact⟨_,.inr rfl,rfl,λj=>L4 hi _ j⟩
 .exact⟨_,.inl rfl,rfl,λj=>L4 hi _ j⟩
omit ht in
theorem CY (h2:(ce s i).State=2):lv (Ew s i)=lv s:=by
 obtain⟨c,c1,c2,_⟩:=CX (s:=s) hi;have hS:=Da hR hi;rw[c2] at hS |-;rw[JL hR hi (by omega) hS,zbo];intro h hh;rw[zG];intro e;have:=(o7 hR hh).2.1;rw[e] at this;omega
omit ht in
theorem CZ (h2:(ce s i).State=2) {k:Int} (hk:k∈lv s):ob (Ew s i) k=ob s k:=by
 obtain⟨c,c1,c2,_⟩:=CX (s:=s) hi;have hS:=Da hR hi;rw[c2] at hS |-;refine JW hR hi hS hk λe=>?_;have:=(o7 hR hk).2.1;rw[e] at this;omega
omit ht in
theorem VC {k:Int} {j:Nat}:U7 (Ew s i) k j↔U7 s k j/\j≠i:=by
 obtain⟨c,c1,c2,c3⟩:=CX (s:=s) hi;by_cases e:j=i
 .subst e;constructor
  .rintro⟨_,h,_⟩;rw[c3,zb rfl] at h;unfold Th at h;omega
  .rintro⟨_,h⟩;exact absurd rfl h
 .rw[c2,EL hi c e];simp[e]
theorem RJ(h2:(ce s i).State=2)(y:Int):kz (Ew s i) y=kz s y:=by
 unfold kz;rw[CY hR hi h2];congr 1;refine zq λx hx=>?_;unfold outs;rw[CZ hR hi h2 hx]
end
def iD(x:Hp)(h:Int)(d:Int):Hp:=if U7 x.S h (E0 h) then wS x (lS x.S (E0 h) d) else x
def pP(x:Hp)(h:Int):Hp:=
 if U7 x.S h (E0 h) then
  (if (ce x.S (E0 h)).State=2/\(ce x.S (E0 h)).Val.Weak=1 then wS x (Ew (lS x.S (E0 h) (-1)) (E0 h)) else wS x (lS x.S (E0 h) (-1)))
 else x
abbrev fR(h call:Int):j5:=⟨h,h != 0,call⟩
def mw(x:Hp)(w:Nat):Int:=(x.b7.getD w ⟨0,false,0⟩).Target
def cV(x:Hp)(w:Nat)(h call:Int):Hp:=pP (iD (wC x (x.b7.set w (fR h call))) h 1) (mw x w)
theorem JS{l:List j5}{w:Nat}(hw:w<l.length)(c:j5){k:Int}(hk:k≠0):jy (l.set w c) k+(if l[w].Target=k then 1 else 0)=jy l k+if c.Target=k then 1 else 0:=by
 unfold jy;rw[List.countP_set hw];have e:∀d:j5,(((k != 0)&&(d.Target==k))=true)=(d.Target=k):=λd=>by simp[hk]
 simp only[e];have:(if l[w].Target=k then 1 else 0)<=l.countP λc=>(k != 0)&&(c.Target==k):=by
  split
  .rename_i q;exact zbx.2 ⟨l[w],zh hw,by simp[q,hk]⟩
  .exact zX _
 omega
theorem tV{l:List j5}{i:Nat}(hi:i<l.length)(h0:l[i].Target≠0):0<jy l l[i].Target:=zbx.2 ⟨l[i],zh hi,by simp[h0]⟩
theorem wD{x:Hp}(hx:L1 x){w:Nat}(hw:w<6){h call:Int}(hh:h=0\/h∈lv x.S)(hc : -1<=call/\call<=5)(hq:wI x.Q w=false):L1 (cV x w h call):=by
 have hR:=hx.sh.sr;have hwl:w<x.b7.length:=by rw[hx.sh.c6];exact hw
 have htg:mw x w=x.b7[w].Target:=by
  unfold mw;rw[zd,zc hwl];rfl
 have s1:jt (wC x (x.b7.set w (fR h call))):=by
  have:=hx.sh;refine⟨this.sr,this.hr,this.r6,by simpa using this.c6,this.cap,this.q30,this.tk,this.td,this.rt,this.fl,this.pr,λi hi=>?_⟩;dsimp only at hi |-;rw[zcq];rw[zap] at hi;split
  .rename_i e;subst e;dsimp only;refine⟨hc.1,hc.2,λq=>by simp[q],λq=>?_,λq=>?_⟩;·exact⟨_,(o7 hR (hh.resolve_left q)).d⟩
   .have q:h≠0:=by simpa using q
    exact⟨hh.resolve_left q,hq⟩
  .exact this.cl i hi
 have k2:∃s2,iD (wC x (x.b7.set w (fR h call))) h 1=wS (wC x (x.b7.set w (fR h call))) s2/\Kn x.S s2/\(∀k∈lv x.S,(ob s2 k).Strong=(ob x.S k).Strong) /\
   ∀i,i<x.S.S.b7.length->(ce s2 i).State=(ce x.S i).State/\(ce s2 i).Gen=(ce x.S i).Gen/\(ce s2 i).Val.Fields=(ce x.S i).Val.Fields/\(ce s2 i).Val.Strong=(ce x.S i).Val.Strong/\(Th (ce x.S i)->(ce s2 i).Val.Weak=(ce x.S i).Val.Weak+if h=cv x.S i then 1 else 0):=by
  unfold iD;rcases hh with h0 | hh
  .have hno:¬U7 x.S h (E0 h):=λq=>by have:=q.Ma hR;omega
   rw[za hno];refine⟨x.S,rfl,(vY.refl hR).kn hR,λ_ _=>rfl,λi hi=>⟨rfl,rfl,rfl,rfl,λht=>?_⟩⟩;have:=tv hR hi;rw[za (by omega)];omega
  .have hp:=o7 hR hh;have hwk:=(hR.ok _ hp.1 (.inl hp.2.1)).wk;rw[zb hp.d];refine⟨_,rfl,nj hR hp.1 (.inl hp.2.1) (by omega),λk hk=>nk hR hp.1 (.inl hp.2.1) (by omega) hk,λi hi=>?_⟩;rw[fk hR hp.1 (.inl hp.2.1)];split
   .rename_i e;subst e;refine⟨rfl,rfl,rfl,rfl,λ_=>?_⟩;rw[zb (show h=cv x.S (E0 h) from hp.2.2)]
   .rename_i e;refine⟨rfl,rfl,rfl,rfl,λht=>?_⟩;rw[za];·omega
    .intro q;exact e (U7.one hR (q▸xp hi ht) hp.d)
 obtain⟨s2,e2,kn2,st2,ce2⟩:=k2;have hR2:=kn2.sr;have len2:=kn2.len;have hS2:jt (wS (wC x (x.b7.set w (fR h call))) s2):=s1.kn kn2;have hdl2:∀i,i<x.S.S.b7.length->cv s2 i=cv x.S i:=λi hi=>by unfold cv;rw[(ce2 i hi).2.1]
 have th2:∀i,i<x.S.S.b7.length->(Th (ce s2 i)↔Th (ce x.S i)):=λi hi=>by unfold Th;rw[(ce2 i hi).1]
 have wk2:∀i,i<x.S.S.b7.length->Th (ce x.S i)->(ce s2 i).Val.Weak=(jy (x.b7.set w (fR h call)) (cv x.S i):Int)+if mw x w=cv x.S i then 1 else 0:=λi hi ht=>by
  have h0:cv x.S i≠0:=by have:=tv hR hi;omega
  have:=JS hwl (fR h call) h0;rw[(ce2 i hi).2.2.2.2 ht,(hx.wk i hi ht).1,htg];dsimp only at this;unfold cv at this |-;by_cases a:h=1+(i:Int)+32*(ce x.S i).Gen <;> by_cases b:x.b7[w].Target=1+(i:Int)+32*(ce x.S i).Gen
  .rw[zb a,zb b] at *;omega
  .rw[zb a,za b] at *;omega
  .rw[za a,zb b] at *;omega
  .rw[za a,za b] at *;omega
 have dd2:∀i,i<x.S.S.b7.length->(ce s2 i).State=2->(ce s2 i).Val.Fields = []/\(ce s2 i).Val.Strong=0:=λi hi q=>by
  obtain⟨a,_,b,c,_⟩:=ce2 i hi;rw[a] at q;rw[b,c];exact ((hx.wk i hi (.inr q)).2 q).2
 have nms2:∀k,lY (wS (wC x (x.b7.set w (fR h call))) s2) k=lY x k:=λk=>by
  unfold lY oz;dsimp only;rw[kn2.kz]
 have fair2:aS (wS (wC x (x.b7.set w (fR h call))) s2) []:=hx.fair.mv kn2.lv st2 λk _=>by rw[nms2]
 unfold cV;rw[e2];unfold pP;dsimp only;by_cases hold:mw x w=0
 .have hno:¬U7 s2 (mw x w) (E0 (mw x w)):=λq=>by have:=q.Ma hR2;omega
  rw[za hno];refine⟨hS2,λi hi ht=>?_,fair2⟩;dsimp only at hi ht |-;rw[len2] at hi;have ht':=(th2 i hi).1 ht;have h0:=tv hR hi;have hw2:=wk2 i hi ht';rw[za (by omega)] at hw2;rw[show (1+(i:Int)+32*(ce s2 i).Gen)=cv x.S i from hdl2 i hi];refine⟨by omega,λq=>⟨?_,dd2 i hi q⟩⟩;have q':(ce x.S i).State=2:=by rw[<-(ce2 i hi).1];exact q
  have:=((hx.wk i hi ht').2 q').1;rw[(ce2 i hi).2.2.2.2 ht'];split <;> omega
 .obtain⟨p,hp⟩:∃p,U7 x.S (mw x w) p:=by
   rw[htg] at hold |-;exact (hx.sh.cl w hwl).2.2.2.1 hold
  have hpp:=hp.E0 hR;have hp2:U7 s2 (mw x w) p:=(kn2.ad _ _).2 hp;have hth:mw x w=cv x.S p:=hp.2.2;rw[hpp,zb hp2];have hpl2:=hp2.1;have hw2:=wk2 p hp.1 hp.2.1;rw[zb hth] at hw2;have hd:0<=(ce s2 p).Val.Weak+(-1):=by omega
  have kn3:=nj hR2 hpl2 hp2.2.1 hd;have hR3:=kn3.sr;have ce3:=fk hR2 hpl2 hp2.2.1 (-1);have hS3:jt (wS (wC x (x.b7.set w (fR h call))) (lS s2 p (-1))):=hS2.kn kn3;have fair3:aS (wS (wC x (x.b7.set w (fR h call))) (lS s2 p (-1))) []:=fair2.mv kn3.lv (λk hk=>nk hR2 hpl2 hp2.2.1 hd hk) λk _=>by
   unfold lY oz;dsimp only;rw[kn3.kz]
  have wk3:∀i,i<x.S.S.b7.length->Th (ce x.S i)->(ce (lS s2 p (-1)) i).Val.Weak=(jy (x.b7.set w (fR h call)) (cv x.S i):Int):=λi hi ht=>by
   rw[ce3];by_cases e:i=p
   .subst e;rw[zb rfl];dsimp only;omega
   .rw[za e,wk2 i hi ht,za];·omega
    .intro q;exact e (U7.one hR (q▸xp hi ht) hp)
  have cs3:∀i,(ce (lS s2 p (-1)) i).State=(ce s2 i).State/\(ce (lS s2 p (-1)) i).Gen=(ce s2 i).Gen/\(ce (lS s2 p (-1)) i).Val.Fields=(ce s2 i).Val.Fields/\(ce (lS s2 p (-1)) i).Val.Strong=(ce s2 i).Val.Strong:=λi=>by
   rw[ce3];split
   .rename_i e;subst e;exact⟨rfl,rfl,rfl,rfl⟩
   .exact⟨rfl,rfl,rfl,rfl⟩
  by_cases hg:(ce s2 p).State=2/\(ce s2 p).Val.Weak=1
  .-- the slot is given back
   rw[zb hg];have hpl3:p<(lS s2 p (-1)).S.b7.length:=by rw[kn3.len];exact hpl2
   have h23:(ce (lS s2 p (-1)) p).State=2:=by rw[(cs3 p).1];exact hg.1
   have hn0:jy (x.b7.set w (fR h call)) (mw x w)=0:=by rw[hth];omega
   have hlv:=CY hR3 hpl3 h23;have hob:=λk hk=>CZ (k:=k) hR3 hpl3 h23 hk;obtain⟨c,c1,c2,c3⟩:=CX (s:=lS s2 p (-1)) hpl3;refine⟨⟨Da hR3 hpl3,hS3.hr,hS3.r6,hS3.c6,hS3.cap,hS3.q30,λt htt=>?_,hS3.td,λv hv=>?_,λv hv u hu=>?_,λk v hkv=>?_,λi hi=>?_⟩,λi hi ht=>?_,?_⟩
   .obtain⟨a,b,d⟩:=hS3.tk t htt;refine⟨a,b,?_⟩;dsimp only at d |-;rw[hlv];rcases d with ⟨d1,d2,d3⟩ | d;·exact .inl ⟨d1,d2,by rw[hob _ d2];exact d3⟩
    .exact .inr d
   .dsimp only;rw[hlv];exact hS3.rt v hv
   .dsimp only at hv hu |-;rw[hlv] at hv |-;rw[hob _ hv] at hu;exact hS3.fl v hv u hu
   .dsimp only;rw[hlv];exact hS3.pr k v hkv
   .obtain⟨a1,a2,a3,a4,a5⟩:=hS3.cl i hi;refine⟨a1,a2,a3,λq=>?_,λq=>?_⟩
    .obtain⟨j,hj⟩:=a4 q;refine⟨j,(VC hR3 hpl3).2 ⟨hj,λe=>?_⟩⟩;subst e;have e1:=(kn2.ad _ _).1 ((kn3.ad _ _).1 hj);have e2:(x.b7.set w (fR h call))[i].Target=mw x w:=e1.2.2.trans hp.2.2.symm;have:=tV hi q;dsimp only at this;rw[e2] at this;omega
    .dsimp only;rw[hlv];exact a5 q
   .dsimp only at hi ht |-;rw[show (Ew (lS s2 p (-1)) p).S.b7.length=x.S.S.b7.length by rw[c2,W6,kn3.len,len2]] at hi;rw[c3] at ht |-;split at ht;·unfold Th at ht;omega
    .rename_i e;rw[za e];have ht':Th (ce x.S i):=(th2 i hi).1 (by unfold Th at ht |-;rw[(cs3 i).1] at ht;exact ht);have:=wk3 i hi ht';rw[show (1+(i:Int)+32*(ce (lS s2 p (-1)) i).Gen)=cv x.S i by rw[(cs3 i).2.1];exact hdl2 i hi];refine⟨this,λq=>?_⟩;rw[(cs3 i).1] at q;rw[(cs3 i).2.2.1,(cs3 i).2.2.2,ce3,za e];refine⟨?_,dd2 i hi q⟩;have q':(ce x.S i).State=2:=by rw[<-(ce2 i hi).1];exact q
     have:=((hx.wk i hi ht').2 q').1;rw[(ce2 i hi).2.2.2.2 ht'];split <;> omega
   .refine fair3.mv hlv (λk hk=>by rw[hob k hk]) λk _=>?_;unfold lY oz;dsimp only;rw[RJ hR3 hpl3 (.inr h23) h23]
  .rw[za hg];refine⟨hS3,λi hi ht=>?_,fair3⟩;dsimp only at hi ht |-;rw[kn3.len,len2] at hi;have ht':Th (ce x.S i):=(th2 i hi).1 (by unfold Th at ht |-;rw[(cs3 i).1] at ht;exact ht);have:=wk3 i hi ht';rw[show (1+(i:Int)+32*(ce (lS s2 p (-1)) i).Gen)=cv x.S i by rw[(cs3 i).2.1];exact hdl2 i hi];refine⟨this,λq=>?_⟩;rw[(cs3 i).1] at q;rw[(cs3 i).2.2.1,(cs3 i).2.2.2];refine⟨?_,dd2 i hi q⟩;rw[ce3];split
   .rename_i e;subst e;dsimp only;have:(ce s2 i).Val.Weak≠1:=λq2=>hg ⟨q,q2⟩;omega
   .have q':(ce x.S i).State=2:=by rw[<-(ce2 i hi).1];exact q
    have:=((hx.wk i hi ht').2 q').1;rw[(ce2 i hi).2.2.2.2 ht'];split <;> omega
def Zp(c:j5):D4:=⟨c.Target,c.Intact,c.Call⟩
def hO(x:Hp):P5:=⟨sO x.S,x.Roots,x.b7.map Zp,x.T.map eF,tqR x.Q⟩
structure HB (x:Hp):Prop where
 sb:SB x.S
 fb:FB x.S
 rb:LB x.Roots
 cb:∀c∈x.b7,c.Target<=9223372036854775807
 tb:TB x.T
 qb:∀t∈x.Q.L,t.At<=9223372036854775807
theorem XN{R:Type}{f:Int->Option (Int ⊕ (Bool ⊕ Unit))}{κ:Bool ⊕ Unit->Option R}{Q:R->Prop}(n:Nat)(p:Nat->Prop)(hn:n<4611686018427387904)
  (hs:∀k:Nat,k<n->∃z,f (k:Int)=some z/\((p k/\z = .inl ((k+1:Nat):Int))\/(¬p k/\z = .inr (.inl false))))(he:f (n:Int)=some (.inr (.inr ())))
  (h1:(∀k,k<n->p k)->∃r,κ (.inr ())=some r/\Q r)(h0:(¬∀k,k<n->p k)->∃r,κ (.inl false)=some r/\Q r):∃r,(lp f 0).bind κ=some r/\Q r:=by
 obtain⟨e,e1,e2⟩:=BS (f:=f) n (λk=>∀j,j<k->p j) (λe=>(e = .inr ()/\∀k,k<n->p k)\/(e = .inl false/\¬∀k,k<n->p k)) hn (λj hj=>by omega) (λk hk hP=>by
  obtain⟨z,z1,z2⟩:=hs k hk;rcases z2 with ⟨a,rfl⟩ | ⟨a,rfl⟩
  .refine .inl ⟨z1,λj hj=>?_⟩;rcases zE j k with q | q
   .exact hP j q
   .have:j=k:=by omega
    subst this;exact a
  .exact .inr ⟨_,z1,.inr ⟨rfl,λq=>a (q k hk)⟩⟩) (λhP=>⟨_,he,.inl ⟨rfl,hP⟩⟩)
 rw[e1];rcases e2 with ⟨rfl,h⟩ | ⟨rfl,h⟩;·exact h1 h
 .exact h0 h
section
variable{x:Hp}(hR:SR x.S)
include hR
theorem NS{h:Int}(hh:h<=9223372036854775807):kN x h=some (decide (h∈lv x.S)):=by
 unfold kN;obtain⟨e,h1,h2⟩:=gj (y8.2 hR) hh;rw[h1,a0q];congr 1;rw[za9,pu,zG,h2]
theorem N8{h:Int}(hh:h<=9223372036854775807):O3 x h=some (decide (h=0\/h∈lv x.S)):=by
 unfold O3;by_cases q:h=0
 .subst q;simp[D3]
 .have e:(h==0)=false:=by simpa using q
  rw[e];simp only[t8,fX,zca];rw[NS hR hh,a0q];simp[q]
theorem VM{c:Int}(hc:c<=9223372036854775807):pX c=some (Z8 c):=by
 unfold pX jI I9 Z8;simp only[a0q];by_cases q:12<=c
 .rw[zb (by simpa using q),zb q,a0q]
 .rw[za (by simpa using q),za q,a0q];by_cases q2:c<0
  .rw[zb (show 0 > c from q2),zb q2];rfl
  .rw[za (show ¬0 > c from q2),za q2,U2 (by omega) (by omega)]
omit hR in
theorem Pd {s:b6} (hR:SR s) {h:Int} (hh:h∈lv s) {n:Int} (hn:0<=n):T1 s h (Bp (ob s h) n)=some (dp s h (Bp (ob s h) n),0):=by
 have:=K9 hR hh;exact xF (o:=Bp (ob s h) n) hR hh rfl ⟨this.s1,this.s2,hn,this.wk,this.p1,this.p2,this.fl⟩
theorem mj{h:Int}(hh:h<=9223372036854775807)(hB:∀k∈lv x.S,(ob x.S k).Strong<=9223372036854775807):bR x h=some (F0 x h):=by
 unfold bR Z6 F0 uA;obtain⟨e,h1,h2⟩:=gj (y8.2 hR) hh;rw[h1,a0q];by_cases q:h∈lv x.S
 .have e0:=h2.2 q;subst e0;rw[zb q,VM hR (hB h q)];simp only[t8,zY,a0q];have:=Pd hR q (E9 (K9 hR q).st);rw[this];rfl
 .have:(e==0)=false:=by simpa using λc=>q (h2.1 c)
  rw[this,za q];rfl
omit hR in
theorem Vl (c:Int) (h1 : -1000000<=c):eZ c=some (lu c):=by
 unfold eZ uY gi I9 lu;simp only[a0q];by_cases q:12<=c
 .rw[zb (by simpa using q),zb q];rfl
 .rw[za (by simpa using q),za q];by_cases q2:c<1
  .rw[zb (by simpa using q2),zb q2];rfl
  .rw[za (by simpa using q2),za q2,U2 (by omega) (by omega)];rfl
theorem gw{h:Int}(hh:h<=9223372036854775807):E4 x h=some (aN x h):=by
 unfold E4 Q5 aN uA;obtain⟨e,h1,h2⟩:=gj (y8.2 hR) hh;rw[h1,a0q];by_cases q:h∈lv x.S
 .have e0:=h2.2 q;subst e0;have ok:=K9 hR q;rw[zb q,Vl _ (by have:=ok.st;dsimp only;omega)];simp only[t8,zY,a0q];have:=Pd hR q (Q1 ok.st);rw[this];rfl
 .have:(e==0)=false:=by simpa using λc=>q (h2.1 c)
  rw[this,za q];rfl
end
theorem Mn{x:Hp}(hR:SR x.S)(hB:SB x.S):∀k∈lv x.S,(ob x.S k).Strong<=9223372036854775807:=λk hk=>(Cm (y8.2 hR) hB hk).2
theorem uu(x:Hp)(h:Int):(F0 x h).Roots=x.Roots/\(F0 x h).b7=x.b7/\(F0 x h).T=x.T/\(F0 x h).Q=x.Q:=by
 rw[pB];exact⟨rfl,rfl,rfl,rfl⟩
theorem ka{x:Hp}(hR:SR x.S)(h:Int):SR (F0 x h).S:=(I4 hR h λc=>E9).sr
section
variable{x:Hp}(hx:L1 x)(hS:∀k∈lv x.S,(ob x.S k).Strong<=9223372036854775807)
include hx hS
theorem tJ{h:Int}(hh:h=0\/h∈lv x.S):h<=9223372036854775807:=by
 rcases hh with q | q
 .omega
 .have:=H5 hx.sh.sr q;omega
theorem Kp(k:Int){h:Int}(hh:h<=9223372036854775807):cC x k h=some (if k<0\/5<k then (x,6) else if h=0\/h∈lv x.S then (G8 x k.toNat h,0) else (x,3)):=by
 have hR:=hx.sh.sr;have r6:=hx.sh.r6;unfold cC;by_cases hk:k<0\/5<k
 .rw[zb hk,zb (by rw[r6];simp;omega)]
 .rw[za hk,za (by rw[r6];simp;omega),N8 hR hh,a0q];by_cases hn:h=0\/h∈lv x.S
  .rw[zb hn,zC hn,za (by simp)];obtain⟨n,rfl⟩:∃n:Nat,k=n:=⟨k.toNat,by omega⟩;have hn6:n<6:=by omega
   have hnl:n<x.Roots.length:=by omega
   have old:x.Roots[n]<=9223372036854775807:=tJ hx hS (hx.sh.rt _ (zh hnl));have e1:=uu x h;have hn2:n<(F0 x h).Roots.length:=by rw[e1.1];exact hnl
   rw[s7 hnl,a0q];unfold H2 T6 y9;rw[mj hR hh hS,a0q];dsimp only;rw[dI (by omega) (by rw[e1.1];omega),a0q,s7 hn2,a0q,a0q];have hrel:=gw (x:=wR (F0 x h) (x.Roots.set n h)) (ka hR h) old;rw[zP,e1.1,show E4 ⟨(F0 x h).S,x.Roots.set n h,(F0 x h).b7,(F0 x h).T,(F0 x h).Q⟩ x.Roots[n]=_ from hrel];unfold G8;rw[zd,zc hnl];rfl
  .rw[za hn,zQ hn,zb (by simp)]
omit hx hS in
theorem Zs {l:List Int} {n:Nat} (hn:n<l.length):iO l n=some (l[n],0)/\DH l n=some (l[n],0):=by
 constructor
 .unfold iO gP;rw[a0q,za (by simp;omega),s7 hn,a0q]
 .unfold DH;rw[za (by simp;omega),s7 hn,a0q]
omit hx hS in
theorem Je {l:List Int} {k:Int} (hk:¬(0<=k/\k<l.length)):iO l k=some (0,5)/\DH l k=some (0,5):=by
 constructor
 .unfold iO gP;rw[a0q,zb (by simp;omega)]
 .unfold DH;rw[zb (by simp;omega)]
theorem wc(h k:Int)(hh:h<=9223372036854775807):(∃e,e≠0/\K4 x.S h k=some (0,e)/\True) \/
  (h∈lv x.S/\∃n:Nat,k=n/\∃hn:n<(ob x.S h).Fields.length,K4 x.S h k=some ((ob x.S h).Fields[n],0)/\True):=by
 have hR:=hx.sh.sr;obtain⟨e,h1,h2⟩:=gj (y8.2 hR) hh;unfold K4;rw[h1,a0q];by_cases q:h∈lv x.S
 .have:=h2.2 q;subst this;rw[za (by simp)];by_cases hk:0<=k/\k<(ob x.S h).Fields.length
  .right;obtain⟨n,rfl⟩:∃n:Nat,k=n:=⟨k.toNat,by omega⟩;have hn:n<(ob x.S h).Fields.length:=by omega
   refine⟨q,n,rfl,hn,?_,?_⟩
   .rw[(Zs hn).1];rfl
   .trivial
  .left;refine⟨5,by decide,?_,?_⟩
   .rw[(Je hk).1];rfl
   .trivial
 .left;have he:(e != 0)=true:=by simpa using λc=>q (h2.1 c)
  refine⟨e,by simpa using he,?_,?_⟩;·simp only[he,zY]
  .trivial
theorem Pa{s:b6}(hR:SR s){h:Int}(hh:h∈lv s){n:Nat}(hn:n<(ob s h).Fields.length)(v:Int) :
  qq s h n v=some (dp s h (rF (ob s h) ((ob s h).Fields.set n v)),0)/\True:=by
 have ok:=K9 hR hh;have hf:=ok.fl;have hle:=H5 hR hh;have ho:AR s (rF (ob s h) ((ob s h).Fields.set n v)):=⟨ok.s1,ok.s2,ok.st,ok.wk,ok.p1,ok.p2,by simpa using hf⟩;have h1:=xF (o:=rF (ob s h) ((ob s h).Fields.set n v)) hR hh rfl ho;constructor
 .unfold qq;rw[vl (y8.2 hR) hh,a0q,za (by simp)];unfold mC gP;dsimp only;rw[a0q,za (by simp;omega),kU (by omega) (by omega),a0q];have e:xv (List.replicate (ob s h).Fields.length (0:Int)) (ob s h).Fields=some (ob s h).Fields:=by
   unfold xv;rw[zb (by simp)];simp
  rw[e,a0q,s7 hn,a0q,a0q,za (by simp),zP];dsimp only;rw[show T1 s h ⟨(ob s h).Serial,(ob s h).Strong,(ob s h).Weak,(ob s h).Prog,(ob s h).Started,(ob s h).Fields.set n v⟩=_ from h1];rfl
 .trivial
theorem ym(h k v:Int)(hh:h<=9223372036854775807)(hv:v<=9223372036854775807) :
  (∃e,e≠0/\aH x h k v=some (x,e)/\True) \/
  (h∈lv x.S/\(v=0\/v∈lv x.S)/\∃n:Nat,k=n/\n<(ob x.S h).Fields.length/\aH x h k v=some (bQ x h n v,0)/\True):=by
 have hR:=hx.sh.sr;unfold aH;rcases wc hx hS h k hh with ⟨e,he,f1,f2⟩ | ⟨hl,n,rfl,hn,f1,f2⟩
 .left;have he':(e != 0)=true:=by simpa using he
  refine⟨e,he,?_,?_⟩;·rw[f1,a0q,zb he']
  .trivial
 .rw[f1,a0q,za (by simp),N8 hR hv,a0q];by_cases hn2:v=0\/v∈lv x.S
  .right;refine⟨hl,hn2,n,rfl,hn,?_⟩;rw[zC hn2,za (by simp)];have wW:=I4 hR v (f:=Z8) λc=>E9;have hR1:SR (F0 x v).S:=wW.sr;have hl1:h∈lv (F0 x v).S:=by rw[show lv (F0 x v).S=lv x.S from wW.lv];exact hl
   have hof:(ob (F0 x v).S h).Fields=(ob x.S h).Fields:=by
    obtain⟨m,e⟩:=wW.ob h hh;show (ob (uA x v Z8).S h).Fields=_;rw[e]
   have hn1:n<(ob (F0 x v).S h).Fields.length:=by rw[hof];exact hn
   have old:(ob x.S h).Fields[n]<=9223372036854775807:=tJ hx hS (hx.sh.fl h hl _ (zh hn));have ok:=K9 hR1 hl1;have sr2:SR (dp (F0 x v).S h (rF (ob (F0 x v).S h) ((ob (F0 x v).S h).Fields.set n v))):=bZ (o:=rF (ob (F0 x v).S h) ((ob (F0 x v).S h).Fields.set n v)) hR1 hl1 rfl ⟨ok.s1,ok.s2,ok.st,ok.wk,ok.p1,ok.p2,by simpa using ok.fl⟩;obtain⟨p1,p2⟩:=Pa hx hS hR1 hl1 hn1 v;have hd:(ob x.S h).Fields.getD n 0=(ob x.S h).Fields[n]:=by
    rw[zd,zc hn];rfl
   constructor
   .unfold G5 da;rw[mj hR hv hS,a0q];dsimp only;rw[p1,a0q,a0q];have hrel:=gw (x:=wS (F0 x v) (dp (F0 x v).S h (rF (ob (F0 x v).S h) ((ob (F0 x v).S h).Fields.set n v)))) sr2 old;rw[show E4 ⟨dp (F0 x v).S h (rF (ob (F0 x v).S h) ((ob (F0 x v).S h).Fields.set n v)),(F0 x v).Roots,(F0 x v).b7,(F0 x v).T,(F0 x v).Q⟩ (ob x.S h).Fields[n]=_ from hrel];unfold bQ;rw[hd,hof];rfl
   .trivial
  .left;refine⟨3,by decide,?_,?_⟩;·rw[zQ hn2,zb (by simp)]
   .trivial
theorem SG(k v:Int)(hk:k<=9223372036854775807)(hv:v<=9223372036854775807) :
  (∃e,e≠0/\cy x k v=some (x,e)/\True) \/
  (k∈lv x.S/\(v=0\/v∈lv x.S)/\∃r,V3 x.T k v=some r/\r.2.2=0/\cy x k v=some (iU x v r.1 r.2.1,0)/\True):=by
 have hR:=hx.sh.sr;unfold cy;by_cases k0:k=0
 .left;subst k0;exact⟨2,by decide,by simp,trivial⟩
 .rw[za (by simpa using k0),N8 hR hk,a0q,N8 hR hv];have hkk:(k=0\/k∈lv x.S)↔k∈lv x.S:=by simp[k0]
  by_cases hl:k∈lv x.S/\(v=0\/v∈lv x.S)
  .obtain⟨hl,hn⟩:=hl;rw[zC (hkk.2 hl),zC hn];simp only[zbf,t8,fX,a0q,zcu,zA,ul];obtain⟨r,r1,r2,r3,r5⟩:=dZ hx.sh.hr k v;rw[r1,a0q];by_cases h0:r.2.2=0
   .right;refine⟨hl,hn,r,rfl,h0,?_⟩;have e1:(r.2.2 != 0)=false:=by simpa using h0
    have old:r.2.1<=9223372036854775807:=by
     rcases r5 with ⟨_,rfl⟩ | ⟨_,_,⟨i,hi,rfl⟩ | ⟨_,rfl⟩⟩ | ⟨_,_,⟨i,hi,rfl⟩ | ⟨d,_,_,_,_,rfl⟩ | ⟨_,_,rfl⟩⟩;·simp
     .exact tJ hx hS (.inr (hx.sh.pr k _ ⟨i,hi,rfl⟩).2)
     .simp
     .exact tJ hx hS (.inr (hx.sh.pr k _ ⟨i,hi,rfl⟩).2)
     .simp
     .simp
    constructor
    .rw[e1];simp only[zA,ul];unfold E2 aI;rw[mj hR hv hS,a0q,a0q];dsimp only;have hrel:=gw (x:=wT (F0 x v) r.1) (ka hR v) old;rw[show E4 ⟨(F0 x v).S,(F0 x v).Roots,(F0 x v).b7,r.1,(F0 x v).Q⟩ r.2.1=_ from hrel];rfl
    .trivial
   .left;have e1:(r.2.2 != 0)=true:=by simpa using h0
    refine⟨r.2.2,h0,by rw[zb e1],trivial⟩
  .left;refine⟨3,by decide,?_,?_⟩
   .by_cases hl2:k∈lv x.S
    .have:¬(v=0\/v∈lv x.S):=λq=>hl ⟨hl2,q⟩;rw[zC (hkk.2 hl2),zQ this];rfl
    .rw[zQ λq=>hl2 (hkk.1 q)];rfl
   .trivial
end
theorem Jz{s:b6}(hR:SR s){h:Int}{i:Nat}(q:U7 s h i):Q8 s.S h=some ((Ew s i).S,0):=by
 have hi:=q.1;have hc:=hR.cell i hi;have l9:=hR.l9;unfold Q8 Ew;rw[xr hR q,a0q,za (by simp),JF hi,a0q];by_cases g:(ce s i).Gen=s.S.Last
 .rw[zb (by simpa using g),zb g,mF rfl hi hR.len];rfl
 .rw[za (by simpa using g),za g,mF rfl hi hR.len,U2 (by omega) (by omega)];rfl
section
variable{x:Hp}(hR:SR x.S)
include hR
theorem BU{h d:Int}(hh:h<=9223372036854775807)(hw:U7 x.S h (E0 h) -> -1000<=(ce x.S (E0 h)).Val.Weak+d/\(ce x.S (E0 h)).Val.Weak+d<=1000):ay x h d=some (iD x h d):=by
 unfold ay iD;by_cases q:U7 x.S h (E0 h)
 .have:=hw q;rw[zb q,xr hR q,a0q];simp only[t8,zY];rw[JF q.1,a0q,U2 (by omega) (by omega),PB hR q,a0q];rfl
 .have hno:∀i,¬U7 x.S h i:=λi hi=>q (by rw[hi.E0 hR];exact hi);rw[za q,yb hR hh hno,a0q];have:((if h=0 then 2 else 3:Int)==0)=false:=by simpa using oT h
  simp only[this,zA,ul]
theorem GB{h:Int}(hh:h<=9223372036854775807)(hw:U7 x.S h (E0 h)->1<=(ce x.S (E0 h)).Val.Weak/\(ce x.S (E0 h)).Val.Weak<=1000):bc x h=some (pP x h):=by
 unfold bc;rw[BU hR hh (λq=>by have:=hw q;omega),a0q];unfold iD pP;by_cases q:U7 x.S h (E0 h)
 .have hw:=hw q;rw[zb q,zb q];have Xy:=vp hR q.1 q.2.1 (d:=-1) (by omega);have q1:U7 (lS x.S (E0 h) (-1)) h (E0 h):=(xq q.1 _).2 q;dsimp only;rw[xr Xy q1,a0q,za (by simp),JF q1.1,a0q,fk hR q.1 q.2.1,zb rfl];dsimp only;by_cases c:(ce x.S (E0 h)).State=2/\(ce x.S (E0 h)).Val.Weak=1
  .rw[zb c,zb (by simp[c.1,c.2]),Jz Xy q1,a0q];rfl
  .rw[za c,za (by simp only[zy,pu];omega)]
 .have hno:∀i,¬U7 x.S h i:=λi hi=>q (by rw[hi.E0 hR];exact hi);rw[za q,za q,yb hR hh hno,a0q];have:((if h=0 then 2 else 3:Int) != 0)=true:=by simpa using oT h
  simp only[this,zY]
end
theorem GJ{l:List j5}(hl:l.length<=1000){n:Nat}(hn:n<l.length)(h call:Int):kg l n h call=some (l.set n (fR h call),l[n].Target,0):=by
 unfold kg kh ck;simp only[a0q];rw[za (by simp;omega),kU (by omega) (by omega),a0q];have e:xv (List.replicate l.length (⟨0,false,0⟩:j5)) l=some l:=by
  unfold xv;rw[zb (by simp)];simp
 rw[e,a0q,a0q,s7 hn,a0q,a0q,zP]
theorem Ox(l:List j5)(h:Int):jy l h<=l.length:=zcj
theorem En{x:Hp}(hx:L1 x)(k h call:Int)(hh:h<=9223372036854775807)(hc : -1<=call/\call<=5) :
  (∃e,e≠0/\S9 x k h call=some (x,e)/\True) \/
  ((h=0\/h∈lv x.S)/\∃n:Nat,k=n/\n<6/\wI x.Q n=false/\S9 x k h call=some (cV x n h call,0)/\True):=by
 have hR:=hx.sh.sr;have c6:=hx.sh.c6;have q30:=hx.sh.q30;unfold S9;by_cases hk:k<0\/5<k
 .left;have e1:((decide (k<0))||(decide (k>=(x.b7.length:Int))))=true:=by rw[c6];simp;omega
  refine⟨7,by decide,?_,?_⟩;·rw[e1];rfl
  .trivial
 .obtain⟨n,rfl⟩:∃n:Nat,k=n:=⟨k.toNat,by omega⟩;have hn6:n<6:=by omega
  have e1:((decide ((n:Int)<0))||(decide ((n:Int)>=(x.b7.length:Int))))=false:=by rw[c6];simp;omega
  rw[e1];simp only[t8,fX,zca];have hwq:aQ x.Q n=some (wI x.Q n):=xI (by omega);rw[hwq,a0q,N8 hR hh,a0q];by_cases hw:wI x.Q n=true
  .left;rw[zb hw];exact⟨7,by decide,rfl,trivial⟩
  .have hw:wI x.Q n=false:=by simpa using hw
   rw[hw,za (show ¬(false=true) by decide)];by_cases hl:h=0\/h∈lv x.S
   .right;refine⟨hl,n,rfl,hn6,hw,?_⟩;have hnl:n<x.b7.length:=by omega
    rw[zC hl,za (by simp),GJ (by omega) hnl,a0q];have htg:mw x n=x.b7[n].Target:=by
     unfold mw;rw[zd,zc hnl];rfl
    have wkb:∀i,i<x.S.S.b7.length->Th (ce x.S i)->0<=(ce x.S i).Val.Weak/\(ce x.S i).Val.Weak<=6:=λi hi ht=>by
     have:=(hx.wk i hi ht).1;have:=Ox x.b7 (1+(i:Int)+32*(ce x.S i).Gen);omega
    have mk1:∃s2,iD (wC x (x.b7.set n (fR h call))) h 1=wS (wC x (x.b7.set n (fR h call))) s2/\SR s2/\(∀k i,U7 s2 k i↔U7 x.S k i)/\(∀i,i<x.S.S.b7.length->Th (ce x.S i)->(ce x.S i).Val.Weak<=(ce s2 i).Val.Weak/\(ce s2 i).Val.Weak<=(ce x.S i).Val.Weak+1) /\
      (h≠0->True)/\(h=0->s2=x.S):=by
     unfold iD;by_cases h0:h=0
     .have hno:¬U7 x.S h (E0 h):=λq=>by have:=q.Ma hR;omega
      rw[za hno];exact⟨x.S,rfl,hR,λ_ _=>Iff.rfl,λi _ _=>by omega,λq=>absurd h0 q,λ_=>rfl⟩
     .have hll:=hl.resolve_left h0;have hp:=o7 hR hll;have hb:=wkb _ hp.1 (.inl hp.2.1);rw[zb hp.d];have kn:=nj hR hp.1 (.inl hp.2.1) (d:=1) (by omega);refine⟨_,rfl,kn.sr,kn.ad,λi hi ht=>?_,λ_=>trivial,λq=>absurd q h0⟩;rw[fk hR hp.1 (.inl hp.2.1)];split;·rename_i e;subst e;dsimp only;omega
      .omega
    obtain⟨s2,m1,m2,m3,m4,m5,m6⟩:=mk1;have hold:mw x n<=9223372036854775807:=by
     by_cases q:mw x n=0
     .omega
     .obtain⟨p,hp⟩:=(hx.sh.cl n hnl).2.2.2.1 (by rw[<-htg];exact q);have:=hp.Ma hR;rw[htg];omega
    have hun:U7 s2 (mw x n) (E0 (mw x n))->1<=(ce s2 (E0 (mw x n))).Val.Weak/\(ce s2 (E0 (mw x n))).Val.Weak<=1000:=λq=>by
     have q':=(m3 _ _).1 q;have r:=q'.Ma hR;have:=(hx.wk _ q'.1 q'.2.1).1;have hp:0<jy x.b7 x.b7[n].Target:=tV hnl (by rw[<-htg];omega);rw[<-htg,q'.2.2] at hp;have:=m4 _ q'.1 q'.2.1;have:=wkb _ q'.1 q'.2.1;omega
    have u1:=GB (x:=wS (wC x (x.b7.set n (fR h call))) s2) m2 hold hun;have hwb:U7 x.S h (E0 h) -> -1000<=(ce x.S (E0 h)).Val.Weak+1/\(ce x.S (E0 h)).Val.Weak+1<=1000:=λq=>by
     have:=wkb _ q.1 q.2.1;omega
    have mm:=BU (x:=wC x (x.b7.set n (fR h call))) (d:=1) hR hh hwb;constructor
    .dsimp only;rw[show ay ⟨x.S,x.Roots,x.b7.set n (fR h call),x.T,x.Q⟩ h 1=_ from mm,a0q,m1,<-htg,u1,a0q];unfold cV;rw[m1]
    .trivial
   .left;rw[zQ hl];exact⟨3,by decide,by rw[zb (by rfl)],trivial⟩
theorem at1{l:List Int}{n:Nat}(hn:n<l.length):iO l n=some (l[n],0):=by
 unfold iO gP;rw[a0q,za (by simp;omega),s7 hn,a0q]
section
variable{x:Hp}(hx:L1 x)(hS:∀k∈lv x.S,(ob x.S k).Strong<=9223372036854775807)
include hx hS
end
theorem Jx{α:Type}{l:List α}{i:Nat}(h:i<l.length)(d:α):l.getD i d=l[i]:=by
 rw[zd,zc h];rfl
def TkS(a b:g6):Prop:=a.Kind=b.Kind/\a.At=b.At
instance(a b:g6):Decidable (TkS a b):=by unfold TkS;infer_instance
section
variable{x:Hp}(hR:SR x.S)
include hR
omit hR in
theorem LI (l:List j5) (hl:l.length<=1000) (h:Int):eN l h=some (jy l h:Int):=by
 unfold eN U4 gQ;simp only[jn,a0q];have key:∃e,lp (S:=Int × (List Int)) (E:=(List Int)) (λ((s17,s18):Int × (List Int))=>
   if (decide (s17<(l.length:Int))) then
     (ix l s17).bind λv26=>
     if ((h != 0)&&(v26.Target==h)) then
      (app 8 s18 [s17]).bind λv28=>
      some (.inl (w9 (s17+1),v28))
     else
     some (.inl (w9 (s17+1),s18))
   else
   some (.inr s18)) (0,[])=some e/\e.length=jy l h:=by
  refine iC l.length (λk (acc:List Int)=>acc.length=jy (l.take k) h) (λ(e:List Int)=>e.length=jy l h) (by omega) rfl (λk acc hk hP=>?_) (λacc hP=>⟨acc,by simp,by rwa [zW] at hP⟩);left;have hle:acc.length<=k:=by
   rw[hP];exact zO (Ox _ _) (by simp;omega)
  have hst:jy (l.take (k+1)) h=jy (l.take k) h+if ((h != 0)&&(l[k].Target==h))=true then 1 else 0:=by
   unfold jy;rw[zt hk,List.countP_append,List.countP_cons,List.countP_nil];omega
  simp only[we,hk,wt,zY,s7 hk,a0q];rw[o0];by_cases c:((h != 0)&&(l[k].Target==h))=true
  .rw[zb c,J3 (by omega) (by simp;omega),a0q];exact⟨_,rfl,by rw[hst,zb c];simp[hP]⟩
  .rw[za c];exact⟨_,rfl,by rw[hst,za c];simpa using hP⟩
 obtain⟨e,e1,e2⟩:=key;rw[show lp _ _=_ from e1,a0q,a0q,e2]
omit hR in
theorem Nr:TL x.S x.T (oz x)↔aS x []:=by
 constructor
 .intro h k hk hlt;have:=h k hk hlt;unfold Md inr at this;rw[zb hk] at this;rw[J1];unfold lY;omega
 .intro h k hk hlt;have:=h k hk hlt;rw[J1] at this;unfold lY at this;unfold Md inr;rw[zb hk];omega
end
section
variable{x:Hp}(hx:L1 x)(hB:HB x)
include hx hB
end
def SL(x:Hp):Prop:=∀k∈lv x.S,(ob x.S k).Strong<=9223372036854775807
theorem SB.sl{x:Hp}(hR:SR x.S)(h:SB x.S):SL x:=λk hk=>Mn hR h k hk
theorem Ya{x:Hp}(hx:L1 x)(hS:SL x):HB x:=by
 have hR:=hx.sh.sr;have bd:∀v,v=0\/v∈lv x.S->v<=9223372036854775807:=λv q=>by
  rcases q with q | q
  .omega
  .have:=H5 hR q;omega
 refine⟨YM.2 λi hi=>?_,XS.2 λi hi v hv=>?_,λv hv=>bd v (hx.sh.rt v hv),λc hc=>?_,λp hp=>?_,λt ht=>?_⟩
 .by_cases t:Th (ce x.S i)
  .rcases t with t | t
   .have q:At x.S (1+(i:Int)+32*(ce x.S i).Gen) i:=⟨hi,t,rfl⟩;have:=hS _ ((fU hR).2 ⟨i,q⟩);rwa [F7 hR q] at this
   .have:=((hx.wk i hi (.inr t)).2 t).2.2;omega
  .have:=(hR.no i hi t).2.1;simp only[oo] at this;omega
 .by_cases t:Th (ce x.S i)
  .rcases t with t | t
   .have q:At x.S (1+(i:Int)+32*(ce x.S i).Gen) i:=⟨hi,t,rfl⟩;have hm:=(fU hR).2 ⟨i,q⟩;exact bd v (hx.sh.fl _ hm v (by rw[F7 hR q];exact hv))
   .rw[((hx.wk i hi (.inr t)).2 t).2.1] at hv;cases hv
  .have:=(hR.no i hi t).2.2.2.2.2;simp only[oo] at this;rw[zT this] at hv;cases hv
 .obtain⟨i,hi,rfl⟩:=ww hc;by_cases e:x.b7[i].Target=0
  .omega
  .obtain⟨p,hp⟩:=(hx.sh.cl i hi).2.2.2.1 e;have:=hp.Ma hR;omega
 .obtain⟨i,hi,rfl⟩:=ww hp;have e:pt x.T i=x.T[i]:=by
   unfold pt;rw[zd,zc hi];rfl
  by_cases s1:(pt x.T i).State=1
  .obtain⟨a,b⟩:=hx.sh.pr (pt x.T i).Key (pt x.T i).Val ⟨i,⟨hi,s1,rfl⟩,rfl⟩;rw[e] at a b;exact⟨bd _ (.inr a),bd _ (.inr b)⟩
  .obtain⟨a,b⟩:=(hx.sh.hr.st i hi).2 s1;rw[e] at a b;omega
 .obtain⟨_,_,q | q⟩:=hx.sh.tk t ht;·exact bd _ (.inr q.2.1)
  .omega
theorem YO{s:b6}(hR:SR s):Sm s:=by
 refine⟨by have:=hR.len;omega,λi hi=>?_⟩;by_cases t:Th (ce s i)
 .have:=(hR.ok i hi t).fl;rw[N2 hi] at this;omega
 .have:=(hR.no i hi t).2.2.2.2.2;simp only[oo] at this;rw[N2 hi] at this;omega
theorem RP(c:Int):Z8 c<=12:=by unfold Z8;split <;> (try split) <;> omega
theorem RA{c:Int}(h:c<=9223372036854775807):lu c<=9223372036854775807:=by unfold lu;split <;> (try split) <;> omega
theorem SL.of{x y:Hp}(h:SL x)(hl:lv y.S=lv x.S)(hs:∀k∈lv x.S,(ob y.S k).Strong=(ob x.S k).Strong):SL y:=λk hk=>by
 rw[hl] at hk;rw[hs k hk];exact h k hk
theorem SL.st{x:Hp}(h:SL x)(hR:SR x.S)(v:Int){f:Int->Int}(hf:∀c,0<=c->0<=f c)(hb:∀c,c<=9223372036854775807->f c<=9223372036854775807):SL (uA x v f):=λk hk=>by
 rw[(I4 hR v hf).lv] at hk;rw[vP hR v hf hk];split;·exact hb _ (h k hk)
 .exact h k hk
theorem SL.F0{x:Hp}(h:SL x)(hR:SR x.S)(v:Int):SL (F0 x v):=h.st hR v (λc=>E9) λc _=>by have:=RP c;omega
theorem SL.Qi{x:Hp}(h:SL x)(hR:SR x.S)(v:Int):SL (aN x v):=h.st hR v (λc=>Q1) λc hc=>RA hc
theorem Pn{x:Hp}(hR:SR x.S)(v:Int):SR (aN x v).S:=(I4 hR v λc=>Q1).sr
theorem pz{x:Hp}(hR:SR x.S)(h:SL x)(r:Nat)(v:Int):SL (G8 x r v):=by
 unfold G8;exact SL.Qi (x:=wR (F0 x v) (x.Roots.set r v)) (h.F0 hR v) (ka hR v) _
theorem Lm{x:Hp}(hR:SR x.S)(hS:SL x){h:Int}(hh:h∈lv x.S)(k:Nat)(v:Int):SL (bQ x h k v):=by
 have wW:=I4 hR v (f:=Z8) λc=>E9;have hR1:SR (F0 x v).S:=wW.sr;have hl1:h∈lv (F0 x v).S:=by rw[show lv (F0 x v).S=lv x.S from wW.lv];exact hh
 have hof:(ob (F0 x v).S h).Fields=(ob x.S h).Fields:=by
  obtain⟨m,e⟩:=wW.ob h (by have:=H5 hR hh;omega);show (ob (uA x v Z8).S h).Fields=_;rw[e]
 have ok:=K9 hR1 hl1;have ho:AR (F0 x v).S (rF (ob (F0 x v).S h) ((ob x.S h).Fields.set k v)):=⟨ok.s1,ok.s2,ok.st,ok.wk,ok.p1,ok.p2,by have:=ok.fl;rw[hof] at this;simpa using this⟩;have sr2:=bZ (o:=rF (ob (F0 x v).S h) ((ob x.S h).Fields.set k v)) hR1 hl1 rfl ho;unfold bQ;refine SL.Qi (x:=wS (F0 x v) (dp (F0 x v).S h (rF (ob (F0 x v).S h) ((ob x.S h).Fields.set k v)))) ?_ sr2 _;refine (hS.F0 hR v).of (iN hR1 hl1 rfl ho) λj hj=>?_;dsimp only;rw[gx (o:=rF (ob (F0 x v).S h) ((ob x.S h).Fields.set k v)) hR1 hl1 rfl ho (by have:=H5 hR1 hj;omega)];split;·rename_i e;rw[e]
 .rfl
theorem OS{x:Hp}(hR:SR x.S)(hS:SL x)(v:Int)(t:Tb)(old:Int):SL (iU x v t old):=by
 unfold iU;exact SL.Qi (x:=wT (F0 x v) t) (hS.F0 hR v) (ka hR v) _
theorem Wd{x:Hp}(hR:SR x.S)(hS:SL x)(h:Int){d:Int}(hd:U7 x.S h (E0 h)->0<=(ce x.S (E0 h)).Val.Weak+d):SL (iD x h d):=by
 unfold iD;split
 .rename_i q;exact hS.of (nj hR q.1 q.2.1 (hd q)).lv λk hk=>nk hR q.1 q.2.1 (hd q) hk
 .exact hS
theorem KE{x:Hp}(hR:SR x.S)(hS:SL x)(h:Int)(hd:U7 x.S h (E0 h)->1<=(ce x.S (E0 h)).Val.Weak):SL (pP x h):=by
 unfold pP;split
 .rename_i q;have hd:=hd q;have kn:=nj (d:=-1) hR q.1 q.2.1 (by omega);have s1:SL (wS x (lS x.S (E0 h) (-1))):=hS.of kn.lv λk hk=>nk hR q.1 q.2.1 (by omega) hk;split
  .rename_i c;have hi1:E0 h<(lS x.S (E0 h) (-1)).S.b7.length:=by rw[kn.len];exact q.1
   have hce:ce (lS x.S (E0 h) (-1)) (E0 h)=⟨(ce x.S (E0 h)).State,(ce x.S (E0 h)).Gen,Zq (ce x.S (E0 h)).Val ((ce x.S (E0 h)).Val.Weak + -1)⟩:=by
    rw[fk hR q.1 q.2.1,zb rfl]
   have h2:(ce (lS x.S (E0 h) (-1)) (E0 h)).State=2:=by rw[hce];exact c.1
   exact s1.of (CY kn.sr hi1 h2) λk hk=>by
    dsimp only;rw[CZ kn.sr hi1 h2 hk]
  .exact s1
 .exact hS
theorem GH{x:Hp}(hx:L1 x)(hS:SL x){n:Nat}(hn:n<6)(h call:Int):SL (cV x n h call):=by
 have hR:=hx.sh.sr;have hnl:n<x.b7.length:=by have:=hx.sh.c6;omega
 have ok:∀k i,U7 x.S k i->0<=(ce x.S i).Val.Weak:=λk i q=>(hR.ok i q.1 q.2.1).wk;have tw:∀i,U7 x.S (mw x n) i->1<=(ce x.S i).Val.Weak:=λi q=>by
  have htg:mw x n=x.b7[n].Target:=by
   unfold mw;rw[zd,zc hnl];rfl
  have r:=q.Ma hR;have p:=tV hnl (by rw[<-htg];omega);rw[<-htg,q.2.2] at p;have:=(hx.wk i q.1 q.2.1).1;omega
 unfold cV;have s1:SL (iD (wC x (x.b7.set n (fR h call))) h 1):=Wd (x:=wC x (x.b7.set n (fR h call))) hR hS h λq=>by
  have:=ok _ _ q;dsimp only;omega
 by_cases q:U7 x.S h (E0 h)
 .have e:iD (wC x (x.b7.set n (fR h call))) h 1=wS (wC x (x.b7.set n (fR h call))) (lS x.S (E0 h) 1):=by
   unfold iD;rw[zb q]
  have hd:=ok _ _ q;have kn:=nj (d:=1) hR q.1 q.2.1 (by omega);rw[e] at s1 |-;refine KE kn.sr s1 _ λq2=>?_;dsimp only at q2 |-;have q3:=(kn.ad _ _).1 q2;have:=tw _ q3;rw[fk hR q.1 q.2.1];split
  .rename_i e2;rw[e2] at this;show 1<=(ce x.S (E0 h)).Val.Weak+1;omega
  .exact this
 .have e:iD (wC x (x.b7.set n (fR h call))) h 1=wC x (x.b7.set n (fR h call)):=by
   unfold iD;rw[za q]
  rw[e] at s1 |-;exact KE (x:=wC x (x.b7.set n (fR h call))) hR s1 _ λq2=>tw _ q2
section
variable{x:Hp}(hx:L1 x)(hS:SL x)
include hx hS
end
def EB(x:Hp):Prop:=Sm x.S/\x.Roots.length<=20/\x.b7.length<=20/\x.T.length<=20/\x.Q.L.length<=60
instance(x:Hp):Decidable (EB x):=by unfold EB;infer_instance
theorem jt.ZI{x:Hp}(h:jt x):EB x:=by
 have h1:=h.r6;have h2:=h.c6;have h3:=h.hr.l8;have h4:=h.q30;exact⟨YO h.sr,by omega,by omega,by omega,by omega⟩
def RN:Hp:=⟨⟨⟨[],0⟩,0⟩,[],[],[],⟨[],0⟩⟩
theorem Aw(x:Hp)(h:Int)(f:Int->Int):(uA x h f).Roots=x.Roots/\(uA x h f).b7=x.b7/\(uA x h f).T=x.T/\(uA x h f).Q=x.Q:=by
 unfold uA;split <;> exact⟨rfl,rfl,rfl,rfl⟩
theorem jZ(x:Hp)(r:Nat)(h:Int):(G8 x r h).Roots=x.Roots.set r h/\(G8 x r h).b7=x.b7/\(G8 x r h).T=x.T/\(G8 x r h).Q=x.Q:=by
 obtain⟨a,b,c,d⟩:=Aw (wR (F0 x h) (x.Roots.set r h)) (x.Roots.getD r 0) lu;obtain⟨a',b',c',d'⟩:=Aw x h Z8;exact⟨a,b.trans b',c.trans c',d.trans d'⟩
section
variable{x:Hp}(hB:HB x)
include hB
end
abbrev Li(o:n0):n0:=⟨o.Serial,0,o.Weak,o.Prog,o.Started,[]⟩
def GM(s:b6)(i:Nat):c8:=
 if (ce s i).Val.Weak=0 then (if (ce s i).Gen=s.S.Last then ⟨3,(ce s i).Gen,z0⟩ else ⟨0,(ce s i).Gen+1,z0⟩) else ⟨2,(ce s i).Gen,Li (ce s i).Val⟩
def wU(s:b6)(d:Int):b6:=I3 s (E0 d) (GM s (E0 d))
def oG(s:b6)(ds:List Int):b6:=ds.foldl wU s
theorem Vz(s:b6)(i:Nat):(GM s i).State≠1:=by
 unfold GM;split;·split <;> simp
 .simp
theorem HQ{s:b6}(hR:SR s){a b:Int}(ha:a∈lv s)(hb:b∈lv s)(h:a≠b):E0 a≠E0 b:=λe=>by
 have h1:=o7 hR ha;have h2:=o7 hR hb;rw[e] at h1;exact h (h1.2.2.trans h2.2.2.symm)
section
variable{s:b6}(hR:SR s){d:Int}(hd:d∈lv s)
include hR hd
theorem CW:SR (wU s d):=by
 have q:=o7 hR hd;have hc:=hR.cell _ q.1;have ho:=hR.ok _ q.1 (.inl q.2.1);have no:KJ (oo z0):=⟨rfl,rfl,rfl,rfl,rfl,rfl⟩;unfold wU GM;split
 .split;·exact hR.I3 q.1 ⟨by simp,by simp,hc.2.2.1,hc.2.2.2⟩ (λ_=>no) (λq=>absurd q (by unfold Th;simp))
  .refine hR.I3 q.1 ⟨by simp,by simp,?_,?_⟩ (λ_=>no) (λq=>absurd q (by unfold Th;simp));·show 0<=(ce s (E0 d)).Gen+1;omega
   .show (ce s (E0 d)).Gen+1<=s.S.Last;omega
 .exact hR.I3 q.1 ⟨by simp,by simp,hc.2.2.1,hc.2.2.2⟩ (λq=>absurd (.inr rfl) q) (λ_=>⟨⟨ho.s1,ho.s2,zae _,ho.wk,ho.p1,ho.p2,zX _⟩,.inl q.2.1,rfl⟩)
theorem NI(j:Nat):ce (wU s d) j=if j=E0 d then GM s (E0 d) else ce s j:=L4 (o7 hR hd).1 _ j
theorem NJ:lv (wU s d)=(lv s).filter λh=>decide (h≠d):=by
 have hS:=CW hR hd;unfold wU at hS |-;have hc:=Vz s (E0 d);rw[JL hR (o7 hR hd).1 hc hS];refine pm λh hh=>zbd.2 ⟨λq e=>q (by rw[e]),λq=>HQ hR hh hd q⟩
theorem NK{k:Int}(hk:k∈lv s)(hne:k≠d):ob (wU s d) k=ob s k:=by
 have hS:=CW hR hd;unfold wU at hS |-;exact JW hR (o7 hR hd).1 hS hk (HQ hR hk hd hne)
end
structure Gn (s s':b6) (ds:List Int):Prop where
 sr:SR s'
 len:s'.S.b7.length=s.S.b7.length
 last:s'.S.Last=s.S.Last
 aR:s'.Serial=s.Serial
 lv:lv s'=(lv s).filter λh=>decide (h∉ds)
 ob:∀k∈Sh.lv s,k∉ds->ob s' k=ob s k
 ce:∀j,ce s' j=if j∈ds.map E0 then GM s j else ce s j
theorem eX:∀(ds:List Int) {s:b6} (hR:SR s),ds.Nodup->(∀d∈ds,d∈lv s)->Gn s (oG s ds) ds
 | [],s,hR,_,_=>⟨hR,rfl,rfl,rfl,(zbo.2 (λa _=>by simp)).symm,λ_ _ _=>rfl,λj=>by simp[oG]⟩
 | d::ds,s,hR,hn,hm=>by
  rw[me] at hn;have hd:=hm d (zg ..);have hlv:=NJ hR hd;have hm':∀e∈ds,e∈lv (wU s d):=λe he=>by
   rw[hlv,zk,zG];exact⟨hm e (zn _ he),λq=>hn.1 (q▸he)⟩
  have ih:=eX ds (CW hR hd) hn.2 hm';refine⟨ih.sr,ih.len.trans (W6 ..),ih.last,ih.aR,?_,λk hk hne=>?_,λj=>?_⟩
  .show lv (oG (wU s d) ds)=_;rw[ih.lv,hlv,zan];refine pm λh hh=>?_;rw[za9];simp only[zy,zG,zM,not_or];exact⟨λq=>⟨q.2,q.1⟩,λq=>⟨q.2,q.1⟩⟩
  .show ob (oG (wU s d) ds) k=_;rw[zM,not_or] at hne;rw[ih.ob k (by rw[hlv,zk,zG];exact⟨hk,hne.1⟩) hne.2,NK hR hd hk hne.1]
  .show ce (oG (wU s d) ds) j=_;have hg:∀e∈ds,E0 e≠E0 d:=λe he=>HQ hR (hm e (zn _ he)) hd λq=>hn.1 (q▸he);rw[ih.ce];by_cases h1:j∈ds.map E0
   .obtain⟨e,he,rfl⟩:=zw.1 h1;rw[zb h1,zb (by rw[zU];exact zn _ h1)];unfold GM;rw[NI hR hd,za (hg e he)];rfl
   .rw[za h1,NI hR hd,zU];by_cases h2:j=E0 d
    .subst h2;rw[zb rfl,zb (zg ..)]
    .rw[za h2,za];rw[zM];exact λq=>q.elim h2 h1
theorem Cn{α:Type}(p:α->Bool)(f:α->Nat):∀l:List α,(l.map f).sum=((l.filter p).map f).sum+((l.filter λx => !p x).map f).sum
 | []=>rfl
 | x::l=>by
  rw[zU,zbg,Cn p f l,or,or];cases p x <;> simp <;> omega
theorem Gz(f:Int->List Int)(y:Int):∀l:List Int,T3 (l.flatMap f) y=(l.map λx=>T3 (f x) y).sum
 | []=>J1 y
 | x::l=>by rw[zbj,G4,Gz f y l,zU,zbg]
theorem Gn.kz{s s':b6}{ds:List Int}(hR:SR s)(hn:ds.Nodup)(hm:∀d∈ds,d∈Sh.lv s)(g:Gn s s' ds)(y:Int):kz s' y+T3 (ds.flatMap (outs s)) y=kz s y:=by
 unfold Sh.kz;rw[g.lv,Cn (λh=>decide (h∉ds)) (λx=>T3 (outs s x) y) (Sh.lv s),Gz];have h1:((Sh.lv s).filter λh=>decide (h∉ds)).map (λx=>T3 (outs s' x) y)=((Sh.lv s).filter λh=>decide (h∉ds)).map λx=>T3 (outs s x) y:=zq λx hx=>by
  rw[zk,zG] at hx;unfold Sh.outs;rw[g.ob x hx.1 hx.2]
 have h2:((Sh.lv s).filter λx => !decide (x∉ds)).Perm ds:=by
  rw[List.perm_ext_iff_of_nodup ((tK (y8.2 hR)).filter _) hn];intro a;rw[zk];simp only[decide_not,Bool.not_not,zG];exact⟨λq=>q.2,λq=>⟨hm a q,q⟩⟩
 rw[h1,(h2.map λx=>T3 (outs s x) y).sum_nat]
theorem FP{L:List g6}(hd:L.Pairwise λa b=>¬(a.Kind=b.Kind/\a.At=b.At))(k:Int):((L.filter (·.Kind==k)).map (·.At)).Nodup:=by
 unfold List.Nodup;rw[zbn];refine (hd.filter _).imp_of_mem λ{a b} ha hb h e=>?_;rw[zk,pu] at ha hb;exact h ⟨ha.2.trans hb.2.symm,e⟩
theorem AB{L:List g6}{m:List Int}(hd:L.Pairwise λa b=>¬(a.Kind=b.Kind/\a.At=b.At))(h:∀t∈L,(t.Kind=1/\t.At∈m)\/(t.Kind=2/\0<=t.At/\t.At<=5)):L.length<=m.length+6:=by
 have h1:L.length=(L.filter (·.Kind==1)).length+(L.filter (·.Kind==2)).length:=by
  rw[sW (λt:g6=>t.Kind==1) L];congr 2;refine pm λt ht=>?_;rcases h t ht with q | q
  .simp[q.1]
  .simp[q.1]
 have h2:=ae (FP hd 1) (m:=m) λa ha=>by
  obtain⟨t,ht,rfl⟩:=zw.1 ha;rw[zk,pu] at ht;rcases h t ht.1 with q | q
  .exact q.2
  .omega
 have h3:=ae (FP hd 2) (m:=[0,1,2,3,4,5]) λa ha=>by
  obtain⟨t,ht,rfl⟩:=zw.1 ha;rw[zk,pu] at ht;rcases h t ht.1 with q | q
  .omega
  .simp only[zM,zcm,or_false];omega
 rw[zl] at h2 h3;simp only[zH,zag] at h3;omega
theorem gR{q:TQ}{w:Int}:wI q w=true↔∃t∈q.L,t.Kind=2/\t.At=w:=by
 unfold wI;rw[List.any_eq_true];simp
theorem lR{q:TQ}{h:Int}:h∈pc q↔∃t∈q.L,t.Kind=1/\t.At=h:=by
 unfold pc;rw[zw];simp only[zk,pu];exact⟨λ⟨t,⟨a,b⟩,c⟩=>⟨t,a,b,c⟩,λ⟨t,a,b,c⟩=>⟨t,⟨a,b⟩,c⟩⟩
abbrev cz:j5:=⟨0,false,0⟩
def jO(ds:List Int)(c:j5):Bool:=c.Intact&&c.Target != 0&&decide (c.Target∈ds)
def ru(ds:List Int)(c:j5):j5:=if jO ds c then ⟨c.Target,false,c.Call⟩ else c
def nT(l:List j5)(ds:List Int):List j5:=l.map (ru ds)
def cls(l:List j5)(ds:List Int):List Nat:=(List.range l.length).filter λw=>jO ds (l.getD w cz)&&decide (0<=(l.getD w cz).Call)
def kl(l:List j5)(ds:List Int):List g6:=(cls l ds).map λ(w:Nat)=>⟨2,(w:Int),(l.getD w cz).Call⟩
theorem uW(ds:List Int)(c:j5):(ru ds c).Target=c.Target/\(ru ds c).Call=c.Call/\((ru ds c).Intact=true↔c.Intact=true/\jO ds c=false):=by
 unfold ru;cases h:jO ds c
 .rw[za (by simp)];simp
 .rw[zb rfl];simp
theorem Du(l:List j5)(ds:List Int)(h:Int):jy (nT l ds) h=jy l h:=by
 unfold jy nT;rw[List.countP_map];congr 1;funext c
 simp only[Function.comp_apply,(uW ds c).1]
theorem gJ{l:List j5}{ds:List Int}{t:g6}:t∈kl l ds↔∃w,∃hw:w<l.length,t=⟨2,(w:Int),l[w].Call⟩/\jO ds l[w]=true/\0<=l[w].Call:=by
 unfold kl cls;rw[zw];constructor
 .rintro⟨w,hw,rfl⟩;rw[zk,za7] at hw;obtain⟨h1,h2⟩:=hw;have e:l.getD w cz=l[w]:=by rw[zd,zc h1];rfl
  rw[e] at h2 |-;rw[zy,zG] at h2;exact⟨w,h1,rfl,h2.1,h2.2⟩
 .rintro⟨w,hw,rfl,h2,h3⟩;have e:l.getD w cz=l[w]:=by rw[zd,zc hw];rfl
  refine⟨w,?_,by rw[e]⟩;rw[zk,za7,e,zy,zG];exact⟨hw,h2,h3⟩
theorem BC(l:List j5)(ds:List Int):(kl l ds).Pairwise λa b=>¬(a.Kind=b.Kind/\a.At=b.At):=by
 unfold kl cls;rw[zbn];refine (zb6 _ (List.nodup_range (n:=l.length))).imp λ{a b} h=>?_;rintro⟨_,e⟩;dsimp only at e;omega
def jG(x:Hp)(ds:List Int)(t:Tb):Hp:=⟨oG x.S ds,x.Roots,nT x.b7 ds,t,⟨x.Q.L++kl x.b7 ds,x.Q.Cap⟩⟩
theorem yC(q:TQ)(l:List g6)(c:Int)(h:∀t∈l,t.Kind≠1):pc ⟨q.L++l,c⟩=pc q:=by
 unfold pc;dsimp only;rw[zbc];have:l.filter (λt=>t.Kind==1) = []:=by
  rw[List.filter_eq_nil_iff];intro t ht;simpa using h t ht
 rw[this,zat]
theorem Lc{x:Hp}(hx:L1 x){ds:List Int}(hn:ds.Nodup)(hm:∀d∈ds,d∈lv x.S)
  (ho:∀d∈ds,d∉oz x)(hf:∀h∈lv x.S,h∉ds->∀v∈(ob x.S h).Fields,v∉ds)(hp:∀k v,Has x.T k v->k∉ds->v∉ds)
  {t:Tb}{vals:List Int}(ht:HR t)(h1:∀k v,Has t k v↔k∉ds/\Has x.T k v)(h2:∀y,own t y+T3 vals y=own x.T y) :
  jt (jG x ds t)/\Wk (jG x ds t)/\aS (jG x ds t) (ds.flatMap (outs x.S)++vals):=by
 have hS:=hx.sh;have hR:=hS.sr;have g:=eX ds hR hn hm;have hlv:∀h,h∈lv (oG x.S ds)↔h∈lv x.S/\h∉ds:=λh=>by rw[g.lv,zk,zG]
 have hlen:(lv x.S).length<=24:=K8 (y8.2 hR);have hcl:∀w (hw:w<x.b7.length),jO ds x.b7[w]=true->x.b7[w].Intact=true:=λw hw q=>by
  unfold jO at q;rw[zy,zy] at q;exact q.1.1
 have htd:(x.Q.L++kl x.b7 ds).Pairwise λa b=>¬(a.Kind=b.Kind/\a.At=b.At):=by
  rw[zar];refine⟨hS.td,BC ..,λa ha b hb q=>?_⟩;obtain⟨w,hw,rfl,hh,_⟩:=gJ.1 hb;have:=((hS.cl w hw).2.2.2.2 (hcl w hw hh)).2;rw[zbm] at this;exact this (gR.2 ⟨a,ha,q.1,q.2⟩)
 have htk:∀t∈x.Q.L++kl x.b7 ds,0<=t.Prog/\t.Prog<=5/\((t.Kind=1/\t.At∈lv (oG x.S ds)/\(ob (oG x.S ds) t.At).Started=true)\/(t.Kind=2/\0<=t.At/\t.At<=5)):=λt htt=>by
  rcases zu.1 htt with q | q
  .obtain⟨a,b,c⟩:=hS.tk t q;refine⟨a,b,?_⟩;rcases c with ⟨c1,c2,c3⟩ | c
   .have hnd:t.At∉ds:=λhd=>ho _ hd (zu.2 (.inr (lR.2 ⟨t,q,c1,rfl⟩)));exact .inl ⟨c1,(hlv _).2 ⟨c2,hnd⟩,by rw[g.ob _ c2 hnd];exact c3⟩
   .exact .inr c
  .obtain⟨w,hw,rfl,hh,hc⟩:=gJ.1 q;have c6:=hS.c6;have:=(hS.cl w hw).2.1;exact⟨hc,this,.inr ⟨rfl,by dsimp only;omega,by dsimp only;omega⟩⟩
 have hq30:(x.Q.L++kl x.b7 ds).length<=30:=by
  have:=AB (m:=lv x.S) htd λt htt=>by
   rcases (htk t htt).2.2 with q | q
   .exact .inl ⟨q.1,((hlv _).1 q.2.1).1⟩
   .exact .inr q
  omega
 have hwts:∀i:Nat,wI x.Q i=false->(∀hi:i<x.b7.length,jO ds x.b7[i]=false)->wI ⟨x.Q.L++kl x.b7 ds,x.Q.Cap⟩ i=false:=λi q1 q2=>by
  rw[zbm] at q1 |-;intro q;obtain⟨t,ht,a,b⟩:=gR.1 q;rcases zu.1 ht with c | c
  .exact q1 (gR.2 ⟨t,c,a,b⟩)
  .obtain⟨w,hw,rfl,hh,_⟩:=gJ.1 c;dsimp only at b;have:w=i:=by omega
   subst this;rw[q2 hw] at hh;cases hh
 refine⟨⟨g.sr,ht,hS.r6,?_,hS.cap,hq30,htk,htd,λh hh=>?_,λh hh v hv=>?_,λk v hkv=>?_,λi hi=>?_⟩,λi hi hti=>?_,λh hh hlt=>?_⟩
 .unfold jG nT;rw[zl];exact hS.c6
 .rcases hS.rt h hh with q | q
  .exact .inl q
  .have h0:h≠0:=λe=>ff hR (e▸q);exact .inr ((hlv h).2 ⟨q,λhd=>ho h hd (zu.2 (.inl (gr.2 ⟨hh,h0⟩)))⟩)
 .obtain⟨a,b⟩:=(hlv h).1 hh;have hv':v∈(ob x.S h).Fields:=by
   have e:=g.ob h a b;unfold jG at hv;rwa [e] at hv
  rcases hS.fl h a v hv' with q | q
  .exact .inl q
  .exact .inr ((hlv v).2 ⟨q,hf h a b v hv'⟩)
 .obtain⟨a,b⟩:=(h1 k v).1 hkv;obtain⟨c,d⟩:=hS.pr k v b;exact⟨(hlv k).2 ⟨c,a⟩,(hlv v).2 ⟨d,hp k v b a⟩⟩
 .have hi':i<x.b7.length:=by
   unfold jG nT at hi;simpa using hi
  have e:(jG x ds t).b7[i]=ru ds x.b7[i]:=ut _;obtain⟨a1,a2,a3,a4,a5⟩:=hS.cl i hi';obtain⟨b1,b2,b3⟩:=uW ds x.b7[i];rw[e,b1,b2];refine⟨a1,a2,λq=>?_,λq=>?_,λq=>?_⟩
  .rw[zbm];intro q2;rw[a3 q] at b3;exact absurd (b3.1 q2).1 (by decide)
  .obtain⟨p,hp1,hp2,hp3⟩:=a4 q;refine⟨p,by show p<(oG x.S ds).S.b7.length;rw[g.len];exact hp1,?_⟩;show Th (ce (oG x.S ds) p)/\_=1+(p:Int)+32*(ce (oG x.S ds) p).Gen;rw[g.ce];split
   .have hw:=(hx.wk p hp1 hp2).1;have:=tV hi' q;rw[hp3] at this;unfold GM;rw[za (by omega)];exact⟨.inr rfl,hp3⟩
   .exact⟨hp2,hp3⟩
  .obtain⟨c1,c2⟩:=b3.1 q;obtain⟨d1,d2⟩:=a5 c1;have h0:x.b7[i].Target≠0:=λe=>ff hR (e▸d1);refine⟨(hlv _).2 ⟨d1,λhd=>?_⟩,hwts i d2 λ_=>c2⟩;have:jO ds x.b7[i]=true:=by
    unfold jO;simp[c1,h0,hd]
   rw[this] at c2;cases c2
 .have hi':i<x.S.S.b7.length:=by
   have:=g.len;have hi:i<(oG x.S ds).S.b7.length:=hi;omega
  show (ce (oG x.S ds) i).Val.Weak=(jy (nT x.b7 ds) (1+(i:Int)+32*(ce (oG x.S ds) i).Gen):Int)/\((ce (oG x.S ds) i).State=2->_);have hti':Th (ce (oG x.S ds) i):=hti;show _/\((ce (oG x.S ds) i).State=2->1<=(ce (oG x.S ds) i).Val.Weak/\(ce (oG x.S ds) i).Val.Fields = []/\(ce (oG x.S ds) i).Val.Strong=0);rw[Du];rw[g.ce] at hti' |-;split
  .rename_i q;rw[zb q] at hti';obtain⟨d,hd,rfl⟩:=zw.1 q;have hp:=o7 hR (hm d hd);have hw:=(hx.wk _ hi' (.inl hp.2.1)).1;unfold GM at hti' |-;split at hti'
   .exfalso;unfold Th at hti';split at hti' <;> simp at hti'
   .rename_i q2;rw[za q2];have:=(hR.ok _ hi' (.inl hp.2.1)).wk;exact⟨hw,λ_=>⟨by dsimp only;omega,rfl,rfl⟩⟩
  .rename_i q;rw[za q] at hti';exact hx.wk i hi' hti'
 .obtain⟨a,b⟩:=(hlv h).1 hh;have e:=g.ob h a b;have e':ob (jG x ds t).S h=ob x.S h:=e;rw[e'] at hlt |-;have hf:=hx.fair h a hlt;rw[J1] at hf;rw[hf];have i1:=g.kz hR hn hm h;have i2:=h2 h;have i3:pc ⟨x.Q.L++kl x.b7 ds,x.Q.Cap⟩=pc x.Q:=yC _ _ _ λt ht=>by
   obtain⟨w,_,rfl,_⟩:=gJ.1 ht;simp
  unfold lY oz jG;dsimp only;rw[i3,G4 (ds.flatMap (outs x.S)),G4];omega
theorem Ai:∀(l:List Int) {x:Hp},jt x->Wk x->aS x l->L1 (l.foldl aN x)
 | [],x,h1,h2,h3=>⟨h1,h2,h3⟩
 | v::l,x,h1,h2,h3=>Ai l (h1.st v λc=>Q1) (h2.st h1.sr v λc=>Q1) (um h1.sr h3)
abbrev fN(o:n0):n0:=⟨o.Serial,o.Strong,o.Weak,o.Prog,true,o.Fields⟩
abbrev AU(x:Hp)(h:Int):g6:=⟨1,h,(ob x.S h).Prog⟩
noncomputable def gN(x:Hp)(h:Int):Hp:=F0 ⟨dp x.S h (fN (ob x.S h)),x.Roots,x.b7,x.T,⟨x.Q.L ++ [AU x h],x.Q.Cap⟩⟩ h
theorem vH{x:Hp}(hx:L1 x){h:Int}(hh:h∈lv x.S)(hp:0<=(ob x.S h).Prog)(hs:(ob x.S h).Started=false):L1 (gN x h):=by
 have hS:=hx.sh;have hR:=hS.sr;have oko:=K9 hR hh;have ho:AR x.S (fN (ob x.S h)):=⟨oko.s1,oko.s2,oko.st,oko.wk,oko.p1,oko.p2,oko.fl⟩;have r1:=bZ (o:=fN (ob x.S h)) hR hh rfl ho;have l1:=iN (o:=fN (ob x.S h)) hR hh rfl ho;have o1:∀j,j∈lv x.S->ob (dp x.S h (fN (ob x.S h))) j=if j=h then fN (ob x.S h) else ob x.S j:=λj hj=>by
  have:=H5 hR hj;exact gx (o:=fN (ob x.S h)) hR hh rfl ho (by omega)
 have hlen:(lv x.S).length<=24:=K8 (y8.2 hR);have s1:jt (wS x (dp x.S h (fN (ob x.S h)))):=hS.of r1 l1 (λk i q=>(DY (o:=fN (ob x.S h)) hR hh rfl ho).2 q) (λk hk q=>by
  rw[o1 k hk];split;·rfl
  .exact q) λk hk v hv=>by
  rw[o1 k hk] at hv;split at hv;·rename_i e;subst e;exact hS.fl k hk v hv
  .exact hS.fl k hk v hv
 have w1:Wk (wS x (dp x.S h (fN (ob x.S h)))):=λi hi ht=>by
  have eF:=o7 hR hh;have hc:=Aq (o:=fN (ob x.S h)) hR hh rfl ho i;dsimp only at hi ht |-;rw[hc] at ht |-;have hi':i<x.S.S.b7.length:=by unfold dp at hi;rwa [K3] at hi
  split at ht
  .rename_i e;subst e;rw[zb rfl];dsimp only;have:=hx.wk _ hi' (.inl eF.2.1);rw[F7 hR eF];exact⟨this.1,λq=>absurd q (by rw[eF.2.1];decide)⟩
  .rename_i e;rw[za e];exact hx.wk i hi' ht
 have htd:(x.Q.L ++ [AU x h]).Pairwise λa b=>¬(a.Kind=b.Kind/\a.At=b.At):=by
  rw[zar];refine⟨hS.td,by simp,λa ha b hb q=>?_⟩;rw[zp] at hb;subst hb;dsimp only at q;rcases (hS.tk a ha).2.2 with c | c
  .rw[q.2,hs] at c;exact absurd c.2.2 (by decide)
  .omega
 have htk:∀t∈x.Q.L ++ [AU x h],0<=t.Prog/\t.Prog<=5/\((t.Kind=1/\t.At∈lv (dp x.S h (fN (ob x.S h)))/\(ob (dp x.S h (fN (ob x.S h))) t.At).Started=true)\/(t.Kind=2/\0<=t.At/\t.At<=5)):=λt ht=>by
  rcases zu.1 ht with q | q
  .exact s1.tk t q
  .rw[zp] at q;subst q;refine⟨hp,oko.p2,.inl ⟨rfl,by rw[l1];exact hh,?_⟩⟩;dsimp only;rw[o1 h hh,zb rfl]
 have hq30:(x.Q.L ++ [AU x h]).length<=30:=by
  have:=AB (m:=lv x.S) htd λt ht=>by
   rcases (htk t ht).2.2 with q | q
   .exact .inl ⟨q.1,by rw[<-l1];exact q.2.1⟩
   .exact .inr q
  omega
 have s2:jt ⟨dp x.S h (fN (ob x.S h)),x.Roots,x.b7,x.T,⟨x.Q.L ++ [AU x h],x.Q.Cap⟩⟩:=by
  refine⟨s1.sr,s1.hr,s1.r6,s1.c6,s1.cap,hq30,htk,htd,s1.rt,s1.fl,s1.pr,λi hi=>?_⟩;obtain⟨a,b,c,d,e⟩:=s1.cl i hi;refine⟨a,b,c,d,λq=>⟨(e q).1,?_⟩⟩;have:=(e q).2;rw[zbm] at this |-;intro q2;obtain⟨t,ht,k1,k2⟩:=gR.1 q2;rcases zu.1 ht with q3 | q3
  .exact this (gR.2 ⟨t,q3,k1,k2⟩)
  .rw[zp] at q3;subst q3;dsimp only at k1;omega
 have w2:Wk ⟨dp x.S h (fN (ob x.S h)),x.Roots,x.b7,x.T,⟨x.Q.L ++ [AU x h],x.Q.Cap⟩⟩:=w1;refine⟨s2.st h λc=>E9,w2.st s2.sr h λc=>E9,λk hk hlt=>?_⟩;have hk':k∈lv x.S:=by
  have:lv (gN x h).S=lv x.S:=(I4 s2.sr h λc=>E9).lv.trans l1;rw[<-this];exact hk
 have hst:(ob (gN x h).S k).Strong=if k=h then Z8 (ob x.S k).Strong else (ob x.S k).Strong:=by
  have:=vP (x:=⟨dp x.S h (fN (ob x.S h)),x.Roots,x.b7,x.T,⟨x.Q.L ++ [AU x h],x.Q.Cap⟩⟩) s2.sr h (f:=Z8) (λc=>E9) (k:=k) (by rw[<-l1] at hk';exact hk');refine zcv this ?_;dsimp only;rw[o1 k hk'];by_cases e:k=h
  .subst e;rw[zb rfl,zb rfl,zb rfl]
  .rw[za e,za e,za e]
 have hnm:lY (gN x h) k=lY x k+if k=h then 1 else 0:=by
  have:=xH (x:=⟨dp x.S h (fN (ob x.S h)),x.Roots,x.b7,x.T,⟨x.Q.L ++ [AU x h],x.Q.Cap⟩⟩) s2.sr h (f:=Z8) (λc=>E9) k;refine zcv this ?_;have hi:=JD (o:=fN (ob x.S h)) hR hh rfl ho k;dsimp only at hi;have h0:k≠0:=λe=>ff hR (e▸hk');unfold lY oz pc;dsimp only;rw[zbc,q9,G4,G4,G4];have:T3 (List.map (·.At) (List.filter (λt:g6=>t.Kind==1) [AU x h])) k=if k=h then 1 else 0:=by
   show T3 [h] k=_;rw[I8,J1];by_cases e:k=h
   .rw[zb ⟨e.symm,h0⟩,zb e]
   .rw[za (λq=>e q.1.symm),za e]
  rw[this];omega
 rw[hst] at hlt |-;rw[hnm,J1];have hpos:=(K9 hR hk').st;by_cases e:k=h
 .rw[zb e] at hlt |-;rw[zb e];have:=hx.fair k hk' (by unfold Z8 at hlt;split at hlt <;> omega);rw[J1] at this;unfold Z8 at hlt |-;split at hlt;·omega
  .rename_i q;rw[za q,za (by omega)];omega
 .rw[za e] at hlt |-;rw[za e];have:=hx.fair k hk' hlt;rw[J1] at this;exact this
end Go.Sh
