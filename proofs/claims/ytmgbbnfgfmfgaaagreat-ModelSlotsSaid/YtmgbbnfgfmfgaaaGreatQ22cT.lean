/- A part. -/
import Derived.Test.YtmgbbnfgfmfgaaaGreatQ22cSh
import Derived.Test.YtmgbbnfgfmfgaaaGreatQ22cSh1
set_option linter.unusedVariables false
set_option linter.unusedSimpArgs false
set_option linter.unusedSectionVars false
namespace Go.Sh
def BP(h:Int):Prop:=1<=h/\(h-1) % 32<24/\(h-1) / 32<=9
instance(h:Int):Decidable (BP h):=by unfold BP;infer_instance
theorem MD{h:Int}(q:BP h):1<=h/\h<=320:=by unfold BP at q;omega
theorem oN{i g:Int}(h1:0<=i)(h2:i<24)(h3:0<=g)(h4:g<=9):dR i g=some (1+i+32*g):=by
 unfold dR;rw[za (by simp;omega)];rw[show u7 (i*1)=i by rw[qp];omega,show u7 (1+i)=1+i by rw[qp];omega,show u7 (g*32)=32*g by rw[qp];omega,show u7 (1+i+32*g)=1+i+32*g by rw[qp];omega]
theorem nJ{h:Int}(hh:h<=9223372036854775807):eI h=some (if BP h then ((h-1) % 32,(h-1) / 32,true) else (-1,-1,false)):=by
 unfold eI;split
 .rename_i q;rw[za (by unfold BP;simp at q;omega)]
 .rename_i q;have q:1<=h:=by simpa using q
  rw[P1 (n:=h-1),CZ (by omega) (by omega),Yy,IW (by omega) (by omega) (by omega),Yy,IW (by omega) (by omega) (by omega),Yy,Int.ediv_one];split
  .rename_i q2;rw[za (by unfold BP;simp at q2;omega)]
  .rename_i q2;rw[zb (by unfold BP;simp at q2;omega)]
theorem oP{h:Int}(hh:h<=9223372036854775807):gQ h=some (if BP h then (h-1) % 32 else -1):=by
 unfold gQ;rw[nJ hh,Yy];split <;> rfl
theorem qJ{h:Int}(hh:h<=9223372036854775807):jy h=some (if BP h then (h-1) / 32 else -1):=by
 unfold jy;rw[nJ hh,Yy];split <;> rfl
abbrev z0:n7:=⟨0,0,0,0,false,[]⟩
structure Yd (s:l4):Prop where
 len:s.b7.length<=24
 l0:0<=s.Last
 l9:s.Last<=9
 cell:∀i (h:i<s.b7.length),0<=s.b7[i].State/\s.b7[i].State<=3/\0<=s.b7[i].Gen/\s.b7[i].Gen<=s.Last
theorem ml{s:l4}{i:Int}{k:Nat}{c:c8}(hi:i=k)(hk:k<s.b7.length)(hl:s.b7.length<=24):E1 s i c=some ⟨s.b7.set k c,s.Last⟩:=by
 subst hi;unfold E1 y6;rw[dj (by omega) (by omega),Yy,s7 hk,Yy,zP]
theorem Dq{s:l4}(hR:Yd s)(v:n7) :
  (∃i,∃h:i<s.b7.length,s.b7[i].State=0/\(∀j (hj:j<i),s.b7[j].State≠0)/\L6 s v=some (⟨s.b7.set i ⟨1,s.b7[i].Gen,v⟩,s.Last⟩,1+i+32*s.b7[i].Gen,0)) \/
  ((∀i (h:i<s.b7.length),s.b7[i].State≠0)/\L6 s v=some (s,0,4)):=by
 have hlen:=hR.len;by_cases q:∃i,∃h:i<s.b7.length,s.b7[i].State=0
 .obtain⟨i,⟨hi,h0⟩,hmin⟩:=dz (p:=λi=>∃h:i<s.b7.length,s.b7[i].State=0) q;left;refine⟨i,hi,h0,λj hj=>λe=>by have:=hmin j ⟨by omega,e⟩;omega,?_⟩;unfold L6;simp only[jn,Q3,Yy];have hc:=hR.cell i hi;refine eO s.b7.length (λk=>k<=i) (by omega) (by omega) (λk hk hP=>?_) (λhP=>by omega);rcases zF k i with g | g
  .refine .inl ⟨?_,g⟩;have:s.b7[k].State≠0:=λe=>by have:=hmin k ⟨hk,e⟩;omega
   simp only[wp,hk,t6,wn,s7 hk,Yy];rw[za (by simpa using this),n9]
  .have:k=i:=by omega
   subst this;refine .inr ⟨.inl _,?_,rfl⟩;simp only[wp,hk,t6,wn,s7 hk,Yy,h0,ml rfl hk hlen];rw[oN (by omega) (by omega) hc.2.2.1 (by have:=hR.l9;omega)];simp
 .right;refine⟨λi h e=>q ⟨i,h,e⟩,?_⟩;unfold L6;simp only[jn,Q3,Yy];refine eO s.b7.length (λk=>True) (by omega) trivial (λk hk _=>?_) (λhP=>⟨.inr (),by simp,rfl⟩);refine .inl ⟨?_,trivial⟩;have:s.b7[k].State≠0:=λe=>q ⟨k,hk,e⟩;simp only[wp,hk,t6,wn,s7 hk,Yy];rw[za (by simpa using this),n9]
def wa(s:l4)(h:Int)(i:Nat):Prop:=∃hi:i<s.b7.length,BP h/\(h-1) % 32=i/\s.b7[i].Gen=(h-1) / 32/\(s.b7[i].State=1\/s.b7[i].State=2)
theorem mQ(s:l4){h:Int}(hh:h<=9223372036854775807) :
  (∃i,wa s h i/\z7 s h=some ((i:Int),0))\/((∀i,¬wa s h i)/\z7 s h=some (-1,if h=0 then 2 else 3)):=by
 unfold z7;by_cases h0:h=0
 .right;subst h0;exact⟨λi ⟨_,h1,_⟩=>by unfold BP at h1;omega,by simp⟩
 .rw[za (by simpa using h0),oP hh,Yy,za h0];by_cases hd:BP h
  .rw[zb hd];have hd':=hd;unfold BP at hd';obtain⟨k,hk⟩:∃k:Nat,(h-1) % 32=k:=⟨((h-1) % 32).toNat,by omega⟩;rw[hk];by_cases hl:k<s.b7.length
   .rw[za (by simp;omega),s7 hl,Yy,qJ hh,Yy,zb hd];by_cases g:s.b7[k].Gen=(h-1) / 32/\(s.b7[k].State=1\/s.b7[k].State=2)
    .left;refine⟨k,⟨hl,hd,hk,g⟩,?_⟩;rw[za];simp;omega
    .right;refine⟨λi ⟨hi,_,h2,h3⟩=>?_,?_⟩
     .have:i=k:=by omega
      subst this;exact g h3
     .rw[zb];simp;omega
   .right;refine⟨λi ⟨hi,_,h2,h3⟩=>by omega,?_⟩;rw[zb (by simp;omega)]
  .right;refine⟨λi ⟨hi,h1,_⟩=>hd h1,?_⟩;rw[za hd,zb (by simp)]
theorem uL{s:l4}{h:Int}{i:Nat}(hf:wa s h i):z7 s h=some ((i:Int),0):=by
 have hh:=MD hf.2.1;rcases mQ s (h:=h) (by omega) with ⟨j,h1,h2⟩ | ⟨h1,_⟩
 .obtain⟨_,_,e1,_⟩:=hf;obtain⟨_,_,e2,_⟩:=h1;have:i=j:=by omega
  subst this;exact h2
 .exact absurd hf (h1 i)
theorem Bd{s:l4}{h:Int}(hh:h<=9223372036854775807)(hf:∀i,¬wa s h i):z7 s h=some (-1,if h=0 then 2 else 3):=by
 rcases mQ s hh with ⟨j,h1,_⟩ | ⟨_,h2⟩;·exact absurd h1 (hf j)
 .exact h2
theorem sC(h:Int):(if h=0 then 2 else 3:Int)≠0:=by split <;> omega
theorem Ef{s:l4}{h:Int}{i:Nat}(hf:wa s h i):∃hi:i<s.b7.length,G8 s h=some (if s.b7[i].State=2 then (z0,3) else (s.b7[i].Val,0)):=by
 refine⟨hf.1,?_⟩;unfold G8;rw[uL hf,Yy,za (by simp),s7 hf.1,Yy];split <;> rename_i q
 .rw[zb (by simpa using q)]
 .rw[za (by simpa using q)]
theorem xZ{s:l4}{h:Int}(hh:h<=9223372036854775807)(hf:∀i,¬wa s h i):G8 s h=some (z0,if h=0 then 2 else 3):=by
 unfold G8;rw[Bd hh hf,Yy,zb (by simpa using sC h)]
theorem Oj{s:l4}{h:Int}{v:n7}{i:Nat}(hl:s.b7.length<=24)(hf:wa s h i):∃hi:i<s.b7.length,aC s h v=some (⟨s.b7.set i ⟨s.b7[i].State,s.b7[i].Gen,v⟩,s.Last⟩,0):=by
 refine⟨hf.1,?_⟩;unfold aC;rw[uL hf,Yy,za (by simp),s7 hf.1,Yy,ml rfl hf.1 hl,Yy]
def oo(o:n7):xd:=⟨o.Serial,o.Strong,o.Weak,o.Prog,o.Started,o.Fields⟩
def cO(c:c8):lT:=⟨c.State,c.Gen,oo c.Val⟩
def sO(s:b6):jj:=⟨s.S.b7.map cO,s.S.Last,s.Serial⟩
def Sm(s:b6):Prop:=s.S.b7.length<=30/\∀i (h:i<s.S.b7.length),s.S.b7[i].Val.Fields.length<=10
instance(s:b6):Decidable (Sm s):=by unfold Sm;infer_instance
def OH(c:lT):Prop:=c.State=1\/c.State=2
instance(c:lT):Decidable (OH c):=by unfold OH;infer_instance
def VE(t:jj)(o:xd):Prop:=1<=o.Serial/\o.Serial<=t.Serial/\0<=o.Strong/\0<=o.Weak /\ -1<=o.Prog/\o.Prog<=5/\o.Fields.length<=4
def Jx(o:xd):Prop:=o.Serial=0/\o.Strong=0/\o.Weak=0/\o.Prog=0/\o.Started=false/\o.Fields.length=0
structure wc (t:jj):Prop where
 len:t.b7.length<=24
 l0:0<=t.Last
 l9:t.Last<=9
 aW:0<=t.Serial
 cell:∀i (h:i<t.b7.length),0<=t.b7[i].State/\t.b7[i].State<=3/\0<=t.b7[i].Gen/\t.b7[i].Gen<=t.Last
 no:∀i (h:i<t.b7.length),¬OH t.b7[i]->Jx t.b7[i].Val
 ok:∀i (h:i<t.b7.length),OH t.b7[i]->VE t t.b7[i].Val
 dif:∀i (h:i<t.b7.length) k (hk:k<i),OH t.b7[i]->OH t.b7[k]->t.b7[k].Val.Serial≠t.b7[i].Val.Serial
theorem Fe{c:Int->Int->Option Int}{xs:List Int}(key:Int->Int)(hc:∀x y,∃r,c x y=some r/\(r<0↔key x<key y))(hl:xs.length<4611686018427387904) :
  ∃ys,vt c xs=some ys/\ys.Perm xs/\ys.Pairwise (λa b=>key a<=key b):=by
 have hlt:∀x y,Go.Proofs.ltOf (λx y=>(c x y).getD 0) x y=decide (key x<key y):=λx y=>by
  obtain⟨r,h1,h2⟩:=hc x y;show decide ((c x y).getD 0<0)=_;rw[h1,ww];exact zbo.2 h2
 have hO:Go.Sort.SWO (Go.Proofs.ltOf λx y=>(c x y).getD 0):=by
  refine⟨λx=>?_,λx y z=>?_,λx y z=>?_⟩;·rw[hlt];simp
  .rw[hlt,hlt,hlt];simp;omega
  .rw[hlt,hlt,hlt];simp;omega
 have hcond:(∀x y,(c x y).isSome=true)/\Go.Sort.SWO (Go.Proofs.ltOf λx y=>(c x y).getD 0)/\xs.length<4611686018427387904:=⟨λx y=>by
  obtain⟨r,h1,_⟩:=hc x y;rw[h1];rfl,hO,hl⟩
 unfold vt;rw[zb hcond];refine⟨_,rfl,?_⟩;obtain⟨⟨p1,p2,p3⟩,p4⟩:=Go.Sort.pdq_sorts (Go.Proofs.ltOf λx y=>(c x y).getD 0) hO xs.toArray 0 xs.length (Go.Lib.bitLen xs.length) true true (zV _) (by simp) (Or.inl rfl);generalize Go.Sort.pdq (Go.Proofs.ltOf λx y=>(c x y).getD 0) xs.toArray 0 xs.length (Go.Lib.bitLen xs.length) true true=d at p1 p2 p3 p4 |-;have hs:d.size=xs.length:=by simpa using p1
 refine⟨?_,?_⟩
 .have e1:d.extract 0 xs.length=d:=by rw[<-hs];exact Array.extract_size
  have e2:xs.toArray.extract 0 xs.length=xs.toArray:=by
   simp
  rw[e1,e2] at p3;simpa using p3
 .rw[zat];intro i j hi hj hij;have hi':i<d.size:=by simpa using hi
  have hj':j<d.size:=by simpa using hj
  have:=p4 i j (zV _) hij (by omega);rw[hlt,getElem!_pos d j hj',getElem!_pos d i hi'] at this;have:=of_decide_eq_false this;simp only[Array.getElem_toList];omega
def cW:Nat->List c8->List Int
 | _,[]=>[]
 | k,c::r=>(if c.State=1 then [1+(k:Int)+32*c.Gen] else [])++cW (k+1) r
theorem uP(c:c8):∀(k:Nat) (xs:List c8),cW k (xs ++ [c])=cW k xs++(if c.State=1 then [1+((k+xs.length:Nat):Int)+32*c.Gen] else [])
 | k,[]=>by simp[cW]
 | k,x::r=>by
  simp only[List.cons_append,cW,uP c (k+1) r,zah,zH];rw[show k+1+r.length=k+(r.length+1) by omega]
theorem sX:∀(k:Nat) (xs:List c8),(cW k xs).length<=xs.length
 | _,[]=>by simp[cW]
 | k,c::r=>by
  have:=sX (k+1) r;simp only[cW,zK,zH];split <;> simp <;> omega
theorem oV{h:Int}:∀ {k:Nat} {xs:List c8},h∈cW k xs↔∃i,∃hi:i<xs.length,xs[i].State=1/\h=1+((k+i:Nat):Int)+32*xs[i].Gen
 | k,[]=>by simp[cW]
 | k,c::r=>by
  simp only[cW,zu,oV (k:=k+1) (xs:=r)];constructor
  .rintro (q | ⟨i,hi,q1,q2⟩)
   .by_cases hc:c.State=1
    .rw[zb hc] at q;exact⟨0,by simp,by simpa using hc,by simpa using q⟩
    .rw[za hc] at q;cases q
   .exact⟨i+1,by simpa using hi,by simpa using q1,by simp only[List.getElem_cons_succ];rw[q2,show k+1+i=k+(i+1) by omega]⟩
  .rintro⟨i,hi,q1,q2⟩;cases i with
   | zero=>
    left;simp only[List.getElem_cons_zero] at q1 q2;rw[zb q1];simp[q2]
   | succ i=>
    right;simp only[List.getElem_cons_succ] at q1 q2;exact⟨i,by simpa using hi,q1,by rw[q2,show k+1+i=k+(i+1) by omega]⟩
def sk(cs:List c8)(h:Int):Int:=match cs[((h-1) % 32).toNat]? with
 | some c=>c.Val.Serial
 | none=>0
theorem Fc{cs:List c8}{i:Nat}{g:Int}(h:i<cs.length)(h32:cs.length<=32):sk cs (1+(i:Int)+32*g)=cs[i].Val.Serial:=by
 unfold sk;have:((1+(i:Int)+32*g-1) % 32).toNat=i:=by omega
 rw[this,zc h]
structure Xv (cs:List c8):Prop where
 len:cs.length<=24
 gen:∀i (h:i<cs.length),0<=cs[i].Gen/\cs[i].Gen<=9
theorem Bp{s:b6}(hR:Xv s.S.b7):∃l,F7 s=some l/\l.Perm (cW 0 s.S.b7)/\l.Pairwise (λa b=>sk s.S.b7 a<=sk s.S.b7 b):=by
 have hlen:=hR.len;unfold F7;simp only[jn];have hh:=sX 0 s.S.b7;have hloop:∃e:List (Int × Int) × List Int,lp (S:=Int × (List (Int × Int)) × (List Int)) (E:=((List (Int × Int)) × (List Int))) (λ((s23,s24,s25):Int × (List (Int × Int)) × (List Int))=>
   if (decide (s23<(s.S.b7.length:Int))) then
    ((ix s.S.b7 s23).bind λv35=>
     if (v35.State==1) then
      (dR s23 v35.Gen).bind λv36=>
      (app 8 s25 [v36]).bind λv37=>
      some (.inl (u7 (s23+1),(o7 s24 v36 v35.Val.Serial),v37))
     else
     some (.inl (u7 (s23+1),s24,s25)))
   else
   some (.inr (s24,s25))) (0,[],[])=some e/\e.2=cW 0 s.S.b7/\∀h∈e.2,y9 e.1 h=some (sk s.S.b7 h):=by
  refine jB (T:=List (Int × Int) × List Int) s.S.b7.length (λk e=>e.2=cW 0 (s.S.b7.take k)/\∀h∈e.2,y9 e.1 h=some (sk s.S.b7 h)) (λe:List (Int × Int) × List Int=>e.2=cW 0 s.S.b7/\∀h∈e.2,y9 e.1 h=some (sk s.S.b7 h)) (by omega) ⟨by simp[cW],by simp⟩ (λk e hk hP=>?_) (λe hP=>?_)
  .obtain⟨h1,h2⟩:=hP;obtain⟨m,l⟩:=e;simp only at h1 h2;left;have hc:=hR.gen k hk;have hl:l.length<=24:=by rw[h1];have:=sX 0 (s.S.b7.take k);simp at this;omega
   have et:s.S.b7.take (k+1)=s.S.b7.take k ++ [s.S.b7[k]]:=by rw[List.take_add_one,zc hk];rfl
   have el:(s.S.b7.take k).length=k:=by simp;omega
   by_cases q:s.S.b7[k].State=1
   .refine⟨(o7 m (1+(k:Int)+32*s.S.b7[k].Gen) s.S.b7[k].Val.Serial,l ++ [1+(k:Int)+32*s.S.b7[k].Gen]),?_,?_,?_⟩
    .simp only[wp,hk,t6,wn,s7 hk,Yy,q,ul];rw[oN (by omega) (by omega) hc.1 hc.2,Yy,K5 (by omega) (by simp;omega),Yy,n9]
    .simp only;rw[et,uP,zb q,el,h1,zak]
    .intro h hh;simp only[zu,zp] at hh |-;rw[pV];rcases hh with hh | rfl
     .split;·rename_i e;rw[e,Fc hk (by omega)]
      .exact h2 h hh
     .rw[zb rfl,Fc hk (by omega)]
   .refine⟨(m,l),?_,?_,h2⟩
    .simp only[wp,hk,t6,wn,s7 hk,Yy];rw[za (by simpa using q),n9]
    .simp only;rw[et,uP,za q,h1,zav]
  .obtain⟨h1,h2⟩:=hP;obtain⟨m,l⟩:=e;refine⟨(m,l),by simp only[zbd,zbz,zD,qr],?_,h2⟩;simpa using h1
 obtain⟨⟨m,l⟩,e1,e2,e3⟩:=hloop;rw[show lp _ _=_ from e1,Yy];simp only at e2 e3 |-;subst e2;obtain⟨ys,q1,q2,q3⟩:=Fe (c:=λp q=>iY p q m) (xs:=cW 0 s.S.b7) (λh=>(y9 m h).getD 0) (λx y=>by
  unfold iY ig cV;simp only[Yy,zb9,zD,qr];generalize (y9 m x).getD 0=a;generalize (y9 m y).getD 0=b;by_cases h1:a<b
  .rw[zC h1];exact⟨-1,rfl,by simp[h1]⟩
  .rw[zY h1];by_cases h2:a > b
   .rw[zC h2];exact⟨1,rfl,by simp[h1]⟩
   .rw[zY h2];exact⟨0,rfl,by simp[h1]⟩) (by omega)
 refine⟨ys,by rw[q1];rfl,q2,q3.imp_of_mem λ{a b} ha hb hab=>?_⟩;rw[e3 a (q2.mem_iff.1 ha),e3 b (q2.mem_iff.1 hb)] at hab;simpa using hab
theorem rO{key:Int->Int}:∀ {l m:List Int},l.Perm m->l.Pairwise (λa b=>key a<=key b)->m.Pairwise (λa b=>key a<=key b)->(∀a∈l,∀b∈l,key a=key b->a=b)->l=m
 | [],m,hp,_,_,_=>(List.nil_perm.1 hp).symm
 | a::l,[],hp,_,_,_=>by simp at hp
 | a::l,b::m,hp,h1,h2,hk=>by
  have ha:=zbb.1 h1;have hb:=zbb.1 h2;have e:a=b:=by
   have m1:b∈a::l:=hp.mem_iff.2 (zg ..);have m2:a∈b::m:=hp.mem_iff.1 (zg ..);rcases zM.1 m1 with q | q
   .exact q.symm
   .rcases zM.1 m2 with q' | q'
    .exact q'
    .exact hk a (zg ..) b m1 (Int.le_antisymm (ha.1 b q) (hb.1 a q'))
  subst e;rw[rO (List.perm_cons a |>.1 hp) ha.2 hb.2 λx hx y hy=>hk x (zn _ hx) y (zn _ hy)]
theorem kY(s:b6):(sO s).b7.length=s.S.b7.length:=by simp[sO]
theorem pn{s:b6}(h:wc (sO s)):s.S.b7.length<=24:=by have:=h.len;rwa [kY] at this
theorem De{s:b6}(h:wc (sO s))(i:Nat)(hi:i<s.S.b7.length):0<=s.S.b7[i].State/\s.S.b7[i].State<=3/\0<=s.S.b7[i].Gen/\s.S.b7[i].Gen<=s.S.Last:=by
 have:=h.cell i (by rw[kY];exact hi);simpa[sO,cO] using this
theorem GX{s:b6}(h:wc (sO s)):Xv s.S.b7:=⟨pn h,λi hi=>by have:=De h i hi;have h9:s.S.Last<=9:=h.l9;omega⟩
theorem Oc{s:b6}(h:wc (sO s))(i:Nat)(hi:i<s.S.b7.length)(ht:s.S.b7[i].State=1\/s.S.b7[i].State=2):VE (sO s) (oo s.S.b7[i].Val):=by
 have:=h.ok i (by rw[kY];exact hi);simp only[sO,t8,cO,OH] at this;exact this ht
theorem Ob{s:b6}(h:wc (sO s)){i j:Nat}(hi:i<s.S.b7.length)(hj:j<s.S.b7.length)(a:s.S.b7[i].State=1\/s.S.b7[i].State=2)(b:s.S.b7[j].State=1\/s.S.b7[j].State=2)(e:s.S.b7[i].Val.Serial=s.S.b7[j].Val.Serial):i=j:=by
 have key:∀i (hi:i<s.S.b7.length) j (hj:j<i),(s.S.b7[i].State=1\/s.S.b7[i].State=2)->(s.S.b7[j].State=1\/s.S.b7[j].State=2)->s.S.b7[j].Val.Serial≠s.S.b7[i].Val.Serial:=λi hi j hj a b=>by
  have:=h.dif i (by rw[kY];exact hi) j hj;simp only[sO,t8,cO,OH,oo] at this;exact this a b
 rcases Nat.lt_trichotomy i j with q | q | q
 .exact absurd e (key j hj i q b a)
 .exact q
 .exact absurd e.symm (key i hi j q a b)
theorem oU{s:b6}(hR:wc (sO s)){x:Int}(hx:x∈cW 0 s.S.b7):∃i,∃hi:i<s.S.b7.length,s.S.b7[i].State=1/\x=1+(i:Int)+32*s.S.b7[i].Gen/\wa s.S x i/\sk s.S.b7 x=s.S.b7[i].Val.Serial/\x6 s x=some (s.S.b7[i].Val,0):=by
 obtain⟨i,hi,h1,h2⟩:=oV.1 hx;rw[zak] at h2;have hl:=(pn hR);have hc:=(GX hR).gen i hi;have hf:wa s.S x i:=⟨hi,by unfold BP;omega,by omega,by omega,.inl h1⟩;refine⟨i,hi,h1,h2,hf,by rw[h2];exact Fc hi (by omega),?_⟩;obtain⟨_,e⟩:=Ef hf;unfold x6;rw[e,za (by omega)];rfl
theorem Mo{s:b6}{x:Int}{i:Nat}(hf:wa s.S x i)(h1:∀hi:i<s.S.b7.length,s.S.b7[i].State=1):x∈cW 0 s.S.b7:=by
 obtain⟨hi,q1,q2,q3,_⟩:=hf;refine oV.2 ⟨i,hi,h1 hi,?_⟩;unfold BP at q1;rw[zak];omega
theorem Hc{s:b6}(hR:wc (sO s)){x y:Int}(hx:x∈cW 0 s.S.b7)(hy:y∈cW 0 s.S.b7)(e:sk s.S.b7 x=sk s.S.b7 y):x=y:=by
 obtain⟨i,hi,a1,a2,_,a4,_⟩:=oU hR hx;obtain⟨j,hj,b1,b2,_,b4,_⟩:=oU hR hy;have:=(Ob hR) hi hj (.inl a1) (.inl b1) (by rw[<-a4,<-b4];exact e);subst this;rw[a2,b2]
theorem mV:∀(k:Nat) (cs:List c8),k+cs.length<=32->(cW k cs).Nodup
 | _,[],_=>zb3
 | k,c::r,h=>by
  simp only[zH] at h;unfold cW;rw[zbt];refine⟨by split <;> simp,mV (k+1) r (by omega),λa ha b hb e=>?_⟩;split at ha
  .simp only[zp] at ha;subst ha;subst e;obtain⟨i,hi,h1,h2⟩:=oV.1 hb;have:((1+(k:Int)+32*c.Gen)-1) % 32=((1+((k+1+i:Nat):Int)+32*r[i].Gen)-1) % 32:=by rw[h2]
   omega
  .cases ha
theorem It{s:b6}(hR:wc (sO s)):∃l,F7 s=some l/\l.Perm (cW 0 s.S.b7)/\l.Pairwise (λa b=>sk s.S.b7 a<sk s.S.b7 b):=by
 obtain⟨l,h1,h2,h3⟩:=Bp (GX hR);refine⟨l,h1,h2,?_⟩;have hn:l.Nodup:=h2.nodup_iff.2 (mV 0 _ (by have:=(pn hR);omega));have:=List.Pairwise.and h3 hn;refine this.imp_of_mem λ{a b} ha hb ⟨q1,q2⟩=>?_;rcases Int.lt_or_eq_of_le q1 with q | q
 .exact q
 .exact absurd (Hc hR (h2.mem_iff.1 ha) (h2.mem_iff.1 hb) q) q2
theorem sY:∀(k:Nat) (cs:List c8) (i:Nat) (c:c8) (hi:i<cs.length),cs[i].State≠1->c.State=1->(cW k (cs.set i c)).Perm ((1+((k+i:Nat):Int)+32*c.Gen)::cW k cs)
 | _,[],i,_,hi,_,_=>by simp at hi
 | k,d::r,0,c,hi,h1,h2=>by
  simp only[List.getElem_cons_zero] at h1;simp only[List.set_cons_zero,cW,zb h2,za h1,zcj,zbg];exact List.Perm.refl _
 | k,d::r,i+1,c,hi,h1,h2=>by
  simp only[List.getElem_cons_succ] at h1;simp only[List.set_cons_succ,cW];have:=sY (k+1) r i c (by simpa using hi) h1 h2;rw[show k+1+i=k+(i+1) by omega] at this;exact (List.Perm.append_left _ this).trans List.perm_middle
theorem Va{cs:List c8}{i:Nat}{c:c8}{x:Int}(h:((x-1) % 32).toNat≠i):sk (cs.set i c) x=sk cs x:=by
 unfold sk;rw[List.getElem?_set_ne (by omega)]
theorem GB{s:b6}(hR:wc (sO s)){i:Nat}(hi:i<s.S.b7.length)(h0:s.S.b7[i].State=0)(o:n7)(ho:o.Serial=s.Serial+1){l:List Int}(hl:F7 s=some l) :
  F7 ⟨⟨s.S.b7.set i ⟨1,s.S.b7[i].Gen,o⟩,s.S.Last⟩,s.Serial+1⟩=some (l ++ [1+(i:Int)+32*s.S.b7[i].Gen]):=by
 obtain⟨l',e,l1,l2⟩:=It hR;rw[hl] at e;cases e;have hlen:=pn hR;have hsl:Xv (s.S.b7.set i ⟨1,s.S.b7[i].Gen,o⟩):=⟨by simpa using hlen,λj hj=>by
  rw[zcq];have:=(GX hR).gen;split;·exact this i hi
  .exact this j (by simpa using hj)⟩
 obtain⟨m,m1,m2,m3⟩:=Bp (s:=⟨⟨s.S.b7.set i ⟨1,s.S.b7[i].Gen,o⟩,s.S.Last⟩,s.Serial+1⟩) hsl;have hp:=sY 0 s.S.b7 i ⟨1,s.S.b7[i].Gen,o⟩ hi (by omega) rfl;rw[zak] at hp;have hold:∀x∈l,sk (s.S.b7.set i ⟨1,s.S.b7[i].Gen,o⟩) x=sk s.S.b7 x/\sk s.S.b7 x<=s.Serial:=λx hx=>by
  obtain⟨j,hj,a1,a2,a3,a4,_⟩:=oU hR (l1.mem_iff.1 hx);refine⟨Va ?_,?_⟩
  .obtain⟨_,_,q,_⟩:=a3;intro e;have:j=i:=by omega
   subst this;omega
  .rw[a4];exact (Oc hR j hj (.inl a1)).2.1
 have hnew:sk (s.S.b7.set i ⟨1,s.S.b7[i].Gen,o⟩) (1+(i:Int)+32*s.S.b7[i].Gen)=s.Serial+1:=by
  rw[Fc (by simpa using hi) (by simp;omega)];simp[ho]
 rw[m1];congr 1;refine rO (key:=sk (s.S.b7.set i ⟨1,s.S.b7[i].Gen,o⟩)) ?_ m3 ?_ ?_
 .refine m2.trans (hp.trans ?_);refine List.Perm.trans (List.Perm.cons _ l1.symm) ?_;exact (List.perm_append_singleton _ _).symm
 .rw[zar];refine⟨l2.imp_of_mem λ{a b} ha hb hab=>?_,by simp,λa ha b hb=>?_⟩;·rw[(hold a ha).1,(hold b hb).1];omega
  .rw[zp] at hb;subst hb;rw[hnew,(hold a ha).1];have:=(hold a ha).2;omega
 .have hm:∀a∈m,a∈l\/a=1+(i:Int)+32*s.S.b7[i].Gen:=λa ha=>by
   have:=hp.mem_iff.1 (m2.mem_iff.1 ha);rcases zM.1 this with q | q
   .exact .inr q
   .exact .inl (l1.mem_iff.2 q)
  intro a ha b hb hab;rcases hm a ha with qa | rfl <;> rcases hm b hb with qb | rfl
  .rw[(hold a qa).1,(hold b qb).1] at hab;exact Hc hR (l1.mem_iff.1 qa) (l1.mem_iff.1 qb) hab
  .rw[(hold a qa).1,hnew] at hab;have:=(hold a qa).2;omega
  .rw[(hold b qb).1,hnew] at hab;have:=(hold b qb).2;omega
  .rfl
theorem Wy(n last:Int):∃a,jm n last=some a/\CU n last=some (sO a)/\wc (sO a)/\a.S.b7.length<=24/\∀i (h:i<a.S.b7.length),a.S.b7[i].Val.Fields.length<=4:=by
 unfold jm CU aB IX;by_cases h:0<=n/\n<=24/\0<=last/\last<=9
 .obtain⟨h1,h2,h3,h4⟩:=h;obtain⟨k,rfl⟩:∃k:Nat,n=k:=⟨n.toNat,by omega⟩;rw[za (by simp;omega),za (by simp;omega),kB (by omega) (by omega),kB (by omega) (by omega)];simp only[Yy,List.length_replicate];rw[kB (by omega) (by omega)];refine⟨_,rfl,?_,?_,by simp;omega,λi h=>by simp⟩;·simp[sO,cO,oo]
  .refine⟨by simp[sO];omega,h3,h4,by simp[sO],λi h=>?_,λi h=>?_,λi h q=>?_,λi h k hk q=>?_⟩;·simp[sO,cO];omega
   .simp[sO,cO,oo,Jx]
   .exfalso;simp[sO,cO,oo,OH] at q
   .exfalso;simp[sO,cO,oo,OH] at q
 .rw[zb (by simp;omega),zb (by simp;omega)];simp only[Yy,zag];rw[show mk 80 ((0:Nat):Int) (⟨0,0,⟨0,0,0,0,false,[]⟩⟩:lT)=some [] from rfl];refine⟨_,rfl,rfl,⟨by simp[sO],by simp[sO],by simp[sO],by simp[sO],?_,?_,?_,?_⟩,by simp,λi h=>by simp at h⟩ <;> (intro i h;simp[sO] at h)
noncomputable def lv(s:b6):List Int:=(F7 s).getD []
def ob(s:b6)(h:Int):n7:=((x6 s h).getD (z0,0)).1
def outs(s:b6)(h:Int):List Int:=nz (ob s h).Fields
def FB(s:b6):Prop:=∀c∈s.S.b7,∀x∈c.Val.Fields,x<=9223372036854775807
section
variable{s:b6}(hR:wc (sO s))
include hR
theorem mY:F7 s=some (lv s)/\(lv s).Perm (cW 0 s.S.b7)/\(lv s).Pairwise (λa b=>sk s.S.b7 a<sk s.S.b7 b):=by
 obtain⟨l,h1,h2,h3⟩:=It hR;have:lv s=l:=by unfold lv;rw[h1];rfl
 rw[this];exact⟨h1,h2,h3⟩
theorem gB:F7 s=some (lv s):=(mY hR).1
theorem CB{h:Int}:h∈lv s↔h∈cW 0 s.S.b7:=(mY hR).2.1.mem_iff
theorem M1:(lv s).length<=24:=by
 rw[(mY hR).2.1.length_eq];exact zO (sX 0 s.S.b7) (pn hR)
theorem tu:(lv s).Nodup:=(mY hR).2.1.nodup_iff.2 (mV 0 _ (by have:=(pn hR);omega))
theorem uT{h:Int}(hh:h∈lv s):x6 s h=some (ob s h,0):=by
 obtain⟨i,hi,_,_,_,_,e⟩:=oU hR ((CB hR).1 hh);unfold ob;rw[e];rfl
theorem CA{h:Int}(hh:h∈lv s):∃i,∃hi:i<s.S.b7.length,s.S.b7[i].State=1/\h=1+(i:Int)+32*s.S.b7[i].Gen/\wa s.S h i/\ob s h=s.S.b7[i].Val:=by
 obtain⟨i,hi,h1,h2,h3,_,e⟩:=oU hR ((CB hR).1 hh);refine⟨i,hi,h1,h2,h3,?_⟩;unfold ob;rw[e];rfl
theorem pb{h:Int}(hh:h∈lv s):1<=h/\h<=320:=by
 obtain⟨i,hi,_,_,hf,_⟩:=CA hR hh;exact MD hf.2.1
theorem So{h:Int}(hh:h<=9223372036854775807)(hn:h∉lv s):∃e,e≠0/\x6 s h=some (z0,e):=by
 rcases mQ s.S hh with ⟨i,hf,_⟩ | ⟨hf,_⟩
 .obtain⟨hi,e⟩:=Ef hf;unfold x6;rw[e];by_cases h2:s.S.b7[i].State=2
  .rw[zb h2];exact⟨3,by decide,rfl⟩
  .exact absurd ((CB hR).2 (Mo hf λ_=>hf.2.2.2.2.resolve_right h2)) hn
 .unfold x6;rw[xZ hh hf];exact⟨_,sC h,rfl⟩
theorem vI{h:Int}(hh:h<=9223372036854775807)(hn:h∉lv s):ob s h=z0:=by
 obtain⟨e,_,h1⟩:=So hR hh hn;unfold ob;rw[h1];rfl
theorem iq{h:Int}(hh:h<=9223372036854775807):∃e,x6 s h=some (ob s h,e)/\(e=0↔h∈lv s):=by
 by_cases q:h∈lv s
 .exact⟨0,uT hR q,by simp[q]⟩
 .obtain⟨e,h0,h1⟩:=So hR hh q;refine⟨e,?_,by simp[h0,q]⟩;rw[h1,vI hR hh q]
theorem QT{h:Int}(hh:h<=9223372036854775807)(hn:h∉lv s):outs s h = []:=by
 unfold outs;rw[vI hR hh hn];rfl
theorem IJ(h:Int)(hh:h<=9223372036854775807):(ob s h).Fields.length<=4:=by
 by_cases q:h∈lv s
 .obtain⟨i,hi,h1,_,_,e⟩:=CA hR q;rw[e];exact (Oc hR i hi (.inl h1)).2.2.2.2.2.2
 .rw[vI hR hh q];exact zV _
theorem yw(h:Int)(hh:h<=9223372036854775807):(outs s h).length<=4:=zO (Nk _) (IJ hR h hh)
theorem QS(hF:FB s){h x:Int}(hh:h<=9223372036854775807)(hx:x∈outs s h):x<=9223372036854775807:=by
 by_cases q:h∈lv s
 .obtain⟨i,hi,h1,_,_,e⟩:=CA hR q;unfold outs at hx;rw[e] at hx;exact hF _ (zh hi) x (ga.1 hx).1
 .rw[QT hR hh q] at hx;cases hx
end
theorem QU{s:b6}{h x:Int}(hx:x∈outs s h):x≠0:=(ga.1 hx).2
theorem ED(v:List Int)(h:v.length<=1000000):jo v=some (nz v):=by
 unfold jo qn;simp only[jn,Yy];rw[U7 v (λb x=>if x != 0 then b ++ [x] else b) id (λk b=>b.length<=k) (by omega) (by simp) (λk hk b hb=>?_) (λb _=>?_)]
 .simp only[Yy,id];rw[foldl_filter];rfl
 .simp only[wp,hk,t6,wn,s7 hk,Yy];by_cases q:(v[k] != 0)=true
  .rw[zb (by simpa using q),zb q,K5 (by omega) (by simp;omega),Yy,n9];exact⟨rfl,by simp;omega⟩
  .rw[za (by simpa using q),za q,n9];exact⟨rfl,by omega⟩
 .simp only[zbd,zbz,zD,qr];rfl
noncomputable def jZ(s:b6)(h:Int):Nat:=((lv s).map λx=>R7 (outs s x) h).sum
theorem Sl{s:b6}(hR:wc (sO s)){k:Nat}(hk:k<(lv s).length):(lv s)[k]<=9223372036854775807:=by
 have:=pb hR (zh hk);omega
section
variable{s:b6}(hR:wc (sO s))
include hR
theorem Ny{h:Int}(hh:h<=9223372036854775807):lW s h=some (outs s h):=by
 obtain⟨e,h1,_⟩:=iq hR hh;unfold lW;rw[h1,Yy,ED _ (by have:=IJ hR h hh;simp only;omega)];rfl
theorem MG(h:Int):jZ s h<=96:=by
 have:=He (λx=>R7 (outs s x) h) 4 (lv s) λx hx=>zO (Hf _ _) (yw hR x (by have:=pb hR hx;omega));have:=M1 hR;unfold jZ;omega
theorem We(h:Int):xe s h=some (jZ s h:Int):=by
 unfold xe np;simp only[jn,Yy];rw[show F7 s=_ from gB hR,Yy];have hl:=M1 hR;rw[U7 (lv s) (λ(b:Int) x=>b+(R7 (outs s x) h:Int)) id (λk b=>0<=b/\b<=4*k) (by omega) (by simp) (λk hk b hb=>?_) (λb _=>?_)]
 .simp only[Yy,id];have:=xR (λx=>R7 (outs s x) h) (lv s) 0;rw[show ((0:Nat):Int)=0 from rfl] at this;rw[this,zak];rfl
 .have ho:=Ny hR (Sl hR hk);have hol:=yw hR _ (Sl hR hk);have ht:=Hf (outs s (lv s)[k]) h;simp only[wp,hk,t6,wn,s7 hk,Yy,ho];rw[U7 (outs s (lv s)[k]) (λ(b:Int) x=>if (x==h&&h != 0) then b+1 else b) id (λj c=>b<=c/\c<=b+j) (by omega) (by simp) (λj hj c hc=>?_) (λc _=>?_)]
  .simp only[Yy,id];rw[Eb,n9];exact⟨rfl,by omega⟩
  .simp only[wp,hj,t6,wn,s7 hj,Yy];have hne:=QU (zh hj);by_cases q:(outs s (lv s)[k])[j]=h
   .have e2:((outs s (lv s)[k])[j]==h&&h != 0)=true:=by simp only[zy,pu,bne_iff_ne];omega
    rw[e2,zb (by simpa using q),zb rfl,n9,P1 (n:=c+1) (by omega) (by omega)];exact⟨rfl,by omega⟩
   .have e2:((outs s (lv s)[k])[j]==h&&h != 0)=false:=by rw[zbj];simp only[ne_eq,zy,pu,bne_iff_ne];omega
    rw[e2,za (by simpa using q),n9];exact⟨rfl,by simp;omega⟩
  .simp only[zbd,zbz,zD,qr];rfl
 .simp only[zbd,zbz,zD,qr];rfl
end
section
variable{s:b6}(hR:wc (sO s))(hF:FB s)
include hR hF
end
theorem sF{α:Type}(p:α->Bool):∀l:List α,l.length=(l.filter p).length+(l.filter λx => !p x).length
 | []=>rfl
 | x::l=>by
  have:=sF p l;by_cases h:p x
  .simp[h];omega
  .simp[h];omega
theorem Wm{s:b6}(hR:wc (sO s)){l:List Int}(hp:l.Perm (cW 0 s.S.b7))(hs:l.Pairwise (λa b=>sk s.S.b7 a<sk s.S.b7 b)):lv s=l:=by
 obtain⟨_,l2,l3⟩:=mY hR;exact rO (key:=sk s.S.b7) (l2.trans hp.symm) (l3.imp λh=>by omega) (hs.imp λh=>by omega) λa ha b hb e=>Hc hR (l2.mem_iff.1 ha) (l2.mem_iff.1 hb) e
inductive rW (s:b6) (l:List Int):Int->Prop
 | base {h:Int}:h∈l->h∈lv s->rW s l h
 | step {a b:Int}:rW s l a->b∈outs s a->b∈lv s->rW s l b
open Classical in
noncomputable def GR (s:b6) (l:List Int):List Int:=(lv s).filter λh=>decide (rW s l h)
open Classical in
noncomputable def lst (s:b6) (l:List Int):List Int:=(lv s).filter λh=>decide (¬rW s l h)
def Cl(s:b6)(l:List Int):Prop:=∀a∈l,∀b∈outs s a,b∈lv s->b∈l
def LB(l:List Int):Prop:=∀x∈l,x<=9223372036854775807
theorem rW.live{s:b6}{l:List Int}{h:Int}(q:rW s l h):h∈lv s:=by cases q <;> assumption
open Classical in
theorem fv {s:b6} {l:List Int} {h:Int}:h∈GR s l↔rW s l h:=by
 unfold GR;rw[zi];exact⟨λq=>za9 q.2,λq=>⟨q.live,zC q⟩⟩
theorem Rh{s:b6}(hR:wc (sO s))(l:List Int):(GR s l).length<=24:=zO (zA ..) (M1 hR)
theorem UK(s:b6)(l:List Int):Cl s (GR s l):=λa ha b hb hl=>fv.2 (.step (fv.1 ha) hb hl)
theorem rW.least{s:b6}{l m:List Int}(hc:Cl s m)(hl:∀x∈l,x∈lv s->x∈m){h:Int}(q:rW s l h):h∈m:=by
 induction q with
 | base h1 h2=>exact hl _ h1 h2
 | step _ h1 h2 ih=>exact hc _ ih _ h1 h2
theorem rW.mono{s:b6}{l m:List Int}(hl:∀x∈l,x∈lv s->rW s m x){h:Int}(q:rW s l h):rW s m h:=by
 induction q with
 | base h1 h2=>exact hl _ h1 h2
 | step _ h1 h2 ih=>exact .step ih h1 h2
theorem KF{s:b6}{l m:List Int}(h:∀x,rW s l x↔rW s m x):GR s l=GR s m:=by
 unfold GR;exact pm λx _=>zbo.2 (h x)
theorem filter_lt{α:Type}{p q:α->Bool}:∀ {l:List α},(∀x∈l,p x=true->q x=true)->∀x∈l,q x=true->p x=false->(l.filter p).length<(l.filter q).length
 | [],_,x,hx,_,_=>by cases hx
 | y::l,h,x,hx,h1,h2=>by
  have hle:(l.filter p).length<=(l.filter q).length:=by
   have h':∀x∈l,p x=true->q x=true:=λx hx=>h x (zn _ hx);clear h hx;induction l with
   | nil=>simp
   | cons z l ih=>
    have:=ih λx hx=>h' x (zn _ hx);have hz:=h' z (zg ..);simp only[or];by_cases a:p z=true
    .rw[zb a,zb (hz a)];simp only[zH];omega
    .rw[za a];split <;> (try simp only[zH]) <;> omega
  rcases zM.1 hx with rfl | hx'
  .simp only[or,h1,h2,wn,zD,qr,zH];omega
  .have:=filter_lt (λx hx=>h x (zn _ hx)) x hx' h1 h2;have hy:=h y (zg ..);simp only[or];by_cases a:p y=true
   .rw[zb a,zb (hy a)];simp only[zH];omega
   .rw[za a];split <;> (try simp only[zH]) <;> omega
theorem Z3{l m:List Int}(hn:l.Nodup)(h:∀x∈l,x∈m):l.length<=m.length:=by
 induction l generalizing m with
 | nil=>simp
 | cons x l ih=>
  rw[me] at hn;have hx:=h x (zg ..);have:=ih (m:=m.erase x) hn.2 λy hy=>(List.mem_erase_of_ne (λe=>hn.1 (by subst e;exact hy))).2 (h y (zn _ hy));rw[List.length_erase_of_mem hx] at this;have:0<m.length:=List.length_pos_of_mem hx;simp only[zH];omega
section
variable{s:b6}(hR:wc (sO s))
include hR
theorem Ki{h:Int}(hh:h<=9223372036854775807):cu s h=some (decide (h∈lv s)):=by
 obtain⟨e,h1,h2⟩:=iq hR hh;unfold cu;rw[h1,Yy];congr 1;rw[zbm,pu,zG];exact h2
abbrev Mk(m:List (Int × Bool))(x:Int):Prop:=(y9 m x).getD false=true
noncomputable def Jq(s:b6)(m:List (Int × Bool)):Nat:=((lv s).filter λx => !(y9 m x).getD false).length
omit hR in
theorem dH (m:List (Int × Bool)) (x y:Int):Mk (o7 m x true) y↔y=x\/Mk m y:=by
 unfold Mk;rw[pV];by_cases q:y=x
 .simp[q]
 .simp[q]
omit hR in
theorem RF {m:List (Int × Bool)} {x:Int} (hx:x∈lv s) (hm:¬Mk m x):Jq s (o7 m x true)<Jq s m:=by
 unfold Jq;refine filter_lt (λy _ h=>?_) x hx (by simpa[Mk] using hm) ?_
 .by_cases q:Mk m y
  .have:=(dH m x y).2 (.inr q);unfold Mk at this;rw[this] at h;cases h
  .simpa[Mk] using q
 .have:=(dH m x x).2 (.inl rfl);unfold Mk at this;rw[this];rfl
structure FL (s:b6) (l:List Int) (q:c9) (m:List (Int × Bool)):Prop where
 nd:q.L.Nodup
 cap:q.Cap=((lv s).length:Int)
 iv:∀x∈q.L,Mk m x
 rc:∀x,Mk m x->rW s l x
omit hR in
theorem FL.room {l:List Int} {q:c9} {m:List (Int × Bool)} (h:FL s l q m) {x:Int} (hx:x∈lv s) (hm:¬Mk m x):q.L.length<(lv s).length:=by
 have:(x::q.L).length<=(lv s).length:=Z3 (me.2 ⟨λk=>hm (h.iv x k),h.nd⟩) λy hy=>by
  rcases zM.1 hy with rfl | k
  .exact hx
  .exact (h.rc y (h.iv y k)).live
 simp only[zH] at this;omega
omit hR in
theorem IU {q:c9} {x:Int} (h:(q.L.length:Int)<q.Cap) (h2:q.L.length<=1000):D3 q x=some (⟨q.L ++ [x],q.Cap⟩,0):=by
 unfold D3 H3 T2;rw[Yy,za (by simp;omega)];have:=uG (xs:=q.L) (i:=0) (j:=q.L.length) (by omega) (zE _);rw[show ((0:Nat):Int)=0 from rfl] at this;rw[this];simp only[zR,List.drop_zero,Yy];rw[K5 (by omega) (by simp;omega)];rfl
omit hR in
theorem NK {x:Int} {r:List Int} {c:Int} (h2:r.length<=1000):W4 ⟨x::r,c⟩=some (⟨r,c⟩,x,0):=by
 unfold W4 iD H3 T2;simp only[Yy,zH];have e:(if (if (((r.length+1:Nat):Int))<1 then (((r.length+1:Nat):Int)) else 1) > 0 then (if (((r.length+1:Nat):Int))<1 then (((r.length+1:Nat):Int)) else 1) else 0:Int)=((1:Nat):Int):=by
  rw[za (show ¬(((r.length+1:Nat):Int)<1) by omega)];rfl
 rw[e];have h1:=uG (xs:=x::r) (i:=0) (j:=1) (by omega) (by simp);have h3:=uG (xs:=x::r) (i:=1) (j:=r.length+1) (by omega) (by simp);rw[show ((0:Nat):Int)=0 from rfl] at h1;rw[h1,h3];simp only[Yy];have e1:List.drop 0 (List.take 1 (x::r)) = [x]:=by simp
 have e2:List.drop 1 (List.take (r.length+1) (x::r))=r:=by simp
 rw[e1,e2];rfl
abbrev EM(s:b6)(xs:List Int):Int × c9 × (List (Int × Bool))->Option ((Int × c9 × (List (Int × Bool))) ⊕ (c9 × (List (Int × Bool)))):=
 λ(s114,s115,s116)=>
   if (decide (s114<(xs.length:Int))) then
     (ix xs s114).bind λv126=>
     (cu s v126).bind λv127=>
     if (v127==true) then
      if (!((y9 s116 v126).getD (false:Bool))) then
       (D3 s115 v126).bind λv128=>
       some (.inl (u7 (s114+1),v128.1,(o7 s116 v126 true)))
      else
      some (.inl (u7 (s114+1),s115,s116))
     else
     some (.inl (u7 (s114+1),s115,s116))
   else
   some (.inr (s115,s116))
theorem BB{l xs:List Int}{q:c9}{m:List (Int × Bool)}(hxs:LB xs)(hlen:xs.length<=1000000)(h0:FL s l q m)(hr:∀x∈xs,x∈lv s->rW s l x) :
  ∃q' m',lp (EM s xs) (0,q,m)=some (q',m')/\FL s l q' m'/\(∀x,Mk m' x↔Mk m x\/x∈xs/\x∈lv s)/\(∀x,Mk m' x->Mk m x\/x∈q'.L)/\(∀x∈q.L,x∈q'.L)/\2*Jq s m'+q'.L.length<=2*Jq s m+q.L.length:=by
 have:=jB (f:=EM s xs) (t0:=(q,m)) xs.length (λk t=>FL s l t.1 t.2/\(∀x,Mk t.2 x↔Mk m x\/x∈xs.take k/\x∈lv s)/\(∀x,Mk t.2 x->Mk m x\/x∈t.1.L)/\(∀x∈q.L,x∈t.1.L)/\2*Jq s t.2+t.1.L.length<=2*Jq s m+q.L.length)
  (λt=>FL s l t.1 t.2/\(∀x,Mk t.2 x↔Mk m x\/x∈xs/\x∈lv s)/\(∀x,Mk t.2 x->Mk m x\/x∈t.1.L)/\(∀x∈q.L,x∈t.1.L)/\2*Jq s t.2+t.1.L.length<=2*Jq s m+q.L.length) (by omega)
  ⟨h0,λx=>by simp,λx h=>.inl h,λx h=>h,zE _⟩ (λk t hk hP=>?_) (λt hP=>?_)
 .obtain⟨⟨q',m'⟩,h1,h2⟩:=this;exact⟨q',m',h1,h2⟩
 .obtain⟨q1,m1⟩:=t;obtain⟨p1,p2,p3,p4,p5⟩:=hP;simp only at p1 p2 p3 p4 p5;left;have hle:=hxs _ (zh hk);have ht:∀x,x∈xs.take (k+1)↔x∈xs.take k\/x=xs[k]:=λx=>by rw[zx hk,zu,zp]
  simp only[EM,wp,hk,t6,wn,s7 hk,Yy,Ki hR hle];by_cases hv:xs[k]∈lv s
  .rw[zb (by simpa using hv)];by_cases hm:Mk m1 xs[k]
   .rw[za (by rw[show (y9 m1 xs[k]).getD false=true from hm];decide),n9];refine⟨(q1,m1),rfl,p1,λx=>?_,p3,p4,p5⟩;rw[p2,ht];constructor
    .rintro (a | ⟨a,b⟩);·exact .inl a
     .exact .inr ⟨.inl a,b⟩
    .rintro (a | ⟨a | rfl,b⟩);·exact .inl a
     .exact .inr ⟨a,b⟩
     .exact (p2 _).1 hm
   .have hm':(y9 m1 xs[k]).getD false=false:=by simpa[Mk] using hm
    have hroom:=p1.room hv hm;have hl24:=M1 hR;rw[zb (by rw[hm'];decide),IU (by rw[p1.cap];omega) (by omega),Yy,n9];refine⟨(⟨q1.L ++ [xs[k]],q1.Cap⟩,o7 m1 xs[k] true),rfl,⟨?_,p1.cap,λx hx=>?_,λx hx=>?_⟩,λx=>?_,λx hx=>?_,λx hx=>?_,?_⟩
    .simp only;rw[zbt];refine⟨p1.nd,by simp,λa ha b hb e=>?_⟩;rw[zp] at hb;subst hb;subst e;exact hm (p1.iv _ ha)
    .simp only[zu,zp] at hx;rw[dH];rcases hx with a | a
     .exact .inr (p1.iv x a)
     .exact .inl a
    .rcases (dH m1 xs[k] x).1 hx with rfl | a
     .exact hr _ (zh hk) hv
     .exact p1.rc x a
    .simp only;rw[dH,p2,ht];constructor
     .rintro (rfl | a | ⟨a,b⟩);·exact .inr ⟨.inr rfl,hv⟩
      .exact .inl a
      .exact .inr ⟨.inl a,b⟩
     .rintro (a | ⟨a | a,b⟩);·exact .inr (.inl a)
      .exact .inr (.inr ⟨a,b⟩)
      .exact .inl a
    .simp only[zu,zp];rcases (dH m1 xs[k] x).1 hx with a | a
     .exact .inr (.inr a)
     .rcases p3 x a with b | b
      .exact .inl b
      .exact .inr (.inl b)
    .simp only[zu];exact .inl (p4 x hx)
    .have:=RF hv hm;simp only[zK,List.length_singleton];omega
  .rw[za (by simpa using hv),n9];refine⟨(q1,m1),rfl,p1,λx=>?_,p3,p4,p5⟩;rw[p2,ht];constructor
   .rintro (a | ⟨a,b⟩);·exact .inl a
    .exact .inr ⟨.inl a,b⟩
   .rintro (a | ⟨a | rfl,b⟩);·exact .inl a
    .exact .inr ⟨a,b⟩
    .exact absurd b hv
 .obtain⟨q1,m1⟩:=t;refine⟨(q1,m1),?_,?_⟩;·simp only[EM,zbd,zbz,zD,qr]
  .simpa using hP
theorem BI(hF:FB s){l:List Int}(hl:LB l)(hlen:l.length<=1000000):∃m,fw s l=some m/\∀x,Mk m x↔rW s l x:=by
 unfold fw aV;simp only[jn,gB hR,Yy];have h24:=M1 hR;obtain⟨q0,m0,e0,i0,i1,i2,i3,i4⟩:=BB hR (l:=l) (xs:=l) (q:=⟨[],((lv s).length:Int)⟩) (m:=[]) hl hlen ⟨zb3,rfl,(λx hx=>by cases hx),(λx hx=>by simp[Mk,y9] at hx)⟩ (λx h1 h2=>.base h1 h2);rw[show lp _ _=_ from e0,Yy];simp only;have hu:Jq s []<=24:=zO (zA ..) h24;obtain⟨m,h1,h2⟩:=uS (s0:=(q0,m0)) (f:=λ((s70,s71):c9 × (List (Int × Bool)))=>
    (H3 s70).bind λv74=>
    if (decide (v74 > 0)) then
     (W4 s70).bind λv75=>
     (lW s v75.2.1).bind λv76=>
      (lp (EM s v76) (0,v75.1,s71)).bind λe97=>
      (some (.inl (e97.1,e97.2)):Option ((c9 × List (Int × Bool)) ⊕ List (Int × Bool)))
    else
    some (.inr s71)) (λt=>FL s l t.1 t.2/\(∀x∈l,x∈lv s->Mk t.2 x)/\∀a,Mk t.2 a->a∈t.1.L\/∀b∈outs s a,b∈lv s->Mk t.2 b) (λm=>∀x,Mk m x↔rW s l x) (λt=>2*Jq s t.2+t.1.L.length)
   ⟨i0,λx h1 h2=>(i1 x).2 (.inr ⟨h1,h2⟩),λa ha=>.inl ((i2 a ha).resolve_left (by simp[Mk,y9]))⟩ (by show 2*Jq s m0+q0.L.length<_;simp only[zag] at i4;omega) (by
   rintro⟨q,m⟩ ⟨p1,p2,p3⟩;simp only at p1 p2 p3 |-;have hq:=Z3 p1.nd λx hx=>(p1.rc x (p1.iv x hx)).live;unfold H3;rw[Yy];cases hqL:q.L with
   | nil=>
    right;refine⟨m,by rw[za (by simp)],λx=>⟨p1.rc x,λh=>?_⟩⟩;induction h with
    | base a b=>exact p2 _ a b
    | step _ a b ih=>
     rcases p3 _ ih with c | c
     .rw[hqL] at c;cases c
     .exact c _ a b
   | cons a r=>
    left;have hqe:q=⟨a::r,q.Cap⟩:=by rw[<-hqL]
    have hal:a∈lv s:=(p1.rc a (p1.iv a (by rw[hqL];exact zg ..))).live;have ha:a<=9223372036854775807:=by have:=pb hR hal;omega
    have hnd:=p1.nd;rw[hqL] at hnd hq;simp only[zH] at hq;obtain⟨q',m',e1,j0,j1,j2,j3,j4⟩:=BB hR (l:=l) (xs:=outs s a) (q:=⟨r,q.Cap⟩) (m:=m) (λx hx=>QS hR hF ha hx) (by have:=yw hR a ha;omega) ⟨(me.1 hnd).2,p1.cap,λx hx=>p1.iv x (by rw[hqL];exact zn _ hx),p1.rc⟩ (λx h1 h2=>.step (p1.rc a (p1.iv a (by rw[hqL];exact zg ..))) h1 h2);refine⟨(q',m'),?_,⟨j0,λx h1 h2=>(j1 x).2 (.inl (p2 x h1 h2)),λb hb=>?_⟩,?_⟩
    .rw[zb (by simp),hqe,NK (by omega),Yy];simp only;rw[Ny hR ha,Yy,e1,Yy]
    .simp only at hb |-;rcases j2 b hb with c | c
     .rcases p3 b c with d | d
      .rw[hqL] at d;rcases zM.1 d with rfl | d
       .exact .inr λy h1 h2=>(j1 y).2 (.inr ⟨h1,h2⟩)
       .exact .inl (j3 b d)
      .exact .inr λy h1 h2=>(j1 y).2 (.inl (d y h1 h2))
     .exact .inl c
    .show 2*Jq s m'+q'.L.length<2*Jq s m+(a::r).length;simp only[zH] at j4 |-;omega)
 refine⟨m,?_,h2⟩;rw[show lp _ _=_ from h1];rfl
end
theorem MF(l:List Int)(x:Int)(hl:l.length<=1000000):∃r:Int,G9 l x=some r/\(0<=r↔x∈l):=by
 unfold G9;simp only[jn];by_cases h:x∈l
 .obtain⟨i,hi,e⟩:=List.mem_iff_getElem.1 h;obtain⟨j,⟨hj,ej⟩,hmin⟩:=dz (p:=λi=>∃hi:i<l.length,l[i]=x) ⟨i,hi,e⟩;refine⟨(j:Int),?_,by simp[h]⟩;refine eO l.length (λk=>k<=j) (by omega) (zV _) (λk hk hP=>?_) (λhP=>by omega);simp only[wp,hk,t6,wn,s7 hk,Yy];rcases zF k j with q | q
  .refine .inl ⟨?_,q⟩;rw[za (by
    rw[pu];intro e;have:=hmin k ⟨hk,e.symm⟩;omega),n9]
  .have:k=j:=by omega
   subst this;exact .inr ⟨_,by rw[zb (by simpa using ej.symm)],rfl⟩
 .refine⟨-1,?_,by simp[h]⟩;refine eO l.length (λk=>True) (by omega) trivial (λk hk hP=>.inl ⟨?_,trivial⟩) (λhP=>⟨.inr (),by simp,rfl⟩);simp only[wp,hk,t6,wn,s7 hk,Yy];rw[za (by
   rw[pu];intro e;exact h (e▸zh hk)),n9]
theorem contains_eq(l:List Int)(x:Int)(hl:l.length<=1000000):E2 l x=some (decide (x∈l)):=by
 obtain⟨r,h1,h2⟩:=MF l x hl;unfold E2;rw[h1,Yy];congr 1;exact zbo.2 h2
section
variable{s:b6}(hR:wc (sO s))
include hR
open Classical in
theorem Ic (hF:FB s) {l:List Int} (hl:LB l) (hlen:l.length<=1000000):jJ s l=some (GR s l):=by
 obtain⟨m,h1,h2⟩:=BI hR hF hl hlen;unfold jJ W5 iU;rw[h1,Yy];simp only[jn,gB hR,Yy];have h24:=M1 hR;rw[U7 (lv s) (λacc x=>if decide (rW s l x) then acc ++ [x] else acc) id (λk acc=>acc.length<=k) (by omega) (by simp) (λk hk acc hb=>?_) (λb _=>?_)]
 .simp only[Yy,id];rw[foldl_filter];rfl
 .simp only[wp,hk,t6,wn,s7 hk,Yy];by_cases q:rW s l (lv s)[k]
  .rw[zb ((h2 _).2 q),zb (by simpa using q),K5 (by omega) (by simp;omega),Yy,n9];exact⟨rfl,by simp;omega⟩
  .rw[za (λk=>q ((h2 _).1 k)),za (by simpa using q),n9];exact⟨rfl,by omega⟩
 .simp only[zbd,zbz,zD,qr];rfl
open Classical in
theorem Qt (hF:FB s) {l:List Int} (hl:LB l) (hlen:l.length<=1000000):nn s l=some (lst s l):=by
 obtain⟨m,h1,h2⟩:=BI hR hF hl hlen;unfold nn W6 iV;rw[h1,Yy];simp only[jn,gB hR,Yy];have h24:=M1 hR;rw[U7 (lv s) (λacc x=>if decide (¬rW s l x) then acc ++ [x] else acc) id (λk acc=>acc.length<=k) (by omega) (by simp) (λk hk acc hb=>?_) (λb _=>?_)]
 .simp only[Yy,id];rw[foldl_filter];rfl
 .simp only[wp,hk,t6,wn,s7 hk,Yy];by_cases q:rW s l (lv s)[k]
  .have e:(y9 m (lv s)[k]).getD false=true:=(h2 _).2 q;rw[za (by rw[e];decide),za (by simpa using q),n9];exact⟨rfl,by omega⟩
  .have e:(y9 m (lv s)[k]).getD false=false:=by
    have:¬Mk m (lv s)[k]:=λk=>q ((h2 _).1 k);simpa[Mk] using this
   rw[zb (by rw[e];decide),zb (by simpa using q),K5 (by omega) (by simp;omega),Yy,n9];exact⟨rfl,by simp;omega⟩
 .simp only[zbd,zbz,zD,qr];rfl
end
abbrev Tb:=List e6
abbrev eN(p:e6):I2:=⟨p.State,p.Key,p.Val⟩
def pt(t:Tb)(j:Nat):e6:=t.getD j ⟨0,0,0⟩
theorem lP{t:Tb}{j:Nat}(h:j<t.length):pt t j=t[j]:=by unfold pt;rw[zd,zc h];rfl
theorem Ek{t:Tb}{j:Nat}(h:j<t.length):ix t (j:Int)=some (pt t j):=by rw[s7 h,lP h]
theorem yx{t:Tb}{i:Nat}(h:i<t.length)(p:e6)(j:Nat):pt (t.set i p) j=if j=i then p else pt t j:=by
 unfold pt;rw[zd,zd,List.getElem?_set];by_cases e:i=j
 .subst e;simp[h]
 .rw[za e,za (za2 e)]
def hm(n:Nat)(k:Int):Nat:=(u7 ((u7 (5*k))+1) % (n:Int)).toNat
theorem Sg{n:Nat}(h:1<=n)(k:Int):hm n k<n:=by
 unfold hm;have h1:=Int.emod_nonneg (u7 ((u7 (5*k))+1)) (show (n:Int)≠0 by omega);have h2:=Int.emod_lt_of_pos (u7 ((u7 (5*k))+1)) (show (0:Int)<n by omega);omega
theorem Ik{n:Nat}(h:1<=n)(h2:n<=1000)(k:Int):dS n k=some (hm n k:Int):=by
 unfold dS hm;rw[za (by simp;omega)];generalize u7 ((u7 (5*k))+1)=a;have hp:=Int.emod_nonneg a (show (n:Int)≠0 by omega);have hl:=Int.emod_lt_of_pos a (show (0:Int)<n by omega);unfold rem;rw[za (by omega),Yy,Int.toNat_of_nonneg hp];rw[Int.tmod_eq_emod];split;·rw[show a % (n:Int)-((0:Nat):Int)=a % n by simp,za (by simp;omega)]
 .have:((n:Int).natAbs:Int)=n:=by simp
  rw[this];rw[zb (by simp;omega),P1 (by omega) (by omega)];congr 1;omega
def pos(n:Nat)(k:Int)(d:Nat):Nat:=(hm n k+d) % n
theorem rH{n:Nat}(h:1<=n)(k:Int)(d:Nat):pos n k d<n:=Nat.mod_lt _ h
theorem SD{n:Nat}(h:1<=n)(h8:n<=8):n=1\/n=2\/n=3\/n=4\/n=5\/n=6\/n=7\/n=8:=by omega
theorem Nf{n m i:Nat}(h:1<=n)(h8:n<=8)(hm:m<n)(hi:i<n):∃d,d<n/\(m+d) % n=i:=by
 refine⟨(i+n-m) % n,Nat.mod_lt _ h,?_⟩;rcases SD h h8 with rfl | rfl | rfl | rfl | rfl | rfl | rfl | rfl <;> omega
theorem QC{n m d d':Nat}(h:1<=n)(h8:n<=8)(hd:d<n)(hd':d'<n)(e:(m+d) % n=(m+d') % n):d=d':=by
 rcases SD h h8 with rfl | rfl | rfl | rfl | rfl | rfl | rfl | rfl <;> omega
theorem EJ{n:Nat}(h:1<=n)(h8:n<=8)(k:Int){i:Nat}(hi:i<n):∃d,d<n/\pos n k d=i:=Nf h h8 (Sg h k) hi
theorem QY{n:Nat}(h:1<=n)(h8:n<=8){k:Int}{d d':Nat}(hd:d<n)(hd':d'<n)(e:pos n k d=pos n k d'):d=d':=QC h h8 hd hd' e
structure HR (t:Tb):Prop where
 l1:1<=t.length
 l8:t.length<=8
 st:∀i,i<t.length->((pt t i).State=0\/(pt t i).State=1\/(pt t i).State=2)/\((pt t i).State≠1->(pt t i).Key=0/\(pt t i).Val=0)
 uq:∀i j,i<t.length->j<t.length->(pt t i).State=1->(pt t j).State=1->(pt t i).Key=(pt t j).Key->i=j
 rd:∀i,i<t.length->(pt t i).State=1->∀d,d<t.length->(∀d',d'<=d->pos t.length (pt t i).Key d'≠i)->(pt t (pos t.length (pt t i).Key d)).State≠0
def Fk(t:Tb)(k:Int)(i:Nat):Prop:=i<t.length/\(pt t i).State=1/\(pt t i).Key=k
instance(t:Tb)(k:Int)(i:Nat):Decidable (Fk t k i):=by unfold Fk;infer_instance
theorem step_eq{n:Nat}(h:1<=n)(h2:n<=1000)(k:Int){d:Nat}(hd:d<n):rem (u7 ((hm n k:Int)+d)) n=some ((pos n k d:Nat):Int):=by
 have:=Sg h k;rw[P1 (by omega) (by omega),CZ (by omega) (by omega)];unfold pos;simp[Int.natCast_emod]
theorem Be{t:Tb}(h1:1<=t.length)(h8:t.length<=8)(k:Int) :
  (∃d,d<t.length/\(∀j,j<d->(pt t (pos t.length k j)).State≠0/\¬Fk t k (pos t.length k j))/\Fk t k (pos t.length k d)/\aQ t k=some ((pos t.length k d:Nat):Int)) \/
  (∃d,d<=t.length/\(∀j,j<d->(pt t (pos t.length k j)).State≠0/\¬Fk t k (pos t.length k j))/\(d=t.length\/(pt t (pos t.length k d)).State=0)/\aQ t k=some (-1)):=by
 unfold aQ;simp only[jn,je,Yy];generalize hq:(lp (S:=Int) (E:=Int ⊕ Unit) _ 0)=q;have body:∀d:Nat,d<t.length->(if (decide ((d:Int)<(t.length:Int))) then
    (dS (t.length:Int) k).bind λv14=>
    (rem (u7 (v14+d)) (t.length:Int)).bind λv15=>
    (ix t v15).bind λv16=>
    if (v16.State==0) then
     some (.inr (.inr ()))
    else
    if ((v16.State==1)&&(v16.Key==k)) then
     some (.inr (.inl v15))
    else
    some (.inl (u7 ((d:Int)+1)))
   else
   some (.inr (.inr ())):Option (Int ⊕ (Int ⊕ Unit)))=if (pt t (pos t.length k d)).State=0 then some (.inr (.inr ())) else if Fk t k (pos t.length k d) then some (.inr (.inl ((pos t.length k d:Nat):Int))) else some (.inl ((d+1:Nat):Int)):=λd hd=>by
  have hp:=rH h1 k d;rw[zb (by simpa using hd),Ik h1 (by omega),Yy,step_eq h1 (by omega) k hd,Yy,Ek hp,Yy,n9 (by omega)];by_cases a:(pt t (pos t.length k d)).State=0
  .rw[zb (by simpa using a),zb a]
  .rw[za (by simpa using a),za a];by_cases b:Fk t k (pos t.length k d)
   .rw[zb (by simp[b.2.1,b.2.2]),zb b]
   .rw[za (by simp;exact λh1 h2=>b ⟨hp,h1,h2⟩),za b]
 have key:=Br (f:=λ(s12:Int)=>if (decide (s12<(t.length:Int))) then
    (dS (t.length:Int) k).bind λv14=>
    (rem (u7 (v14+s12)) (t.length:Int)).bind λv15=>
    (ix t v15).bind λv16=>
    if (v16.State==0) then
     some (.inr (.inr ()))
    else
    if ((v16.State==1)&&(v16.Key==k)) then
     some (.inr (.inl v15))
    else
    some (.inl (u7 (s12+1)))
   else
   some (.inr (.inr ()))) t.length (λd=>∀j,j<d->(pt t (pos t.length k j)).State≠0/\¬Fk t k (pos t.length k j))
   (λ(e:Int ⊕ Unit)=>(∃d,d<t.length/\(∀j,j<d->(pt t (pos t.length k j)).State≠0/\¬Fk t k (pos t.length k j))/\Fk t k (pos t.length k d)/\e = .inl ((pos t.length k d:Nat):Int)) \/
    (∃d,d<=t.length/\(∀j,j<d->(pt t (pos t.length k j)).State≠0/\¬Fk t k (pos t.length k j))/\(d=t.length\/(pt t (pos t.length k d)).State=0)/\e = .inr ())) (by omega) (λj hj=>by omega)
   (λd hd hP=>by
    rw[body d hd];by_cases a:(pt t (pos t.length k d)).State=0
    .rw[zb a];exact .inr ⟨_,rfl,.inr ⟨d,by omega,hP,.inr a,rfl⟩⟩
    .rw[za a];by_cases b:Fk t k (pos t.length k d)
     .rw[zb b];exact .inr ⟨_,rfl,.inl ⟨d,hd,hP,b,rfl⟩⟩
     .rw[za b];refine .inl ⟨rfl,λj hj=>?_⟩;rcases zF j d with q | q
      .exact hP j q
      .have:j=d:=by omega
       subst this;exact⟨a,b⟩)
   (λhP=>⟨.inr (),by simp,.inr ⟨t.length,zE _,hP,.inl rfl,rfl⟩⟩)
 obtain⟨e,he,hQ⟩:=key;rw[he] at hq;subst hq;rcases hQ with ⟨d,a1,a2,a3,rfl⟩ | ⟨d,a1,a2,a3,rfl⟩;·exact .inl ⟨d,a1,a2,a3,rfl⟩
 .exact .inr ⟨d,a1,a2,a3,rfl⟩
theorem sH{t:Tb}(hR:HR t){k:Int}{i:Nat}(hi:Fk t k i):aQ t k=some (i:Int):=by
 obtain⟨di,hdi,hpi⟩:=EJ hR.l1 hR.l8 k hi.1;have road:∀d,d<di->(pt t (pos t.length k d)).State≠0:=λd hd=>by
  have:=hR.rd i hi.1 hi.2.1 d (by omega) (λd' hd' e=>by
   rw[hi.2.2] at e;have:=QY hR.l1 hR.l8 (by omega) hdi (e.trans hpi.symm);omega)
  rwa [hi.2.2] at this
 rcases Be hR.l1 hR.l8 k with ⟨d,a1,a2,a3,a4⟩ | ⟨d,a1,a2,a3,a4⟩;·rw[a4,hR.uq _ i (rH hR.l1 k d) hi.1 a3.2.1 hi.2.1 (by rw[a3.2.2,hi.2.2])]
 .exfalso;rcases zF di d with q | q
  .exact (a2 di q).2 (by rw[hpi];exact hi)
  .rcases a3 with rfl | a3
   .omega
   .rcases zF d di with q' | q'
    .exact road d q' a3
    .have:d=di:=by omega
     subst this;rw[hpi,hi.2.1] at a3;cases a3
theorem sG{t:Tb}(h1:1<=t.length)(h8:t.length<=8){k:Int}(hi:∀i,¬Fk t k i):aQ t k=some (-1):=by
 rcases Be h1 h8 k with ⟨d,a1,a2,a3,a4⟩ | ⟨d,a1,a2,a3,a4⟩;·exact absurd a3 (hi _)
 .exact a4
theorem Bf(t:Tb)(k:Int):(∃i,Fk t k i)\/∀i,¬Fk t k i:=by
 by_cases h:∃i,Fk t k i
 .exact .inl h
 .exact .inr λi hi=>h ⟨i,hi⟩
theorem Al{t:Tb}{i:Nat}(h8:t.length<=1000)(hi:i<t.length)(p:e6):dT t (i:Int) p=some (t.set i p):=by
 unfold dT E7;rw[dj (by omega) (by omega),Yy,s7 hi,Yy,zP]
inductive xp (t:Tb) (k v:Int):Tb × Int->Prop
 | old (i:Nat) (hi:Fk t k i):xp t k v (t.set i ⟨1,k,v⟩,0)
 | new (d:Nat) (hn:∀i,¬Fk t k i) (hd:d<t.length) (hb:∀j,j<d->(pt t (pos t.length k j)).State=1) (hf:(pt t (pos t.length k d)).State≠1):xp t k v (t.set (pos t.length k d) ⟨1,k,v⟩,0)
 | full (hn:∀i,¬Fk t k i) (ha:∀i,i<t.length->(pt t i).State=1):xp t k v (t,8)
theorem NN{t:Tb}(hR:HR t)(k v:Int):∃r,oR t k v=some r/\xp t k v r:=by
 have h1:=hR.l1;have h8:=hR.l8;unfold oR;rcases Bf t k with ⟨i,hi⟩ | hn
 .rw[sH hR hi,Yy,zb (by simp),Al (by omega) hi.1];exact⟨_,rfl,.old i hi⟩
 .rw[sG h1 h8 hn,Yy,za (by decide)];simp only[jn,je,Yy];have key:=Br (f:=λ(s15:Int)=>
   if (decide (s15<(t.length:Int))) then
    (dS (t.length:Int) k).bind λv17=>
    (rem (u7 (v17+s15)) (t.length:Int)).bind λv18=>
    (ix t v18).bind λv19=>
    if (v19.State != 1) then
     (dT t v18 (⟨1,k,v⟩:e6)).bind λv20=>
     some (Sum.inr (.inl (v20,(0:Int))))
    else
    some (.inl (u7 (s15+1)))
   else
   some (.inr (.inr ()))) t.length (λd=>∀j,j<d->(pt t (pos t.length k j)).State=1)
   (λ(e:(Tb × Int) ⊕ Unit)=>(∃r,e = .inl r/\xp t k v r)\/(e = .inr ()/\xp t k v (t,8))) (by omega) (λj hj=>by omega)
   (λd hd hP=>by
    have hp:=rH h1 k d;rw[zb (by simpa using hd),Ik h1 (by omega),Yy,step_eq h1 (by omega) k hd,Yy,Ek hp,Yy];by_cases a:(pt t (pos t.length k d)).State=1
    .rw[za (by simpa using a),n9 (by omega)];refine .inl ⟨rfl,λj hj=>?_⟩;rcases zF j d with q | q
     .exact hP j q
     .have:j=d:=by omega
      subst this;exact a
    .rw[zb (by simpa using a),Al (by omega) hp,Yy];exact .inr ⟨_,rfl,.inl ⟨_,rfl,.new d hn hd hP a⟩⟩)
   (λhP=>⟨.inr (),by simp,.inr ⟨rfl,.full hn λi hi=>by
    obtain⟨d,hd,rfl⟩:=EJ h1 h8 k hi;exact hP d hd⟩⟩)
  obtain⟨e,he,hQ⟩:=key;rw[he,Yy];rcases hQ with ⟨r,rfl,hr⟩ | ⟨rfl,hr⟩;·exact⟨r,rfl,hr⟩
  .exact⟨_,rfl,hr⟩
theorem Mt{t:Tb}(hR:HR t){k:Int}{i:Nat}(hi:Fk t k i):Y6 t k=some ((pt t i).Val,0):=by
 unfold Y6;rw[sH hR hi,Yy,za (by simp),Ek hi.1,Yy]
theorem Ms{t:Tb}(hR:HR t){k:Int}(hi:∀i,¬Fk t k i):Y6 t k=some (0,9):=by
 unfold Y6;rw[sG hR.l1 hR.l8 hi,Yy,zb (by decide)]
theorem sA{t:Tb}(hR:HR t){k:Int}{i:Nat}(hi:Fk t k i):aP t k=some (t.set i ⟨2,0,0⟩,(pt t i).Val,0):=by
 have:=hR.l8;unfold aP;rw[sH hR hi,Yy,za (by simp),Al (by omega) hi.1,Yy,Ek hi.1,Yy]
theorem sz{t:Tb}(hR:HR t){k:Int}(hi:∀i,¬Fk t k i):aP t k=some (t,0,9):=by
 unfold aP;rw[sG hR.l1 hR.l8 hi,Yy,zb (by decide)]
theorem HR.set{t:Tb}(hR:HR t){i:Nat}(hi:i<t.length){p:e6}(h0:p.State=1\/p=⟨2,0,0⟩)
  (hu:p.State=1->∀j,j≠i->¬Fk t p.Key j)(hr:p.State=1->∀d,d<t.length->(∀d',d'<=d->pos t.length p.Key d'≠i)->(pt t (pos t.length p.Key d)).State≠0):HR (t.set i p):=by
 have hnz:p.State≠0:=by
  rcases h0 with h | rfl
  .omega
  .simp
 refine⟨by simpa using hR.l1,by simpa using hR.l8,λj hj=>?_,λj j' hj hj' s1 s2 hk=>?_,λj hj s1 d hd hne=>?_⟩ <;> simp only[zap] at *
 .rw[yx hi];split
  .rcases h0 with h | rfl
   .exact⟨.inr (.inl h),λq=>absurd h q⟩
   .exact⟨.inr (.inr rfl),λ_=>⟨rfl,rfl⟩⟩
  .exact hR.st j hj
 .rw[yx hi] at s1 s2 hk;rw[yx hi] at hk;by_cases e1:j=i <;> by_cases e2:j'=i
  .rw[e1,e2]
  .rw[zb e1] at s1 hk;rw[za e2] at s2 hk;exact absurd ⟨hj',s2,hk.symm⟩ (hu s1 j' e2)
  .rw[za e1] at s1 hk;rw[zb e2] at s2 hk;exact absurd ⟨hj,s1,hk⟩ (hu s2 j e1)
  .rw[za e1] at s1 hk;rw[za e2] at s2 hk;exact hR.uq j j' hj hj' s1 s2 hk
 .simp only[yx hi] at s1 hne |-;by_cases e1:j=i
  .simp only[zb e1] at s1 hne |-;split;·exact hnz
   .exact hr s1 d hd (by rw[<-e1];exact hne)
  .simp only[za e1] at s1 hne |-;split;·exact hnz
   .exact hR.rd j hj s1 d hd hne
theorem yy{t:Tb}(hR:HR t){k v:Int}{r:Tb × Int}(h:xp t k v r):HR r.1:=by
 cases h with
 | old i hi=>
  refine hR.set hi.1 (.inl rfl) (λ_ j hj q=>hj (hR.uq j i q.1 hi.1 q.2.1 hi.2.1 (q.2.2.trans hi.2.2.symm))) λ_ d hd hne=>?_;have:=hR.rd i hi.1 hi.2.1 d hd (by rw[hi.2.2];exact hne);rwa [hi.2.2] at this
 | new d hn hd hb hf=>
  refine hR.set (rH hR.l1 k d) (.inl rfl) (λ_ j _=>hn j) λ_ d' hd' hne=>?_;rcases zF d' d with q | q
  .have:=hb d' q;simp only;omega
  .exact absurd rfl (hne d q)
 | full hn ha=>exact hR
theorem oG{t:Tb}(hR:HR t){i:Nat}(hi:i<t.length):HR (t.set i ⟨2,0,0⟩):=hR.set hi (.inr rfl) (λq=>by cases q) λq=>by cases q
theorem Xl{t:Tb}{j:Nat}(h:j<t.length):ix (t.map eN) (j:Int)=some (eN (pt t j)):=by rw[te,Ek h];rfl
theorem NW{t:Tb}(h8:t.length<=1000){k:Int}{i:Nat}(hi:Fk t k i)(hf:∀j,j<i->¬Fk t k j):lU (t.map eN) k=some (i:Int):=by
 unfold lU;simp only[jn];refine eO t.length (λj=>j<=i) (by omega) (zV _) (λj hj hP=>?_) (λhP=>by have:=hi.1;omega);rw[zb (by simpa using hj),Xl hj,Yy];by_cases e:j=i
 .subst e;exact .inr ⟨.inl (j:Int),by rw[zb (by simp[eN,hi.2.1,hi.2.2])],rfl⟩
 .have:=hf j (by omega);refine .inl ⟨by rw[za (by simp[eN];exact λh1 h2=>this ⟨hj,h1,h2⟩),n9 (by omega)],by omega⟩
theorem NV{t:Tb}(h8:t.length<=1000){k:Int}(hf:∀j,¬Fk t k j):lU (t.map eN) k=some (-1):=by
 unfold lU;simp only[jn];refine eO t.length (λj=>True) (by omega) trivial (λj hj hP=>?_) (λhP=>⟨.inr (),by simp,rfl⟩);rw[zb (by simpa using hj),Xl hj,Yy];refine .inl ⟨by rw[za (by simp[eN];exact λh1 h2=>hf j ⟨hj,h1,h2⟩),n9 (by omega)],trivial⟩
theorem Ml{t:Tb}{k:Int}(h:∃i,Fk t k i):∃i,Fk t k i/\∀j,j<i->¬Fk t k j:=by
 obtain⟨i,h1,h2⟩:=dz h;exact⟨i,h1,λj hj q=>by have:=h2 j q;omega⟩
theorem KP{t:Tb}{i:Nat}(h8:t.length<=1000)(hi:i<t.length)(p:e6):yC (t.map eN) (i:Int) (eN p)=some ((t.set i p).map eN):=by
 unfold yC;rw[dj (by omega) (by simp;omega),Yy,Xl hi,Yy,zP,zcp]
def Has(t:Tb)(k v:Int):Prop:=∃i,Fk t k i/\(pt t i).Val=v
theorem TH{t:Tb}{k:Int}:(∀v,¬Has t k v)↔∀i,¬Fk t k i:=by
 constructor;·intro h i hi;exact h _ ⟨i,hi,rfl⟩
 .rintro h v ⟨i,hi,_⟩;exact h i hi
theorem TI(t:Tb)(k:Int):(∃v,Has t k v)\/∀v,¬Has t k v:=by
 by_cases h:∃v,Has t k v
 .exact .inl h
 .exact .inr λv hv=>h ⟨v,hv⟩
theorem Has.fn{t:Tb}(hR:HR t){k v v':Int}(h:Has t k v)(h':Has t k v'):v=v':=by
 obtain⟨i,a,rfl⟩:=h;obtain⟨j,b,rfl⟩:=h';rw[hR.uq i j a.1 b.1 a.2.1 b.2.1 (a.2.2.trans b.2.2.symm)]
theorem Ig{t:Tb}(hR:HR t){k v:Int}(h:Has t k v):Y6 t k=some (v,0):=by
 obtain⟨i,a,rfl⟩:=h;exact Mt hR a
theorem Kg{t:Tb}(hR:HR t){k:Int}(h:∀v,¬Has t k v):Y6 t k=some (0,9):=Ms hR (TH.1 h)
theorem Cs{t:Tb}{i:Nat}(hi:i<t.length){k v:Int}(p:e6)(h:∀j,j≠i->Fk t p.Key j->p.State≠1)(k' v':Int) :
  Has (t.set i p) k' v'↔(p.State=1/\p.Key=k'/\p.Val=v')\/∃j,j≠i/\Fk t k' j/\(pt t j).Val=v':=by
 unfold Has Fk;simp only[zap,yx hi];constructor
 .rintro⟨j,⟨h1,h2,h3⟩,h4⟩;by_cases e:j=i
  .rw[zb e] at h2 h3 h4;exact .inl ⟨h2,h3,h4⟩
  .rw[za e] at h2 h3 h4;exact .inr ⟨j,e,⟨h1,h2,h3⟩,h4⟩
 .rintro (⟨h1,h2,h3⟩ | ⟨j,e,⟨h1,h2,h3⟩,h4⟩);·exact⟨i,by simp[hi,h1,h2,h3]⟩
  .exact⟨j,by simp[e,h1,h2,h3,h4]⟩
theorem xc{t:Tb}(hR:HR t){k v:Int}{r:Tb × Int}(h:xp t k v r)(h0:r.2=0)(k' v':Int):Has r.1 k' v'↔(k'=k/\v'=v)\/(k'≠k/\Has t k' v'):=by
 cases h with
 | old i hi=>
  rw[Cs (k:=k) (v:=v) hi.1 _ (λj hj q=>absurd (hR.uq j i q.1 hi.1 q.2.1 hi.2.1 (q.2.2.trans hi.2.2.symm)) hj)];constructor
  .rintro (⟨_,rfl,rfl⟩ | ⟨j,e,h1,h2⟩);·exact .inl ⟨rfl,rfl⟩
   .refine .inr ⟨λq=>?_,j,h1,h2⟩;subst q;exact e (hR.uq j i h1.1 hi.1 h1.2.1 hi.2.1 (h1.2.2.trans hi.2.2.symm))
  .rintro (⟨rfl,rfl⟩ | ⟨e,j,h1,h2⟩);·exact .inl ⟨rfl,rfl,rfl⟩
   .refine .inr ⟨j,λq=>?_,h1,h2⟩;subst q;exact e (h1.2.2.symm.trans hi.2.2)
 | new d hn hd hb hf=>
  rw[Cs (k:=k) (v:=v) (rH hR.l1 k d) _ (λj hj q=>absurd q (hn j))];constructor
  .rintro (⟨_,rfl,rfl⟩ | ⟨j,e,h1,h2⟩);·exact .inl ⟨rfl,rfl⟩
   .refine .inr ⟨λq=>?_,j,h1,h2⟩;subst q;exact hn j h1
  .rintro (⟨rfl,rfl⟩ | ⟨e,j,h1,h2⟩);·exact .inl ⟨rfl,rfl,rfl⟩
   .refine .inr ⟨j,λq=>?_,h1,h2⟩;subst q;exact hf h1.2.1
 | full hn ha=>cases h0
theorem sy{t:Tb}(hR:HR t){k:Int}{i:Nat}(hi:Fk t k i)(k' v':Int):Has (t.set i ⟨2,0,0⟩) k' v'↔k'≠k/\Has t k' v':=by
 rw[Cs (k:=k) (v:=0) hi.1 _ (λj hj q=>by simp)];constructor
 .rintro (⟨h,_⟩ | ⟨j,e,h1,h2⟩);·cases h
  .refine⟨λq=>?_,j,h1,h2⟩;subst q;exact e (hR.uq j i h1.1 hi.1 h1.2.1 hi.2.1 (h1.2.2.trans hi.2.2.symm))
 .rintro⟨e,j,h1,h2⟩;refine .inr ⟨j,λq=>?_,h1,h2⟩;subst q;exact e (h1.2.2.symm.trans hi.2.2)
def keys(t:Tb):List Int:=(t.filter (·.State==1)).map (·.Key)
theorem Gr{α β:Type}(p:α->Bool)(f:α->β)(l:List α)(k:Nat)(h:k<l.length):((l.take (k+1)).filter p).map f=((l.take k).filter p).map f++(if p l[k] then [f l[k]] else []):=by
 rw[zx h,za4,zaa];congr 1;simp only[or,List.filter_nil];split <;> rfl
theorem keys_eq{t:Tb}(h:t.length<=1000):lC t=some (keys t):=by
 unfold lC keys;simp only[jn];refine ca t.length (λk l=>l=((t.take k).filter (·.State==1)).map (·.Key)) (by omega) (by simp) ?_ (λl hl=>⟨_,by simp;rfl,by rw[hl,zR]⟩);rintro k l hk rfl;left;rw[Gr _ _ _ _ hk];rw[zb (by simpa using hk),s7 hk,Yy,n9 (by omega)];have hle:(List.map (·.Key) (List.filter (·.State==1) (List.take k t))).length<=1000:=by
  rw[zl];exact zO (zA ..) (by simp;omega)
 by_cases c:(t[k].State==1)=true
 .rw[zb c,zb c,K5 (by omega) (by simp only[zH,zag];omega),Yy];exact⟨_,rfl,rfl⟩
 .rw[za c,za c];exact⟨_,rfl,by simp⟩
theorem NU{t:Tb}(hR:HR t)(k:Int):lU (t.map eN) k=aQ t k:=by
 have h8:=hR.l8;rcases Bf t k with ⟨i,hi⟩ | hn
 .rw[sH hR hi];obtain⟨f,hf1,hf2⟩:=Ml ⟨i,hi⟩;rw[NW (by omega) hf1 hf2,hR.uq f i hf1.1 hi.1 hf1.2.1 hi.2.1 (hf1.2.2.trans hi.2.2.symm)]
 .rw[sG hR.l1 hR.l8 hn,NV (by omega) hn]
theorem UP{t:Tb}(hR:HR t)(k:Int):tQ (t.map eN) k=(aP t k).map λr=>(r.1.map eN,r.2):=by
 have h8:=hR.l8;rcases Bf t k with ⟨i,hi⟩ | hn
 .rw[sA hR hi];unfold tQ;rw[NU hR,sH hR hi,Yy,za (by simp)];have:=KP (t:=t) (by omega) hi.1 ⟨2,0,0⟩;dsimp only[eN] at this;rw[this,Yy,Xl hi.1];rfl
 .rw[sz hR hn];unfold tQ;rw[NU hR,sG hR.l1 hR.l8 hn];rfl
theorem EN{t:Tb}{k v:Int}{r:Tb × Int}(h:xp t k v r):r.1.length=t.length:=by cases h <;> simp
theorem jA(t:Tb):(keys t).length=t.countP (·.State==1):=by
 unfold keys;rw[zl,zbw]
theorem tf{t:Tb}{i:Nat}(h:i<t.length)(p:e6):(keys (t.set i p)).length+(if (pt t i).State=1 then 1 else 0)=(keys t).length+if p.State=1 then 1 else 0:=by
 rw[jA,jA,List.countP_set h,lP h];simp only[pu];have:(if t[i].State=1 then 1 else 0)<=t.countP λc=>c.State==1:=by
  split
  .rename_i e;exact zbx.2 ⟨t[i],zh h,by simpa using e⟩
  .exact zV _
 omega
theorem Kj{t:Tb}(h:∀i,i<t.length->(pt t i).State=1):(keys t).length=t.length:=by
 rw[jA,List.countP_eq_length];intro a ha;obtain⟨i,hi,rfl⟩:=wt ha;have:=h i hi;rw[lP hi] at this;simpa using this
theorem Qm{t:Tb}{i:Nat}(hi:i<t.length)(h:(pt t i).State≠1):(keys t).length<t.length:=by
 have h1:(keys t).length<=t.length:=by rw[jA];exact zck
 rcases zF (keys t).length t.length with q | q
 .exact q
 .exfalso;have e:(keys t).length=t.length:=by omega
  rw[jA,List.countP_eq_length] at e;have:=e t[i] (zh hi);rw[lP hi] at h;exact h (by simpa using this)
structure TM {V:Type} (φ:V->Int->Prop) (t:Tb) (m:List (Int × V)):Prop where
 R:HR t
 nd:(m.map (·.1)).Nodup
 len:(keys t).length=m.length
 has:∀k,(∀v,Has t k v->∃u,y9 m k=some u/\φ u v)/\((y9 m k).isSome=true->∃v,Has t k v)
theorem TM.some{V:Type}{φ:V->Int->Prop}{t:Tb}{m:List (Int × V)}(h:TM φ t m)(k:Int):(∃v u,Has t k v/\y9 m k=some u/\φ u v)\/(y9 m k=none/\∀v,¬Has t k v):=by
 rcases TI t k with ⟨v,hv⟩ | hn
 .obtain⟨u,h1,h2⟩:=(h.has k).1 v hv;exact .inl ⟨v,u,hv,h1,h2⟩
 .refine .inr ⟨?_,hn⟩;cases hq:y9 m k with
  | none=>rfl
  | some u=>
   obtain⟨v,hv⟩:=(h.has k).2 (by rw[hq];rfl);exact absurd hv (hn v)
theorem TM.put{V:Type}{φ:V->Int->Prop}{t:Tb}{m:List (Int × V)}(h:TM φ t m)(k v:Int)(u:V)(hφ:φ u v):∃r,oR t k v = .some r/\r.1.length=t.length/\((r.2=0/\TM φ r.1 (o7 m k u)/\((y9 m k).isSome=true\/m.length<t.length))\/(r=(t,8)/\(y9 m k)=none/\m.length=t.length)):=by
 obtain⟨r,hr,hp⟩:=NN h.R k v;refine⟨r,hr,EN hp,?_⟩;have hRr:=yy h.R hp;by_cases h0:r.2=0
 .left;have hh:=xc h.R hp h0;have hmem:∀k',(∀w,Has r.1 k' w->∃x,y9 (o7 m k u) k' = .some x/\φ x w)/\((y9 (o7 m k u) k').isSome=true->∃w,Has r.1 k' w):=λk'=>by
   rw[pV];by_cases e:k'=k
   .subst e;rw[zb rfl];refine⟨λw hw=>?_,λ_=>⟨v,(hh _ _).2 (.inl ⟨rfl,rfl⟩)⟩⟩;rcases (hh _ _).1 hw with ⟨_,rfl⟩ | ⟨q,_⟩;·exact⟨u,rfl,hφ⟩
    .exact absurd rfl q
   .rw[za e];refine⟨λw hw=>?_,λq=>?_⟩
    .rcases (hh _ _).1 hw with ⟨q,_⟩ | ⟨_,q⟩;·exact absurd q e
     .exact (h.has k').1 w q
    .obtain⟨w,hw⟩:=(h.has k').2 q;exact⟨w,(hh _ _).2 (.inr ⟨e,hw⟩)⟩
  have hlen:(keys r.1).length=(o7 m k u).length/\((y9 m k).isSome=true\/m.length<t.length):=by
   rw[Ng];cases hp with
   | old i hi=>
    have h1:(y9 m k).isSome=true:=by
     obtain⟨x,h1,_⟩:=(h.has k).1 _ ⟨i,hi,rfl⟩;rw[h1];rfl
    have:=tf hi.1 ⟨1,k,v⟩;rw[zb hi.2.1,zb rfl,h.len] at this;rw[zb h1];exact⟨by simp only;omega,.inl h1⟩
   | new d hn hd hb hf=>
    have h1:(y9 m k)=none:=by
     rcases h.some k with ⟨w,x,hw,_⟩ | ⟨q,_⟩
     .obtain⟨i,hi,_⟩:=hw;exact absurd hi (hn i)
     .exact q
    have hlt:=rH h.R.l1 k d;have:=tf hlt ⟨1,k,v⟩;rw[za hf,zb rfl,h.len] at this;rw[h1];have h2:=Qm hlt hf;rw[h.len] at h2;exact⟨by simpa using this,.inr h2⟩
   | full hn ha=>cases h0
  exact⟨h0,⟨hRr,GC h.nd k u,hlen.1,hmem⟩,hlen.2⟩
 .right;cases hp with
  | old i hi=>exact absurd rfl h0
  | new d hn hd hb hf=>exact absurd rfl h0
  | full hn ha=>
   refine⟨rfl,?_,?_⟩
   .rcases h.some k with ⟨w,x,hw,_⟩ | ⟨q,_⟩
    .obtain⟨i,hi,_⟩:=hw;exact absurd hi (hn i)
    .exact q
   .rw[<-h.len,Kj ha]
theorem TM.drop{V:Type}{φ:V->Int->Prop}{t:Tb}{m:List (Int × V)}(h:TM φ t m)(k:Int):(∃r v u,aP t k = .some (r,v,0)/\r.length=t.length/\y9 m k = .some u/\φ u v/\TM φ r (uW m k))\/(aP t k = .some (t,0,9)/\y9 m k=none/\uW m k=m):=by
 rcases Bf t k with ⟨i,hi⟩ | hn
 .left;obtain⟨u,h1,h2⟩:=(h.has k).1 _ ⟨i,hi,rfl⟩;refine⟨_,_,u,sA h.R hi,by simp,h1,h2,oG h.R hi.1,(MZ m k).nodup h.nd,?_,λk'=>?_⟩
  .have:=tf hi.1 ⟨2,0,0⟩;rw[zb hi.2.1,za (by decide),h.len] at this;rw[MY,h1];simp only[Option.isSome_some,wn];omega
  .have hh:=sy h.R hi;rw[Kr h.nd];by_cases e:k'=k
   .subst e;rw[zb rfl];exact⟨λw hw=>absurd rfl ((hh _ _).1 hw).1,λq=>by cases q⟩
   .rw[za e];refine⟨λw hw=>(h.has k').1 w ((hh _ _).1 hw).2,λq=>?_⟩;obtain⟨w,hw⟩:=(h.has k').2 q;exact⟨w,(hh _ _).2 ⟨e,hw⟩⟩
 .right;have h1:y9 m k=none:=by
   rcases h.some k with ⟨w,x,hw,_⟩ | ⟨q,_⟩
   .obtain⟨i,hi,_⟩:=hw;exact absurd hi (hn i)
   .exact q
  refine⟨sz h.R hn,h1,?_⟩;have:∀(l:List (Int × V)),y9 l k=none->uW l k=l:=by
   intro l;induction l with
   | nil=>intro _;rfl
   | cons p l ih=>
    intro q;unfold y9 at q;unfold uW;by_cases e:k=p.1
    .rw[zb (by simpa using e)] at q;cases q
    .rw[za (by simpa using e)] at q;rw[za (by simpa using e),ih q]
  exact this m h1
theorem Ui{n:Nat}(h1:1<=n)(h8:n<=8):sU (n:Int)=some (List.replicate n ⟨0,0,0⟩):=by
 unfold sU;rw[za (by simp;omega),kB (by omega) (by omega)];rfl
theorem vk{n j:Nat}:pt (List.replicate n ⟨0,0,0⟩) j=⟨0,0,0⟩:=by
 unfold pt;rw[zd,List.getElem?_replicate];split <;> rfl
theorem Vk{V:Type}(φ:V->Int->Prop){n:Nat}(h1:1<=n)(h8:n<=8):TM φ (List.replicate n ⟨0,0,0⟩) []:=by
 refine⟨⟨by simpa using h1,by simpa using h8,λi hi=>?_,λi j hi hj s=>?_,λi hi s=>?_⟩,by simp,?_,λk=>⟨λv hv=>?_,λq=>by cases q⟩⟩;·rw[vk];exact⟨.inl rfl,λ_=>⟨rfl,rfl⟩⟩
 .rw[vk] at s;cases s
 .rw[vk] at s;cases s
 .rw[jA,List.countP_replicate];rfl
 .obtain⟨i,hi,_⟩:=hv;have:=hi.2.1;rw[vk] at this;cases this
def jH(t:Tb):List g8:=(t.filter (·.State==1)).map λp=>⟨p.Key,p.Val⟩
theorem yf(t:Tb):keys t=(jH t).map (·.Key):=by
 unfold keys jH;rw[za6];rfl
theorem iT(t:Tb):(jH t).length=(keys t).length:=by rw[yf,zl]
theorem rI{t:Tb}(h:t.length<=8):(jH t).length<=8:=by
 rw[iT,jA];exact zO zck h
theorem cg{t:Tb}{p:g8}:p∈jH t↔Has t p.Key p.Val:=by
 unfold jH Has;rw[zq];constructor
 .rintro⟨q,hq,rfl⟩;obtain⟨h1,h2⟩:=zi.1 hq;obtain⟨i,hi,rfl⟩:=wt h1;refine⟨i,⟨hi,?_,?_⟩,?_⟩ <;> rw[lP hi]
  simpa using h2
 .rintro⟨i,⟨hi,h1,h2⟩,h3⟩;rw[lP hi] at h1 h2 h3;refine⟨t[i],zi.2 ⟨zh hi,by simpa using h1⟩,?_⟩;cases p;simp at h2 h3 |-;exact⟨h2,h3⟩
theorem IT{t:Tb}(hR:HR t){j:Nat}(h:j<(jH t).length):Y6 t (jH t)[j].Key=some ((jH t)[j].Val,0):=Ig hR (cg.1 (zh h))
theorem RW{E R:Type}{x:Option E}{r:E}{κ:E->Option R}{y:Option R}(h:x=some r)(hy:κ r=y):((x.bind λe=>some e).bind κ)=y:=by rw[h];exact hy
theorem NI{t:Tb}(hR:HR t):ko t=some (jH t):=by
 have h8:=hR.l8;have hp:=rI h8;unfold ko B2 dP gA;simp only[jn,Yy];rw[keys_eq (by omega),Yy];refine RW (ud (jB (jH t).length (λk l=>l=(jH t).take k) (λe=>e=jH t) (by omega) (by simp) ?_ ?_)) rfl
 .rintro k l hk rfl;refine .inl ⟨_,?_,rfl⟩;dsimp only;rw[zb (by rw[<-iT];simpa using hk),s7 (by rw[<-iT];exact hk),Yy];have e:(keys t)[k]'(by rw[<-iT];exact hk)=(jH t)[k].Key:=by simp[yf]
  rw[e,IT hR hk,Yy,zb (by trivial),K5 (by omega) (by simp;omega),Yy,n9 (by omega),zx hk]
 .rintro l rfl;exact⟨_,by rw[<-iT];simp;rfl,by simp⟩
def own(t:Tb)(h:Int):Nat:=(jH t).countP λp=>(h != 0)&&(p.Val==h)
theorem NC{t:Tb}(hR:HR t)(h:Int):km t h=some (own t h:Int):=by
 have h8:=hR.l8;have hp:=rI h8;unfold km B1 dP gz;simp only[jn,Yy];rw[keys_eq (by omega),Yy];refine RW (r:=(jH t).filter λp=>(h != 0)&&(p.Val==h)) (ud (jB (jH t).length (λk l=>l=((jH t).take k).filter λp=>(h != 0)&&(p.Val==h)) (λe=>e=(jH t).filter λp=>(h != 0)&&(p.Val==h)) (by omega) (by simp) ?_ ?_)) (by unfold own;rw[zbw])
 .rintro k l hk rfl;refine .inl ⟨((jH t).take (k+1)).filter λp=>(h != 0)&&(p.Val==h),?_,rfl⟩;dsimp only;rw[zb (by rw[<-iT];simpa using hk),s7 (by rw[<-iT];exact hk),Yy];have e:(keys t)[k]'(by rw[<-iT];exact hk)=(jH t)[k].Key:=by simp[yf]
  have hle:(((jH t).take k).filter λp=>(h != 0)&&(p.Val==h)).length<=8:=zO (zA ..) (by simp;omega);rw[e,IT hR hk,Yy,n9 (by omega),zx hk,za4,or,List.filter_nil];by_cases c:((h != 0)&&((jH t)[k].Val==h))=true
  .rw[zb c,zb c,K5 (by omega) (by simp only[zH,zag];omega),Yy]
  .rw[za c,za c,zav]
 .rintro l rfl;exact⟨_,by rw[<-iT];simp;rfl,by simp⟩
theorem dL{t:Tb}(hR:HR t)(k v:Int):∃r,U4 t k v=some r/\HR r.1/\r.1.length=t.length /\
  ((k=0/\r=(t,0,2))\/(k≠0/\v=0/\((∃i,Fk t k i/\r=(t.set i ⟨2,0,0⟩,(pt t i).Val,0))\/((∀i,¬Fk t k i)/\r=(t,0,0)))) \/
   (k≠0/\v≠0/\((∃i,Fk t k i/\r=(t.set i ⟨1,k,v⟩,(pt t i).Val,0))\/(∃d,(∀i,¬Fk t k i)/\d<t.length/\(pt t d).State≠1/\xp t k v (t.set d ⟨1,k,v⟩,0)/\r=(t.set d ⟨1,k,v⟩,0,0))\/((∀i,¬Fk t k i)/\(∀i,i<t.length->(pt t i).State=1)/\r=(t,0,8))))):=by
 unfold U4;by_cases hk:k=0
 .rw[zb (by simpa using hk)];exact⟨_,rfl,hR,rfl,.inl ⟨hk,rfl⟩⟩
 .rw[za (by simpa using hk)];obtain⟨g,hg,hgv⟩:∃g,Y6 t k=some g/\((∃i,Fk t k i/\g=((pt t i).Val,0))\/((∀i,¬Fk t k i)/\g=(0,9))):=by
   rcases Bf t k with ⟨i,hi⟩ | hn;·exact⟨_,Mt hR hi,.inl ⟨i,hi,rfl⟩⟩
   .exact⟨_,Ms hR hn,.inr ⟨hn,rfl⟩⟩
  rw[hg,Yy];by_cases hv:v=0
  .rw[zb (by simpa using hv)];rcases hgv with ⟨i,hi,rfl⟩ | ⟨hn,rfl⟩
   .rw[sA hR hi,Yy];exact⟨_,rfl,oG hR hi.1,by simp,.inr (.inl ⟨hk,hv,.inl ⟨i,hi,rfl⟩⟩)⟩
   .rw[sz hR hn,Yy];exact⟨_,rfl,hR,rfl,.inr (.inl ⟨hk,hv,.inr ⟨hn,rfl⟩⟩)⟩
  .rw[za (by simpa using hv)];obtain⟨r,hr,hp⟩:=NN hR k v;rw[hr,Yy];have hRr:=yy hR hp;have hl:=EN hp;have hp':=hp;cases hp with
   | old i hi=>
    rcases hgv with ⟨j,hj,rfl⟩ | ⟨hn,rfl⟩
    .rw[hR.uq j i hj.1 hi.1 hj.2.1 hi.2.1 (hj.2.2.trans hi.2.2.symm)];exact⟨_,rfl,hRr,hl,.inr (.inr ⟨hk,hv,.inl ⟨i,hi,rfl⟩⟩)⟩
    .exact absurd hi (hn i)
   | new d hn hd hb hf=>
    rcases hgv with ⟨j,hj,rfl⟩ | ⟨_,rfl⟩;·exact absurd hj (hn j)
    .exact⟨_,rfl,hRr,hl,.inr (.inr ⟨hk,hv,.inr (.inl ⟨_,hn,rH hR.l1 k d,hf,hp',rfl⟩)⟩)⟩
   | full hn ha=>exact⟨_,rfl,hR,rfl,.inr (.inr ⟨hk,hv,.inr (.inr ⟨hn,ha,rfl⟩)⟩)⟩
theorem BA(t:Tb)(h:Int):own t h=t.countP λp=>(p.State==1)&&((h != 0)&&(p.Val==h)):=by
 unfold own jH;rw[List.countP_map,List.countP_filter];congr 1;funext p
 simp[Bool.and_comm]
theorem IS{t:Tb}{i:Nat}(hi:i<t.length)(p:e6)(h:Int):own (t.set i p) h+(if (((pt t i).State==1)&&((h != 0)&&((pt t i).Val==h)))=true then 1 else 0)=own t h+if ((p.State==1)&&((h != 0)&&(p.Val==h)))=true then 1 else 0:=by
 rw[BA,BA,List.countP_set hi,lP hi];have:(if ((t[i].State==1)&&((h != 0)&&(t[i].Val==h)))=true then 1 else 0)<=t.countP λp=>(p.State==1)&&((h != 0)&&(p.Val==h)):=by
  split
  .rename_i e;exact zbx.2 ⟨t[i],zh hi,e⟩
  .exact zV _
 omega
theorem NB{t:Tb}(h8:t.length<=8)(h:Int):own t h<=8:=zO zck (rI h8)
theorem vY{t:Tb}(hR:HR t)(ks:List Int)(hks:ks.length<=1000):∃a had,aO t ks=some (a,had)/\HR a/\a.length=t.length/\had.length<=ks.length/\pg (t.map eN) ks=some (a.map eN,had) /\
  (∀k v,Has a k v↔k∉ks/\Has t k v)/\(keys a).length+had.length=(keys t).length/\(∀k v,k∈ks->Has t k v->v∈had)/\∀y,own a y+R7 had y=own t y:=by
 have key:∀n,n<=ks.length->∃a had,HR a/\a.length=t.length/\had.length<=n/\(∀k v,Has a k v↔k∉ks.take n/\Has t k v)/\(keys a).length+had.length=(keys t).length/\(∀k v,k∈ks.take n->Has t k v->v∈had)/\(∀y,own a y+R7 had y=own t y) /\
   ∃f:Nat->Tb × List Int,f 0=(t,[])/\f n=(a,had)/\∀j,(hj:j<n)->HR (f j).1/\(f j).2.length<=j/\((∃i,∃hjk:j<ks.length,Fk (f j).1 ks[j] i/\f (j+1)=((f j).1.set i ⟨2,0,0⟩,(f j).2 ++ [(pt (f j).1 i).Val]))\/((∀i,∀hjk:j<ks.length,¬Fk (f j).1 ks[j] i)/\f (j+1)=f j)):=by
  intro n;induction n with
  | zero=>exact λ_=>⟨t,[],hR,rfl,by simp,by simp,by simp,by simp,λy=>by unfold R7;split <;> simp,λ_=>(t,[]),rfl,rfl,λj hj=>by omega⟩
  | succ n ih=>
   intro hn;obtain⟨a,had,h1,h2,h3,h4,h5,h6,h7,f,f0,fn,fs⟩:=ih (by omega);have hlt:n<ks.length:=by omega
   have htk:∀k,k∈ks.take (n+1)↔k∈ks.take n\/k=ks[n]:=λk=>by
    rw[zx hlt,zu,zp]
   rcases Bf a ks[n] with ⟨i,hi⟩ | hno
   .have hd:=sy h1 hi;refine⟨a.set i ⟨2,0,0⟩,had ++ [(pt a i).Val],oG h1 hi.1,by simpa using h2,by simp;omega,λk v=>?_,?_,λk v hk hv=>?_,λy=>?_,λj=>if j=n+1 then (a.set i ⟨2,0,0⟩,had ++ [(pt a i).Val]) else f j,by simp[f0],by simp,λj hj=>?_⟩
    .rw[hd,h4,htk];constructor;·rintro⟨q1,q2,q3⟩;exact⟨λq=>q.elim q2 q1,q3⟩
     .rintro⟨q1,q2⟩;exact⟨λq=>q1 (.inr q),λq=>q1 (.inl q),q2⟩
    .have:=tf hi.1 ⟨2,0,0⟩;rw[zb hi.2.1,za (by decide)] at this;simp only[zK,zH,zag];omega
    .rw[zu];rcases (htk k).1 hk with q | q
     .exact .inl (h6 k v q hv)
     .subst q;by_cases q':ks[n]∈ks.take n
      .exact .inl (h6 _ v q' hv)
      .have:=(h4 _ _).2 ⟨q',hv⟩;rw[this.fn h1 ⟨i,hi,rfl⟩];exact .inr (by simp)
    .have:=IS hi.1 ⟨2,0,0⟩ y;have h7':=h7 y;rw[F8];have e:R7 [(pt a i).Val] y=if (((pt a i).State==1)&&((y != 0)&&((pt a i).Val==y)))=true then 1 else 0:=by
      rw[hi.2.1];unfold R7;by_cases y0:y=0
      .simp[y0]
      .by_cases e:(pt a i).Val=y
       .simp[y0,e]
       .simp[y0,e]
     rw[e];rw[za (show ¬((((2:Int)==1)&&((y != 0)&&((0:Int)==y)))=true) by simp)] at this;omega
    .rcases zF j n with q | q
     .have:=fs j q;dsimp only;rw[za (by omega),za (by omega)];exact this
     .have:j=n:=by omega
      subst this;dsimp only;rw[za (by omega),zb rfl,fn];exact⟨h1,h3,.inl ⟨i,hlt,hi,rfl⟩⟩
   .refine⟨a,had,h1,h2,by omega,λk v=>?_,h5,λk v hk hv=>?_,h7,λj=>if j=n+1 then (a,had) else f j,by simp[f0],by simp,λj hj=>?_⟩
    .rw[h4,htk];constructor
     .rintro⟨q1,q2⟩;refine⟨λq=>q.elim q1 λq=>?_,q2⟩;subst q;obtain⟨i,hi,_⟩:=(h4 _ _).2 ⟨q1,q2⟩;exact hno i hi
     .rintro⟨q1,q2⟩;exact⟨λq=>q1 (.inl q),q2⟩
    .rcases (htk k).1 hk with q | q
     .exact h6 k v q hv
     .subst q;by_cases q':ks[n]∈ks.take n
      .exact h6 _ v q' hv
      .obtain⟨i,hi,_⟩:=(h4 _ _).2 ⟨q',hv⟩;exact absurd hi (hno i)
    .rcases zF j n with q | q
     .have:=fs j q;dsimp only;rw[za (by omega),za (by omega)];exact this
     .have:j=n:=by omega
      subst this;dsimp only;rw[za (by omega),zb rfl,fn];exact⟨h1,h3,.inr ⟨λi _=>hno i,rfl⟩⟩
 obtain⟨a,had,h1,h2,h3,h4,h5,h6,h7,f,f0,fn,fs⟩:=key ks.length (zE _);rw[zR] at h4 h6;refine⟨a,had,?_,h1,h2,h3,?_,h4,h5,h6,h7⟩
 .unfold aO;simp only[jn];refine lE (λj=>((f j).1,(j:Int),(f j).2)) (by rw[f0];rfl) ks.length (λ_=>True) (by omega) trivial (λj hj _=>?_) (λ_=>⟨(a,had),by dsimp only;rw[za (by simp),fn],rfl⟩);obtain⟨g1,g2,g3⟩:=fs j hj;left;refine⟨?_,trivial⟩;dsimp only;rw[zb (by simpa using hj),s7 hj,Yy,n9 (by omega)];rcases g3 with ⟨i,_,hi,e⟩ | ⟨hno,e⟩
  .rw[sA g1 hi,Yy,e];dsimp only;rw[zb (by decide),K5 (by omega) (by simp;omega),Yy]
  .rw[sz g1 (λi=>hno i hj),Yy,e];dsimp only;rw[za (by decide)]
 .unfold pg;simp only[jn];refine lE (λj=>((f j).1.map eN,(j:Int),(f j).2)) (by rw[f0];rfl) ks.length (λ_=>True) (by omega) trivial (λj hj _=>?_) (λ_=>⟨(a.map eN,had),by dsimp only;rw[za (by simp),fn],rfl⟩);obtain⟨g1,g2,g3⟩:=fs j hj;left;refine⟨?_,trivial⟩;dsimp only;rw[zb (by simpa using hj),s7 hj,Yy,n9 (by omega),UP g1];rcases g3 with ⟨i,_,hi,e⟩ | ⟨hno,e⟩
  .rw[sA g1 hi,un,Yy,e];dsimp only;rw[zb (by decide),K5 (by omega) (by simp;omega),Yy]
  .rw[sz g1 (λi=>hno i hj),un,Yy,e];dsimp only;rw[za (by decide)]
inductive aZ (s:b6) (t:Tb) (l:List Int):Int->Prop
 | base {h:Int}:h∈l->h∈lv s->aZ s t l h
 | step {a b:Int}:aZ s t l a->b∈outs s a->b∈lv s->aZ s t l b
 | pair {k v:Int}:Has t k v->aZ s t l k->v∈lv s->aZ s t l v
open Classical in
noncomputable def Kc (s:b6) (t:Tb) (l:List Int):List Int:=(lv s).filter λh=>decide (aZ s t l h)
open Classical in
noncomputable def Vu (s:b6) (t:Tb) (l:List Int):List Int:=(lv s).filter λh=>decide (¬aZ s t l h)
noncomputable def DD(s:b6)(t:Tb)(l:List Int):List Int:=((jH t).filter λp=>decide (p.Key∈l/\p.Key∈lv s/\p.Val∈lv s)).map (·.Val)
def TB(t:Tb):Prop:=∀p∈t,p.Key<=9223372036854775807/\p.Val<=9223372036854775807
def Jy(s:b6)(t:Tb)(l:List Int):Prop:=∀k v,Has t k v->k∈l->k∈lv s->v∈lv s->v∈l
theorem TB.has{t:Tb}(h:TB t){k v:Int}(q:Has t k v):k<=9223372036854775807/\v<=9223372036854775807:=by
 obtain⟨i,⟨h1,_,h2⟩,h3⟩:=q;rw[lP h1] at h2 h3;have:=h _ (zh h1);rw[h2,h3] at this;exact this
theorem aZ.live{s:b6}{t:Tb}{l:List Int}{h:Int}(q:aZ s t l h):h∈lv s:=by cases q <;> assumption
open Classical in
theorem sK {s:b6} {t:Tb} {l:List Int} {h:Int}:h∈Kc s t l↔aZ s t l h:=by
 unfold Kc;rw[zi];exact⟨λq=>za9 q.2,λq=>⟨q.live,zC q⟩⟩
theorem Ib{s:b6}(hR:wc (sO s))(t:Tb)(l:List Int):(Kc s t l).length<=24:=zO (zA ..) (M1 hR)
theorem Tw{s:b6}(hR:wc (sO s))(t:Tb)(l:List Int):LB (Kc s t l):=λx hx=>by have:=pb hR (sK.1 hx).live;omega
theorem UL{s:b6}(hR:wc (sO s))(l:List Int):LB (GR s l):=λx hx=>by have:=pb hR (fv.1 hx).live;omega
theorem Tv(s:b6)(t:Tb)(l:List Int):Cl s (Kc s t l):=λa ha b hb hl=>sK.2 (.step (sK.1 ha) hb hl)
theorem aZ.least{s:b6}{t:Tb}{l m:List Int}(hc:Cl s m)(hp:Jy s t m)(hl:∀x∈l,x∈lv s->x∈m){h:Int}(q:aZ s t l h):h∈m:=by
 induction q with
 | base h1 h2=>exact hl _ h1 h2
 | step _ h1 h2 ih=>exact hc _ ih _ h1 h2
 | pair h1 h2 h3 ih=>exact hp _ _ h1 ih h2.live h3
theorem aZ.mono{s:b6}{t u:Tb}{l m:List Int}(ht:∀k v,Has t k v->Has u k v)(hl:∀x∈l,x∈lv s->aZ s u m x){h:Int}(q:aZ s t l h):aZ s u m h:=by
 induction q with
 | base h1 h2=>exact hl _ h1 h2
 | step _ h1 h2 ih=>exact .step ih h1 h2
 | pair h1 _ h3 ih=>exact .pair (ht _ _ h1) ih h3
theorem rW.XL{s:b6}(t:Tb){l:List Int}{h:Int}(q:rW s l h):aZ s t l h:=by
 induction q with
 | base h1 h2=>exact .base h1 h2
 | step _ h1 h2 ih=>exact .step ih h1 h2
theorem tO{s:b6}{t:Tb}{l:List Int}{v:Int}:v∈DD s t l↔∃k,Has t k v/\k∈l/\k∈lv s/\v∈lv s:=by
 unfold DD;rw[zq];constructor
 .rintro⟨p,hp,rfl⟩;obtain⟨h1,h2⟩:=zi.1 hp;exact⟨p.Key,cg.1 h1,za9 h2⟩
 .rintro⟨k,h1,h2⟩;exact⟨⟨k,v⟩,zi.2 ⟨cg.2 h1,zC h2⟩,rfl⟩
theorem GJ{s:b6}{t:Tb}{l:List Int}:(∀v∈DD s t l,v∈l)↔Jy s t l:=by
 constructor;·exact λh k v h1 h2 h3 h4=>h v (tO.2 ⟨k,h1,h2,h3,h4⟩)
 .intro h v hv;obtain⟨k,h1,h2,h3,h4⟩:=tO.1 hv;exact h k v h1 h2 h3 h4
theorem IN{s:b6}{t:Tb}(hT:HR t)(l:List Int):(DD s t l).length<=8:=by
 unfold DD;rw[zl];exact zO (zA ..) (rI hT.l8)
theorem Uy{s:b6}(hR:wc (sO s))(t:Tb)(l:List Int):LB (DD s t l):=λx hx=>by
 obtain⟨_,_,_,_,h⟩:=tO.1 hx;have:=pb hR h;omega
noncomputable def T7(s:b6)(t:Tb)(l:List Int):Nat->List Int
 | 0=>GR s l
 | k+1=>GR s (T7 s t l k++DD s t (T7 s t l k))
section
variable{s:b6}{t:Tb}{l:List Int}
theorem KJ(k:Nat):T7 s t l (k+1)=GR s (T7 s t l k++DD s t (T7 s t l k)):=rfl
theorem tX(k:Nat):∃m,T7 s t l k=GR s m:=by
 cases k with
 | zero=>exact⟨_,rfl⟩
 | succ k=>exact⟨_,rfl⟩
theorem Rn(k:Nat):Cl s (T7 s t l k):=by
 obtain⟨m,e⟩:=tX (s:=s) (t:=t) (l:=l) k;rw[e];exact UK s m
theorem KH(k:Nat){x:Int}(h:x∈T7 s t l k):x∈lv s:=by
 obtain⟨m,e⟩:=tX (s:=s) (t:=t) (l:=l) k;rw[e] at h;exact (fv.1 h).live
theorem EW(k:Nat){x:Int}(h:x∈T7 s t l k):x∈T7 s t l (k+1):=fv.2 (.base (zu.2 (.inl h)) (KH k h))
theorem KG(k:Nat):∀x∈l,x∈lv s->x∈T7 s t l k:=by
 induction k with
 | zero=>exact λx h1 h2=>fv.2 (.base h1 h2)
 | succ k ih=>exact λx h1 h2=>EW k (ih x h1 h2)
theorem NZ(k:Nat):∀x∈T7 s t l k,aZ s t l x:=by
 induction k with
 | zero=>exact λx h=>(fv.1 h).XL t
 | succ k ih=>
  intro x h;have:=fv.1 h;induction this with
  | base h1 h2=>
   rcases zu.1 h1 with q | q
   .exact ih _ q
   .obtain⟨k',q1,q2,q3,q4⟩:=tO.1 q;exact .pair q1 (ih _ q2) q4
  | step h0 h1 h2 ih2=>exact .step (ih2 (fv.2 h0)) h1 h2
theorem KI{k:Nat}(h:Jy s t (T7 s t l k)):T7 s t l k=Kc s t l:=by
 obtain⟨m,e⟩:=tX (s:=s) (t:=t) (l:=l) k;have hm:∀x,rW s m x↔aZ s t l x:=λx=>by
  rw[<-fv,<-e];exact⟨NZ k x,λq=>q.least (Rn k) h (KG k)⟩
 rw[e];unfold GR Kc;exact pm λx _=>zbo.2 (hm x)
theorem BD{k:Nat}(h:¬Jy s t (T7 s t l k)):((jH t).filter λp=>decide (p.Val∈T7 s t l k)).length<((jH t).filter λp=>decide (p.Val∈T7 s t l (k+1))).length:=by
 obtain⟨v,hv,hn⟩:∃v,v∈DD s t (T7 s t l k)/\v∉T7 s t l k:=q9 λq=>h (GJ.1 λv hv=>q9 λq2=>q ⟨v,hv,q2⟩);obtain⟨k',h1,h2,h3,h4⟩:=tO.1 hv;refine filter_lt (λp _ hp=>?_) ⟨k',v⟩ (cg.2 h1) ?_ ?_
 .rw[zG] at hp |-;exact EW k hp
 .rw[zG];exact fv.2 (.base (zu.2 (.inr hv)) h4)
 .exact zY hn
theorem tW(s:b6)(t:Tb)(l:List Int):∃n,n<=(jH t).length/\Jy s t (T7 s t l n)/\∀j,j<n->¬Jy s t (T7 s t l j):=by
 have key:∀k,(∃j,j<=k/\Jy s t (T7 s t l j))\/k<((jH t).filter λp=>decide (p.Val∈T7 s t l (k+1))).length:=by
  intro k;induction k with
  | zero=>
   by_cases h:Jy s t (T7 s t l 0)
   .exact .inl ⟨0,zE _,h⟩
   .have:=BD h;exact .inr (by omega)
  | succ k ih=>
   rcases ih with ⟨j,h1,h2⟩ | ih;·exact .inl ⟨j,by omega,h2⟩
   .by_cases h:Jy s t (T7 s t l (k+1))
    .exact .inl ⟨k+1,zE _,h⟩
    .have:=BD h;exact .inr (by omega)
 obtain⟨j,h1,h2⟩:∃j,j<=(jH t).length/\Jy s t (T7 s t l j):=by
  rcases key (jH t).length with q | q
  .exact q
  .have:=zA (λp:g8=>decide (p.Val∈T7 s t l ((jH t).length+1))) (jH t);omega
 obtain⟨n,hn,hmin⟩:=dz (p:=λj=>Jy s t (T7 s t l j)) ⟨j,h2⟩;exact⟨n,zO (hmin j h2) h1,hn,λi hi q=>by have:=hmin i q;omega⟩
end
noncomputable def Vy(s:b6)(t:Tb)(l:List Int):Nat:=Classical.choose (tW s t l)
theorem UT(s:b6)(t:Tb)(l:List Int):Vy s t l<=(jH t).length:=(zaz (tW s t l)).1
theorem NY(s:b6)(t:Tb)(l:List Int):Jy s t (T7 s t l (Vy s t l)):=(zaz (tW s t l)).2.1
theorem Rm(s:b6)(t:Tb)(l:List Int){j:Nat}(h:j<Vy s t l):¬Jy s t (T7 s t l j):=(zaz (tW s t l)).2.2 j h
section
variable{s:b6}(hR:wc (sO s)){t:Tb}(hT:HR t)(hTB:TB t)
include hR hT hTB
omit hT hTB in
theorem Bq {h:Int} (hh:h<=9223372036854775807):jx h s=some (decide (h∈lv s)):=by
 obtain⟨e,h1,h2⟩:=iq hR hh;unfold jx;rw[h1,Yy];congr 1;rw[zbm,pu,zG];exact h2
theorem IP{l:List Int}(hl:l.length<=1000000):sJ s t l=some (DD s t l):=by
 unfold sJ;simp only[jn,NI hT,Yy];have h8:=rI hT.l8;rw[U7 ((jH t)) (λb p=>b++(if decide (p.Key∈l/\p.Key∈lv s/\p.Val∈lv s) then [p.Val] else [])) id (λk b=>b.length<=k) (by omega) (by simp) (λk hk b hb=>?_) (λb _=>?_)]
 .simp only[Yy,id];rw[ru];congr 1;unfold DD;rw[zcj];generalize jH t=P;induction P with
  | nil=>rfl
  | cons p P ih=>
   rw[zbh,or,ih];by_cases q:p.Key∈l/\p.Key∈lv s/\p.Val∈lv s
   .simp[q]
   .simp[q]
 .have hb':=hTB.has (cg.1 (zh hk));simp only[wp,hk,t6,wn,s7 hk,Yy,contains_eq _ _ hl];rw[Bq hR hb'.1,Bq hR hb'.2];by_cases q1:(jH t)[k].Key∈l
  .rw[zC q1];simp only[ul,fm,Yy,za5];by_cases q2:(jH t)[k].Key∈lv s
   .rw[zC q2];simp only[ul,fm,Yy,za5];by_cases q3:(jH t)[k].Val∈lv s
    .rw[zb (by simpa using q3),K5 (by omega) (by simp;omega),Yy,n9,zb (by simp[q1,q2,q3])];exact⟨rfl,by simp;omega⟩
    .rw[za (by simpa using q3),n9,za (by simp[q3]),zav];exact⟨rfl,by omega⟩
   .rw[zY q2];simp only[show ((false==true):Bool)=false from rfl,IL,Yy,Bool.false_and,zD,qr];rw[n9,za (by simp[q2]),zav];exact⟨rfl,by omega⟩
  .rw[zY q1];simp only[show ((false==true):Bool)=false from rfl,IL,Yy,Bool.false_and,zD,qr];rw[n9,za (by simp[q1]),zav];exact⟨rfl,by omega⟩
 .simp only[zbd,zbz,zD,qr];rfl
theorem MA(hF:FB s){l:List Int}(hl:LB l)(hlen:l.length<=1000000):pS s t l=some (Kc s t l,(Vy s t l:Int)):=by
 unfold pS;rw[Ic hR hF hl hlen,Yy];simp only[jn];have hn:=UT s t l;have h8:=rI hT.l8;have hstep:∀k,∃m,T7 s t l k=GR s m:=tX;refine lE (p:=λk=>(T7 s t l k,(k:Int))) rfl (Vy s t l) (λ_=>True) (by omega) trivial (λk hk _=>.inl ⟨?_,trivial⟩) (λ_=>?_)
 .obtain⟨m,hm⟩:=hstep k;have hlk:(T7 s t l k).length<=24:=by rw[hm];exact Rh hR m
  have hlb:LB (T7 s t l k):=by rw[hm];exact UL hR m
  have hno:=Rm s t l hk;simp only;rw[IP hR hT hTB (by omega),Yy];have ho:=IN (s:=s) hT (T7 s t l k);obtain⟨j,⟨hj,hjn⟩,hmin⟩:=dz (p:=λj=>∃hj:j<(DD s t (T7 s t l k)).length,(DD s t (T7 s t l k))[j]∉T7 s t l k) (by
   refine q9 λq=>hno (GJ.1 λv hv=>q9 λq2=>?_);obtain⟨j,hj,e⟩:=List.mem_iff_getElem.1 hv;exact q ⟨j,hj,by rw[e];exact q2⟩)
  refine eO (DD s t (T7 s t l k)).length (λi=>i<=j) (by omega) (zV _) (λi hi hP=>?_) (λhP=>by omega);simp only[wp,hi,t6,wn,s7 hi,Yy];rw[contains_eq _ _ (by omega),Yy];rcases zF i j with q | q
  .refine .inl ⟨?_,q⟩;have:(DD s t (T7 s t l k))[i]∈T7 s t l k:=q9 λq2=>by have:=hmin i ⟨hi,q2⟩;omega
   rw[za (by simp[this]),n9]
  .have:i=j:=by omega
   subst this;refine .inr ⟨.inl (T7 s t l (k+1),((k+1:Nat):Int)),?_,rfl⟩;rw[zb (by simp[hjn]),K5 (by omega) (by omega),Yy,Ic hR hF (λx hx=>by
    rcases zu.1 hx with q | q
    .exact Uy hR t _ x q
    .exact hlb x q) (by simp;omega),Yy,n9,KJ]
   rw[KF (l:=DD s t (T7 s t l k)++T7 s t l k) (m:=T7 s t l k++DD s t (T7 s t l k)) λx=>⟨λq=>q.mono λy hy hyl=>.base (zu.2 (zu.1 hy).symm) hyl,λq=>q.mono λy hy hyl=>.base (zu.2 (zu.1 hy).symm) hyl⟩]
 .have hst:=NY s t l;have hfr:=KI hst;refine⟨(Kc s t l,(Vy s t l:Int)),?_,rfl⟩;simp only;rw[hfr] at hst |-;have hfl:=Ib hR t l;rw[IP hR hT hTB (by omega),Yy];have ho:=IN (s:=s) hT (Kc s t l);refine eO (DD s t (Kc s t l)).length (λ_=>True) (by omega) trivial (λi hi _=>.inl ⟨?_,trivial⟩) (λ_=>⟨.inr (),by simp,rfl⟩);have:=GJ.2 hst _ (zh hi);simp only[wp,hi,t6,wn,s7 hi,Yy];rw[contains_eq _ _ (by omega),Yy,za (by simp[this]),n9]
theorem Mg(hF:FB s){l:List Int}(hl:LB l)(hlen:l.length<=1000000):sI s t l=some (Kc s t l):=by
 unfold sI;rw[MA hR hT hTB hF hl hlen];rfl
omit hT hTB hR in
theorem Ri {l:List Int} {x:Int}:rW s (Kc s t l) x↔aZ s t l x:=by
 constructor
 .intro q;exact sK.1 (rW.least (Tv s t l) (λx h _=>h) q)
 .exact λq=>.base (sK.2 q) q.live
theorem Mn(hF:FB s){l:List Int}(hl:LB l)(hlen:l.length<=1000000):oK s t l=some (Vu s t l):=by
 unfold oK;rw[Mg hR hT hTB hF hl hlen,Yy,Qt hR hF (Tw hR t l) (by have:=Ib hR t l;omega),Yy];congr 1;unfold lst Vu;exact pm λx _=>zbo.2 (not_congr Ri)
end
section
variable(s:b6)(hF:FB s)(t:Tb)(hTB:TB t)
include hF hTB
end
def ce(s:b6)(i:Nat):c8:=s.S.b7.getD i ⟨0,0,z0⟩
theorem O4{s:b6}{i:Nat}(h:i<s.S.b7.length):ce s i=s.S.b7[i]:=by
 unfold ce;rw[zd,zc h];rfl
theorem Io{s:b6}{i:Nat}(h:i<s.S.b7.length):ix s.S.b7 (i:Int)=some (ce s i):=by rw[s7 h,O4 h]
def Th(c:c8):Prop:=c.State=1\/c.State=2
instance(c:c8):Decidable (Th c):=by unfold Th;infer_instance
structure Ap (s:b6) (o:n7):Prop where
 s1:1<=o.Serial
 s2:o.Serial<=s.Serial
 st:0<=o.Strong
 wk:0<=o.Weak
 p1 : -1<=o.Prog
 p2:o.Prog<=5
 fl:o.Fields.length<=4
structure SR (s:b6):Prop where
 len:s.S.b7.length<=24
 l0:0<=s.S.Last
 l9:s.S.Last<=9
 aW:0<=s.Serial
 cell:∀i,i<s.S.b7.length->0<=(ce s i).State/\(ce s i).State<=3/\0<=(ce s i).Gen/\(ce s i).Gen<=s.S.Last
 no:∀i,i<s.S.b7.length->¬Th (ce s i)->Jx (oo (ce s i).Val)
 ok:∀i,i<s.S.b7.length->Th (ce s i)->Ap s (ce s i).Val
 dif:∀i j,i<s.S.b7.length->j<s.S.b7.length->Th (ce s i)->Th (ce s j)->(ce s i).Val.Serial=(ce s j).Val.Serial->i=j
theorem A0{s:b6}:wc (sO s)↔SR s:=by
 constructor
 .intro h;refine⟨pn h,h.l0,h.l9,h.aW,λi hi=>?_,λi hi hn=>?_,λi hi ht=>?_,λi j hi hj a b e=>?_⟩;·rw[O4 hi];exact De h i hi
  .rw[O4 hi] at hn |-;have:=h.no i (by rw[kY];exact hi);simp only[sO,t8] at this;exact this hn
  .rw[O4 hi] at ht |-;obtain⟨a,b,c,d,e,f,g⟩:=Oc h i hi ht;exact⟨a,b,c,d,e,f,g⟩
  .rw[O4 hi] at a e;rw[O4 hj] at b e;exact Ob h hi hj a b e
 .intro h;refine⟨by rw[kY];exact h.len,h.l0,h.l9,h.aW,λi hi=>?_,λi hi hn=>?_,λi hi ht=>?_,λi hi k hk a b=>?_⟩
  .rw[kY] at hi;have:=h.cell i hi;rw[O4 hi] at this;simpa[sO,cO] using this
  .rw[kY] at hi;have:=h.no i hi;rw[O4 hi] at this;simp only[sO,t8] at hn |-;exact this hn
  .rw[kY] at hi;have:=h.ok i hi;rw[O4 hi] at this;simp only[sO,t8] at ht |-;obtain⟨a,b,c,d,e,f,g⟩:=this ht;exact⟨a,b,c,d,e,f,g⟩
  .rw[kY] at hi;have hk':k<s.S.b7.length:=by omega
   have:=h.dif i k hi hk';rw[O4 hi,O4 hk'] at this;simp only[sO,t8,cO,oo] at a b |-;intro e;have:=this a b e.symm;omega
def At(s:b6)(h:Int)(i:Nat):Prop:=i<s.S.b7.length/\(ce s i).State=1/\h=1+(i:Int)+32*(ce s i).Gen
def T8(s:b6)(h:Int)(i:Nat):Prop:=i<s.S.b7.length/\Th (ce s i)/\h=1+(i:Int)+32*(ce s i).Gen
theorem At.d{s:b6}{h:Int}{i:Nat}(q:At s h i):T8 s h i:=⟨q.1,.inl q.2.1,q.2.2⟩
theorem T8.one{s:b6}(hR:SR s){h:Int}{i j:Nat}(q:T8 s h i)(q':T8 s h j):i=j:=by
 obtain⟨a1,_,a2⟩:=q;obtain⟨b1,_,b2⟩:=q';have:=hR.len;omega
theorem T8.KK{s:b6}(hR:SR s){h:Int}{i:Nat}(q:T8 s h i):1<=h/\h<=320:=by
 obtain⟨a1,_,a2⟩:=q;have:=hR.len;have:=hR.cell i a1;have:=hR.l9;omega
theorem Ez{s:b6}{h:Int}:h∈cW 0 s.S.b7↔∃i,At s h i:=by
 rw[oV];constructor
 .rintro⟨i,hi,h1,h2⟩;refine⟨i,hi,by rw[O4 hi];exact h1,?_⟩;rw[O4 hi,h2,zak]
 .rintro⟨i,hi,h1,h2⟩;rw[O4 hi] at h1 h2;exact⟨i,hi,h1,by rw[h2,zak]⟩
theorem gS{s:b6}(hR:SR s){h:Int}:h∈lv s↔∃i,At s h i:=by rw[CB (A0.2 hR),Ez]
theorem rq{s:b6}(hR:SR s){h:Int}{i:Nat}:wa s.S h i↔T8 s h i:=by
 constructor
 .rintro⟨hi,h1,h2,h3,h4⟩;unfold BP at h1;refine⟨hi,by rw[O4 hi];exact h4,?_⟩;rw[O4 hi];omega
 .rintro⟨hi,h1,h2⟩;have l:=hR.len;have l9:=hR.l9;have c:=hR.cell i hi;rw[O4 hi] at h1 h2 c;exact⟨hi,by unfold BP;omega,by omega,by omega,h1⟩
theorem F4{s:b6}(hR:SR s){h:Int}{i:Nat}(q:At s h i):ob s h=(ce s i).Val:=by
 obtain⟨j,hj,h1,h2,_,e⟩:=CA (A0.2 hR) ((gS hR).2 ⟨i,q⟩);have:j=i:=T8.one hR ⟨hj,by rw[O4 hj];exact .inl h1,by rw[O4 hj];exact h2⟩ q.d;subst this;rw[e,O4 hj]
theorem HJ{s:b6}(hR:SR s){h:Int}{i:Nat}(q:At s h i):sk s.S.b7 h=(ce s i).Val.Serial:=by
 have:=hR.len;have hi:=q.1;rw[q.2.2,Fc hi (by omega),O4 hi]
theorem wP{s:b6}(hR:SR s){h:Int}{i:Nat}(q:T8 s h i):z7 s.S h=some ((i:Int),0):=uL ((rq hR).2 q)
theorem xw{s:b6}(hR:SR s){h:Int}(hh:h<=9223372036854775807)(q:∀i,¬T8 s h i):z7 s.S h=some (-1,if h=0 then 2 else 3):=Bd hh λi hi=>q i ((rq hR).1 hi)
theorem MR{s s':b6}(hR:SR s)(hR':SR s')(P:Int->Bool)(hm:∀h,(∃i,At s' h i)↔(∃i,At s h i)/\P h=true)(hk:∀h i j,At s' h i->At s h j->(ce s' i).Val.Serial=(ce s j).Val.Serial):lv s'=(lv s).filter P:=by
 have hk':∀h∈lv s,P h=true->sk s'.S.b7 h=sk s.S.b7 h:=λh hh hp=>by
  obtain⟨j,hj⟩:=(gS hR).1 hh;obtain⟨i,hi⟩:=(hm h).2 ⟨⟨j,hj⟩,hp⟩;rw[HJ hR' hi,HJ hR hj,hk h i j hi hj]
 refine Wm (A0.2 hR') ?_ ?_
 .rw[zb4 ((tu (A0.2 hR)).filter _) (mV 0 _ (by have:=hR'.len;omega))];intro h;rw[zi,gS hR,Ez,hm h]
 .refine ((mY (A0.2 hR)).2.2.filter P).imp_of_mem λ{a b} ha hb hab=>?_;rw[zi] at ha hb;rw[hk' a ha.1 ha.2,hk' b hb.1 hb.2];exact hab
theorem Qx{s s':b6}(hR:SR s)(hR':SR s')(hl:s'.S.b7.length=s.S.b7.length)(h1:∀i,i<s.S.b7.length->((ce s' i).State=1↔(ce s i).State=1)/\(ce s' i).Gen=(ce s i).Gen/\(ce s' i).Val.Serial=(ce s i).Val.Serial):lv s'=lv s:=by
 have ha:∀h i,At s' h i↔At s h i:=λh i=>by
  unfold At;rw[hl];constructor
  .rintro⟨a,b,c⟩;obtain⟨x,y,z⟩:=h1 i a;exact⟨a,x.1 b,by rw[<-y];exact c⟩
  .rintro⟨a,b,c⟩;obtain⟨x,y,z⟩:=h1 i a;exact⟨a,x.2 b,by rw[y];exact c⟩
 rw[MR hR hR' (λ_=>true) (λh=>by simp only[and_true];exact⟨λ⟨i,q⟩=>⟨i,(ha h i).1 q⟩,λ⟨i,q⟩=>⟨i,(ha h i).2 q⟩⟩) (λh i j q q'=>by
  have:=T8.one hR ((ha h i).1 q).d q'.d;subst this;exact (h1 i q'.1).2.2)]
 simp
def fO(s:b6)(i:Nat)(o:n7):b6:=⟨⟨s.S.b7.set i ⟨(ce s i).State,(ce s i).Gen,o⟩,s.S.Last⟩,s.Serial⟩
theorem J3(s:b6)(i:Nat)(o:n7):(fO s i o).S.b7.length=s.S.b7.length:=by simp[fO]
theorem xW{α:Type}{l:List α}{i:Nat}(hi:i<l.length)(c d:α)(j:Nat):(l.set i c).getD j d=if j=i then c else l.getD j d:=by
 rw[zd,zd,List.getElem?_set];by_cases h:j=i
 .subst h;rw[zb rfl,zb hi,zb rfl];rfl
 .rw[za (za2 h),za h]
theorem mH{s:b6}{i:Nat}(hi:i<s.S.b7.length)(o:n7)(j:Nat):ce (fO s i o) j=if j=i then ⟨(ce s i).State,(ce s i).Gen,o⟩ else ce s j:=xW hi _ _ j
theorem Aa{s:b6}{i:Nat}(hi:i<s.S.b7.length)(o:n7)(j:Nat):(ce (fO s i o) j).State=(ce s j).State/\(ce (fO s i o) j).Gen=(ce s j).Gen:=by
 rw[mH hi];split;·rename_i q;subst q;exact⟨rfl,rfl⟩
 .exact⟨rfl,rfl⟩
theorem wO{s:b6}{i:Nat}(hi:i<s.S.b7.length)(o:n7){h:Int}{j:Nat}:T8 (fO s i o) h j↔T8 s h j:=by
 unfold T8 Th;rw[J3,(Aa hi o j).1,(Aa hi o j).2]
theorem xx{s:b6}{i:Nat}(hi:i<s.S.b7.length)(o:n7){h:Int}{j:Nat}:At (fO s i o) h j↔At s h j:=by
 unfold At;rw[J3,(Aa hi o j).1,(Aa hi o j).2]
theorem Oi{s:b6}(hR:SR s){h:Int}{i:Nat}(q:T8 s h i)(o:n7):R6 s h o=some (fO s i o,0):=by
 obtain⟨hi,e⟩:=Oj (v:=o) hR.len ((rq hR).2 q);unfold R6;rw[e];simp[fO,O4 hi]
theorem SR.put{s:b6}(hR:SR s){i:Nat}(hi:i<s.S.b7.length)(ht:Th (ce s i)){o:n7}(hs:o.Serial=(ce s i).Val.Serial)(ho:Ap s o):SR (fO s i o):=by
 have hst:=Aa hi o;have hse:∀j,(ce (fO s i o) j).Val.Serial=(ce s j).Val.Serial:=λj=>by
  rw[mH hi];split;·rename_i q;subst q;exact hs
  .rfl
 refine⟨by rw[J3];exact hR.len,hR.l0,hR.l9,hR.aW,λj hj=>?_,λj hj hn=>?_,λj hj hn=>?_,λj k hj hk a b e=>?_⟩
 .rw[J3] at hj;rw[(hst j).1,(hst j).2];exact hR.cell j hj
 .rw[J3] at hj;unfold Th at hn;rw[(hst j).1] at hn;rw[mH hi];split;·rename_i q;subst q;exact absurd ht hn
  .exact hR.no j hj hn
 .rw[J3] at hj;unfold Th at hn;rw[(hst j).1] at hn;rw[mH hi];split;·exact⟨ho.s1,ho.s2,ho.st,ho.wk,ho.p1,ho.p2,ho.fl⟩
  .have:=hR.ok j hj hn;exact⟨this.s1,this.s2,this.st,this.wk,this.p1,this.p2,this.fl⟩
 .rw[J3] at hj hk;unfold Th at a b;rw[(hst j).1] at a;rw[(hst k).1] at b;rw[hse,hse] at e;exact hR.dif j k hj hk a b e
theorem MQ{s:b6}(hR:SR s){i:Nat}(hi:i<s.S.b7.length){o:n7}(hs:o.Serial=(ce s i).Val.Serial)(hR':SR (fO s i o)):lv (fO s i o)=lv s:=by
 refine Qx hR hR' (J3 ..) λj hj=>?_;rw[mH hi];split;·rename_i q;subst q;exact⟨Iff.rfl,rfl,hs⟩
 .exact⟨Iff.rfl,rfl,rfl⟩
theorem Us{s:b6}(hR:SR s){h:Int}{i:Nat}(q:At s h i){o:n7}(hR':SR (fO s i o)){k:Int}(hk:k<=9223372036854775807):ob (fO s i o) k=if k=h then o else ob s k:=by
 by_cases e:k=h
 .subst e;rw[zb rfl,F4 hR' ((xx q.1 o).2 q),mH q.1,zb rfl]
 .rw[za e];by_cases hl:∃j,At s k j
  .obtain⟨j,hj⟩:=hl;rw[F4 hR' ((xx q.1 o).2 hj),F4 hR hj,mH q.1,za];intro e2;subst e2;exact e (hj.2.2.trans q.2.2.symm)
  .rw[vI (A0.2 hR) hk (λq2=>hl ((gS hR).1 q2)),vI (A0.2 hR') hk λq2=>hl (by
    obtain⟨j,hj⟩:=(gS hR').1 q2;exact⟨j,(xx q.1 o).1 hj⟩)]
def D5(h:Int):Nat:=((h-1) % 32).toNat
theorem T8.D5{s:b6}(hR:SR s){h:Int}{i:Nat}(q:T8 s h i):D5 h=i:=by
 obtain⟨a,_,c⟩:=q;have:=hR.len;unfold Sh.D5;omega
def cT(s:b6)(h:Int)(o:n7):b6:=fO s (D5 h) o
theorem o0{s:b6}(hR:SR s){h:Int}(hh:h∈lv s):At s h (D5 h):=by
 obtain⟨i,hi⟩:=(gS hR).1 hh;rw[hi.d.D5 hR];exact hi
theorem K0{s:b6}(hR:SR s){h:Int}(hh:h∈lv s):Ap s (ob s h):=by
 have q:=o0 hR hh;rw[F4 hR q];exact hR.ok _ q.1 (.inl q.2.1)
theorem H4{s:b6}(hR:SR s){h:Int}(hh:h∈lv s):1<=h/\h<=320:=(o0 hR hh).d.KK hR
theorem eQ{s:b6}(hR:SR s):(0:Int)∉lv s:=λh=>by have:=H4 hR h;omega
section
variable{s:b6}(hR:SR s){h:Int}(hh:h∈lv s){o:n7}(hs:o.Serial=(ob s h).Serial)(ho:Ap s o)
include hR hh hs ho
theorem bP:SR (cT s h o):=by
 have q:=o0 hR hh;exact hR.put q.1 (.inl q.2.1) (by rw[hs,F4 hR q]) ho
theorem iE:lv (cT s h o)=lv s:=by
 have q:=o0 hR hh;exact MQ hR q.1 (by rw[hs,F4 hR q]) (bP hR hh hs ho)
theorem gk{k:Int}(hk:k<=9223372036854775807):ob (cT s h o) k=if k=h then o else ob s k:=Us hR (o0 hR hh) (bP hR hh hs ho) hk
theorem xf:R6 s h o=some (cT s h o,0):=Oi hR (o0 hR hh).d o
theorem Di{k:Int}{i:Nat}:T8 (cT s h o) k i↔T8 s k i:=wO (o0 hR hh).1 o
theorem yP(i:Nat):ce (cT s h o) i=if i=D5 h then ⟨(ce s i).State,(ce s i).Gen,o⟩ else ce s i:=by
 unfold cT;rw[mH (o0 hR hh).1];split;·rename_i q;rw[q]
 .rfl
end
abbrev AP(o:n7)(n:Int):n7:=⟨o.Serial,n,o.Weak,o.Prog,o.Started,o.Fields⟩
structure vB (s s':b6):Prop where
 sr:SR s'
 len:s'.S.b7.length=s.S.b7.length
 last:s'.S.Last=s.S.Last
 aW:s'.Serial=s.Serial
 lv:lv s'=lv s
 ad:∀k i,T8 s' k i↔T8 s k i
 ob:∀k,k<=9223372036854775807->∃n,ob s' k=(AP (ob s k) (n))
 ce:∀i,i<s.S.b7.length->(ce s' i).State=(ce s i).State/\(ce s' i).Gen=(ce s i).Gen/\(ce s' i).Val.Weak=(ce s i).Val.Weak/\(ce s' i).Val.Fields=(ce s i).Val.Fields/\((ce s i).State≠1->ce s' i=ce s i)
theorem vB.refl{s:b6}(hR:SR s):vB s s:=⟨hR,rfl,rfl,rfl,rfl,λ_ _=>Iff.rfl,λk _=>⟨_,rfl⟩,λi _=>⟨rfl,rfl,rfl,rfl,λ_=>rfl⟩⟩
theorem vB.trans{a b c:b6}(h:vB a b)(q:vB b c):vB a c:=by
 refine⟨q.sr,q.len.trans h.len,q.last.trans h.last,q.aW.trans h.aW,q.lv.trans h.lv,λk i=>(q.ad k i).trans (h.ad k i),λk hk=>?_,λi hi=>?_⟩
 .obtain⟨n,e⟩:=h.ob k hk;obtain⟨m,f⟩:=q.ob k hk;exact⟨m,by rw[f,e]⟩
 .obtain⟨a1,a2,a3,a4,a5⟩:=h.ce i hi;obtain⟨b1,b2,b3,b4,b5⟩:=q.ce i (by rw[h.len];exact hi);refine⟨b1.trans a1,b2.trans a2,b3.trans a3,b4.trans a4,λhn=>?_⟩;rw[b5 (by rw[a1];exact hn),a5 hn]
theorem vB.outs{s s':b6}(k:vB s s'){h:Int}(hh:h<=9223372036854775807):outs s' h=outs s h:=by
 obtain⟨n,e⟩:=k.ob h hh;unfold Sh.outs;rw[e]
theorem vB.jZ{s s':b6}(hR:SR s)(k:vB s s')(h:Int):jZ s' h=jZ s h:=by
 unfold Sh.jZ;rw[k.lv];congr 1;refine zt λx hx=>?_;rw[k.outs (by have:=H4 hR hx;omega)]
theorem Qp{s:b6}(hR:SR s){h:Int}(hh:h∈lv s){n:Int}(hn:0<=n):vB s (cT s h (AP (ob s h) (n))):=by
 have ho:Ap s (AP (ob s h) (n)):=by
  have:=K0 hR hh;exact⟨this.s1,this.s2,hn,this.wk,this.p1,this.p2,this.fl⟩
 have q:=o0 hR hh;refine⟨bP hR hh rfl ho,J3 ..,rfl,rfl,iE hR hh rfl ho,λk i=>Di (o:=(AP (ob s h) (n))) hR hh rfl ho,λk hk=>?_,λi hi=>?_⟩
 .rw[gk (o:=(AP (ob s h) (n))) hR hh rfl ho hk];split;·rename_i e;subst e;exact⟨n,rfl⟩
  .exact⟨_,rfl⟩
 .rw[yP (o:=(AP (ob s h) (n))) hR hh rfl ho];split
  .rename_i e;subst e;rw[F4 hR q];exact⟨rfl,rfl,rfl,rfl,λhn=>absurd q.2.1 hn⟩
  .exact⟨rfl,rfl,rfl,rfl,λ_=>rfl⟩
def SB(s:b6):Prop:=∀c∈s.S.b7,c.Val.Strong<=9223372036854775807
theorem VV{s:b6}:FB s↔∀i,i<s.S.b7.length->∀x∈(ce s i).Val.Fields,x<=9223372036854775807:=by
 constructor
 .intro h i hi x hx;rw[O4 hi] at hx;exact h _ (zh hi) x hx
 .intro h c hc x hx;obtain⟨i,hi,rfl⟩:=wt hc;exact h i hi x (by rw[O4 hi];exact hx)
theorem WS{s:b6}:SB s↔∀i,i<s.S.b7.length->(ce s i).Val.Strong<=9223372036854775807:=by
 constructor
 .intro h i hi;rw[O4 hi];exact h _ (zh hi)
 .intro h c hc;obtain⟨i,hi,rfl⟩:=wt hc;have:=h i hi;rwa [O4 hi] at this
noncomputable def inr(s:b6)(t:Tb)(h:Int):Nat:=jZ s h+own t h
noncomputable def KN(s:b6)(t:Tb)(h:Int):Int:=if h∈lv s then (ob s h).Strong-(inr s t h:Int) else 0
noncomputable def Kh(s:b6)(t:Tb):List Int:=(lv s).filter λh=>decide (0<KN s t h\/12<=(ob s h).Strong)
def RS(s:b6)(t:Tb)(l:List Int):Prop:=∀h∈lv s,(ob s h).Strong<12->KN s t h=(R7 l h:Int)
noncomputable instance(s:b6)(t:Tb)(l:List Int):Decidable (RS s t l):=Classical.propDecidable _
section
variable{s:b6}(hR:wc (sO s)){t:Tb}(hT:HR t)
include hR hT
theorem MH(h:Int):kL s t h=some (inr s t h:Int):=by
 unfold kL;have h1:=MG hR h;have h2:=NB hT.l8 h;rw[We hR,Yy,NC hT,Yy,P1 (by omega) (by omega)];unfold inr;simp
theorem TR(h:Int):inr s t h<=104:=by
 have h1:=MG hR h;have h2:=NB hT.l8 h;unfold inr;omega
omit hT in
theorem BK (hB:SB s) {h:Int} (hh:h∈lv s):0<=(ob s h).Strong/\(ob s h).Strong<=9223372036854775807:=by
 obtain⟨i,hi⟩:=(gS (A0.1 hR)).1 hh;rw[F4 (A0.1 hR) hi];refine⟨((A0.1 hR).ok i hi.1 (.inl hi.2.1)).st,?_⟩;rw[O4 hi.1];exact hB _ (zh _)
theorem Rl(hB:SB s){h:Int}(hh:h<=9223372036854775807):nG s t h=some (KN s t h):=by
 unfold nG;obtain⟨e,h1,h2⟩:=iq hR hh;rw[h1,Yy];by_cases q:h∈lv s
 .have:=h2.2 q;subst this;have h3:=TR hR hT h;have h4:=BK hR hB q;rw[za (by simp),MH hR hT,Yy,P1 (by dsimp only;omega) (by dsimp only;omega)];unfold KN;rw[zb q]
 .rw[zb (by simpa using λq2=>q (h2.1 q2))];unfold KN;rw[za q]
omit hT in
theorem Wl {k:Nat} (hk:k<(lv s).length):(lv s)[k]<=9223372036854775807:=by
 have:=pb hR (zh hk);omega
theorem Qg(hB:SB s):nE s t=some (Kh s t):=by
 unfold nE;simp only[jn];have h24:=M1 hR;rw[gB hR,Yy,U7 (lv s) (λb x=>if decide (0<KN s t x\/12<=(ob s x).Strong) then b ++ [x] else b) id (λk b=>b.length<=k) (by omega) (by simp) (λk hk b hI=>?_) (λb _=>by simp),Yy]
 .rw[foldl_filter];rfl
 .have hm:=zh hk;have hle:=Wl hR hk;simp only[wp,hk,t6,wn,s7 hk,Yy];rw[uT hR hm,Yy];unfold nF oD H9;rw[Rl hR hT hB hle,Yy,Yy];by_cases q:0<KN s t (lv s)[k]
  .rw[zC (show KN s t (lv s)[k] > 0 from q)];simp only[show ((true==false):Bool)=false from rfl,IL,Yy,Bool.true_or,wn];rw[K5 (by omega) (by simp;omega),Yy,n9,zb (zC (.inl q))];exact⟨rfl,by simp;omega⟩
  .rw[zY (show ¬KN s t (lv s)[k] > 0 from q)];simp only[ul,fm,Yy,zbe];by_cases q2:12<=(ob s (lv s)[k]).Strong
   .rw[zb (zC q2),K5 (by omega) (by simp;omega),Yy,n9,zb (zC (.inr q2))];exact⟨rfl,by simp;omega⟩
   .rw[za (by simpa using q2),n9,za (by simp only[decide_eq_true_eq];exact λc=>c.elim q q2)];exact⟨rfl,by omega⟩
omit hT in
theorem Qh:(Kh s t).length<=24:=zO (zA ..) (M1 hR)
omit hR hT in
theorem pU {h:Int}:h∈Kh s t↔h∈lv s/\(0<KN s t h\/12<=(ob s h).Strong):=by
 unfold Kh;rw[zi,decide_eq_true_eq]
omit hT in
theorem TJ:LB (Kh s t):=λx hx=>by have:=pb hR (pU.1 hx).1;omega
theorem Gw(hTB:TB t)(hF:FB s)(hB:SB s):df s t=some (Vu s t (Kh s t)):=by
 unfold df;have:=Qh hR (t:=t);rw[Qg hR hT hB,Yy,Mn hR hT hTB hF (TJ hR) (by omega)];rfl
end
abbrev TQ:=j5
def VA(q:TQ)(t:g5):TQ × Int:=if q.Cap<=q.L.length then (q,4) else (⟨q.L ++ [t],q.Cap⟩,0)
def RC(q:TQ):TQ × g5 × Int:=match q.L with
 | []=>(q,⟨0,0,0⟩,10)
 | t::l=>(⟨l,q.Cap⟩,t,0)
theorem SA{q:TQ}(t:g5)(h:q.L.length<=1000):pE q t=some (VA q t):=by
 unfold VA;unfold pE V5 L5 G7;simp only[Yy];by_cases c:q.Cap<=q.L.length
 .rw[zb (by simpa using c),zb c,Yy]
 .rw[za (by simpa using c),za c];have e:cut q.L 0 (q.L.length:Int)=some q.L:=by
   have:=uG (xs:=q.L) (i:=0) (j:=q.L.length) (zV _) (zE _);simpa using this
  rw[e,Yy,Yy,K5 (by omega) (by simp;omega),Yy,Yy]
theorem yW{q:TQ}:aY q=some (RC q):=by
 unfold RC;unfold aY cM bm L5 G7;simp only[Yy];cases hl:q.L with
 | nil=>
  have e:cut ([]:List g5) 0 0=some []:=rfl;simp[e]
 | cons t l=>
  have hm:(if (if (((t::l).length:Nat):Int)<1 then (((t::l).length:Nat):Int) else 1) > 0 then (if (((t::l).length:Nat):Int)<1 then (((t::l).length:Nat):Int) else 1) else 0)=1:=by
   rw[za (show ¬(((t::l).length:Nat):Int)<1 by simp;omega)];simp
  rw[hm];have e1:cut (t::l) 0 1=some [t]:=by
   have:=uG (xs:=t::l) (i:=0) (j:=1) (zV _) (by simp);simpa using this
  have e2:cut (t::l) 1 (((t::l).length:Nat):Int)=some l:=by
   have:=uG (xs:=t::l) (i:=1) (j:=(t::l).length) (by simp) (zE _);simpa using this
  rw[e1,e2];simp[ix]
theorem Kb{α β:Type}(p:α->Bool)(f:α->β)(l:List α)(k:Nat)(h:k<l.length):((l.take (k+1)).filter p).map f=((l.take k).filter p).map f++(if p l[k] then [f l[k]] else []):=by
 rw[zx h,za4,zaa];congr 1;simp only[or,List.filter_nil];split <;> rfl
theorem Oo{q:TQ}(h:q.L.length<=1000):gn q=some ((q.L.filter (·.Kind==1)).map (·.At)):=by
 unfold gn qi;simp only[jn,Yy];refine ca q.L.length (λk l=>l=((q.L.take k).filter (·.Kind==1)).map (·.At)) (by omega) (by simp) ?_ (λl hl=>⟨_,by simp;rfl,by rw[hl,zR]⟩);rintro k l hk rfl;left;rw[Kb _ _ _ _ hk];simp only[wp,hk,t6,wn,s7 hk,Yy];have hle:(List.map (·.At) (List.filter (·.Kind==1) (List.take k q.L))).length<=1000:=by
  rw[zl];exact zO (zA ..) (by simp;omega)
 by_cases c:(q.L[k].Kind==1)=true
 .rw[c,zb (by decide),K5 (by omega) (by simp only[zH,zag];omega),Yy,n9];exact⟨_,rfl,rfl⟩
 .have c:(q.L[k].Kind==1)=false:=by simpa using c
  rw[c,za (by decide),n9];exact⟨_,rfl,by simp⟩
theorem xi{q:TQ}{w:Int}(h:q.L.length<=1000):aD q w=some (q.L.any λt=>t.Kind==2&&t.At==w):=by
 unfold aD qi;simp only[jn,Yy];refine eO q.L.length (λk=>(q.L.take k).any (λt=>t.Kind==2&&t.At==w)=false) (by omega) (by simp) ?_ (λhl=>⟨.inr (),by simp,by rw[zR] at hl;rw[hl]⟩);intro k hk hP;simp only[wp,hk,t6,wn,s7 hk,Yy];rw[zx hk,List.any_append,hP,zbe];by_cases c:(q.L[k].Kind==2)=true
 .rw[c,zb (by decide)];by_cases d:(q.L[k].At==w)=true
  .right;rw[d,zb rfl];refine⟨.inl true,rfl,?_⟩;simp only[zX];symm
   rw[List.any_eq_true];exact⟨_,zh hk,by rw[c,d];rfl⟩
  .have d:(q.L[k].At==w)=false:=by simpa using d
   left;rw[d,za (by decide),n9];exact⟨rfl,by simp[d]⟩
 .have c:(q.L[k].Kind==2)=false:=by simpa using c
  left;rw[c,za (by decide),n9];exact⟨rfl,by simp[c]⟩
def Yu(t:g5):ES:=⟨t.Kind,t.At,t.Prog⟩
def Yv(q:TQ):pX:=⟨q.L.map Yu,q.Cap⟩
abbrev Hp:=b9
abbrev wS(x:Hp)(s:b6):Hp:=⟨s,x.Roots,x.b7,x.T,x.Q⟩
abbrev wR(x:Hp)(l:List Int):Hp:=⟨x.S,l,x.b7,x.T,x.Q⟩
abbrev wC(x:Hp)(l:List k7):Hp:=⟨x.S,x.Roots,l,x.T,x.Q⟩
abbrev wT(x:Hp)(t:Tb):Hp:=⟨x.S,x.Roots,x.b7,t,x.Q⟩
abbrev wQ(x:Hp)(q:TQ):Hp:=⟨x.S,x.Roots,x.b7,x.T,q⟩
def jg(l:List k7)(h:Int):Nat:=l.countP λc=>(h != 0)&&(c.Target==h)
def oT(q:TQ):List Int:=(q.L.filter (·.Kind==1)).map (·.At)
def vZ(q:TQ)(w:Int):Bool:=q.L.any λt=>t.Kind==2&&t.At==w
def oc(x:Hp):List Int:=nz x.Roots++oT x.Q
noncomputable def lM(x:Hp)(h:Int):Nat:=jZ x.S h+own x.T h+R7 (oc x) h
def H5(s:b6)(i:Nat)(c:c8):b6:=⟨⟨s.S.b7.set i c,s.S.Last⟩,s.Serial⟩
theorem V6(s:b6)(i:Nat)(c:c8):(H5 s i c).S.b7.length=s.S.b7.length:=by simp[H5]
theorem K6{s:b6}{i:Nat}(hi:i<s.S.b7.length)(c:c8)(j:Nat):ce (H5 s i c) j=if j=i then c else ce s j:=xW hi _ _ j
theorem SR.H5{s:b6}(hR:SR s){i:Nat}(hi:i<s.S.b7.length){c:c8}(h1:0<=c.State/\c.State<=3/\0<=c.Gen/\c.Gen<=s.S.Last)(h2:¬Th c->Jx (oo c.Val))(h3:Th c->Ap s c.Val/\Th (ce s i)/\c.Val.Serial=(ce s i).Val.Serial):SR (H5 s i c):=by
 have key:∀j,Th (ce (Sh.H5 s i c) j)->Th (ce s j)/\(ce (Sh.H5 s i c) j).Val.Serial=(ce s j).Val.Serial:=λj hj=>by
  rw[K6 hi] at hj |-;split at hj
  .rename_i e;subst e;rw[zb rfl];exact (h3 hj).2
  .rename_i e;rw[za e];exact⟨hj,rfl⟩
 refine⟨by rw[V6];exact hR.len,hR.l0,hR.l9,hR.aW,λj hj=>?_,λj hj hn=>?_,λj hj hn=>?_,λj k hj hk a b e=>?_⟩
 .rw[V6] at hj;rw[K6 hi];split;·exact h1
  .exact hR.cell j hj
 .rw[V6] at hj;rw[K6 hi] at hn |-;split at hn
  .rename_i e;rw[zb e];exact h2 hn
  .rename_i e;rw[za e];exact hR.no j hj hn
 .rw[V6] at hj;rw[K6 hi] at hn |-;split at hn
  .rename_i e;rw[zb e];have:=(h3 hn).1;exact⟨this.s1,this.s2,this.st,this.wk,this.p1,this.p2,this.fl⟩
  .rename_i e;rw[za e];have:=hR.ok j hj hn;exact⟨this.s1,this.s2,this.st,this.wk,this.p1,this.p2,this.fl⟩
 .rw[V6] at hj hk;obtain⟨a1,a2⟩:=key j a;obtain⟨b1,b2⟩:=key k b;rw[a2,b2] at e;exact hR.dif j k hj hk a1 b1 e
theorem DM{s:b6}{i:Nat}(hi:i<s.S.b7.length)(c:c8){h:Int}{j:Nat}(hj:j≠i):T8 (H5 s i c) h j↔T8 s h j:=by
 unfold T8;rw[V6,K6 hi,za hj]
theorem wU{s:b6}{i:Nat}(hi:i<s.S.b7.length)(c:c8){h:Int}{j:Nat}(hj:j≠i):At (H5 s i c) h j↔At s h j:=by
 unfold At;rw[V6,K6 hi,za hj]
theorem Ix{s:b6}(hR:SR s){i:Nat}(hi:i<s.S.b7.length){c:c8}(hc:c.State≠1)(hR':SR (H5 s i c)):lv (H5 s i c)=(lv s).filter λh=>decide (D5 h≠i):=by
 have hno:∀h,¬At (H5 s i c) h i:=λh q=>by
  have:=q.2.1;rw[K6 hi,zb rfl] at this;exact hc this
 refine MR hR hR' _ (λh=>?_) (λh j k q q'=>?_)
 .rw[zG];constructor
  .rintro⟨j,hj⟩;have hne:j≠i:=λe=>hno h (e▸hj);have:=(wU hi c hne).1 hj;exact⟨⟨j,this⟩,by rw[this.d.D5 hR];exact hne⟩
  .rintro⟨⟨j,hj⟩,hp⟩;rw[hj.d.D5 hR] at hp;exact⟨j,(wU hi c hp).2 hj⟩
 .have hne:j≠i:=λe=>hno h (e▸q);have q2:=(wU hi c hne).1 q;have:=T8.one hR q2.d q'.d;subst this;rw[K6 hi,za hne]
theorem IK{s:b6}(hR:SR s){i:Nat}(hi:i<s.S.b7.length){c:c8}(hR':SR (H5 s i c)){k:Int}(hk:k∈lv s)(hp:D5 k≠i):ob (H5 s i c) k=ob s k:=by
 have q:=o0 hR hk;rw[F4 hR' ((wU hi c hp).2 q),F4 hR q,K6 hi,za hp]
structure Kn (s s':b6):Prop where
 sr:SR s'
 len:s'.S.b7.length=s.S.b7.length
 lv:lv s'=lv s
 ad:∀k i,T8 s' k i↔T8 s k i
 ob:∀k,k∈Sh.lv s->∃n m,ob s' k=⟨(ob s k).Serial,n,m,(ob s k).Prog,(ob s k).Started,(ob s k).Fields⟩
theorem vB.kn{s s':b6}(hR:SR s)(k:vB s s'):Kn s s':=⟨k.sr,k.len,k.lv,k.ad,λh hh=>by
 obtain⟨n,e⟩:=k.ob h (by have:=H4 hR hh;omega);exact⟨n,_,e⟩⟩
theorem Kn.jZ{s s':b6}(k:Kn s s')(h:Int):jZ s' h=jZ s h:=by
 unfold Sh.jZ;rw[k.lv];congr 1;refine zt λx hx=>?_;obtain⟨n,m,e⟩:=k.ob x hx;unfold Sh.outs;rw[e]
structure kc (x:Hp):Prop where
 sr:SR x.S
 hr:HR x.T
 r6:x.Roots.length=6
 c6:x.b7.length=6
 cap:x.Q.Cap=30
 q30:x.Q.L.length<=30
 tk:∀t∈x.Q.L,0<=t.Prog/\t.Prog<=5/\((t.Kind=1/\t.At∈lv x.S/\(ob x.S t.At).Started=true)\/(t.Kind=2/\0<=t.At/\t.At<=5))
 td:x.Q.L.Pairwise λa b=>¬(a.Kind=b.Kind/\a.At=b.At)
 rt:∀h∈x.Roots,h=0\/h∈lv x.S
 fl:∀h∈lv x.S,∀v∈(ob x.S h).Fields,v=0\/v∈lv x.S
 pr:∀k v,Has x.T k v->k∈lv x.S/\v∈lv x.S
 cl:∀i (hi:i<x.b7.length),-1<=x.b7[i].Call/\x.b7[i].Call<=5/\(x.b7[i].Target=0->x.b7[i].Intact=false)/\(x.b7[i].Target≠0->∃p,T8 x.S x.b7[i].Target p)/\(x.b7[i].Intact=true->x.b7[i].Target∈lv x.S/\vZ x.Q i=false)
def Wk(x:Hp):Prop:=∀i,i<x.S.S.b7.length->Th (ce x.S i)->(ce x.S i).Val.Weak=(jg x.b7 (1+(i:Int)+32*(ce x.S i).Gen):Int)/\((ce x.S i).State=2->1<=(ce x.S i).Val.Weak/\(ce x.S i).Val.Fields = []/\(ce x.S i).Val.Strong=0)
def aE(x:Hp)(L:List Int):Prop:=∀h∈lv x.S,(ob x.S h).Strong<12->(ob x.S h).Strong=((lM x h+R7 L h:Nat):Int)
structure J8 (x:Hp):Prop where
 sh:kc x
 wk:Wk x
 fair:aE x []
theorem kc.of{x:Hp}(h:kc x){s':b6}(hS:SR s')(hl:lv s'=lv x.S)(hd:∀k i,T8 x.S k i->T8 s' k i)(hst:∀k∈lv x.S,(ob x.S k).Started=true->(ob s' k).Started=true)(hfl:∀k∈lv x.S,∀v∈(ob s' k).Fields,v=0\/v∈lv x.S):kc (wS x s'):=by
 refine⟨hS,h.hr,h.r6,h.c6,h.cap,h.q30,λt ht=>?_,h.td,λk hk=>?_,λk hk=>?_,λk v hkv=>?_,λi hi=>?_⟩
 .obtain⟨a,b,c⟩:=h.tk t ht;refine⟨a,b,?_⟩;rcases c with ⟨c1,c2,c3⟩ | c;·exact .inl ⟨c1,by rw[hl];exact c2,hst _ c2 c3⟩
  .exact .inr c
 .dsimp only;rw[hl];exact h.rt k hk
 .dsimp only at hk |-;rw[hl] at hk |-;exact hfl k hk
 .dsimp only;rw[hl];exact h.pr k v hkv
 .obtain⟨a,b,c,d,e⟩:=h.cl i hi;refine⟨a,b,c,λq=>?_,λq=>?_⟩
  .obtain⟨p,hp⟩:=d q;exact⟨p,hd _ _ hp⟩
  .dsimp only;rw[hl];exact e q
theorem kc.kn{x:Hp}(h:kc x){s':b6}(k:Kn x.S s'):kc (wS x s'):=by
 refine h.of k.sr k.lv (λj i q=>(k.ad j i).2 q) (λj hj q=>?_) (λj hj=>?_)
 .obtain⟨n,m,e⟩:=k.ob j hj;rw[e];exact q
 .obtain⟨n,m,e⟩:=k.ob j hj;rw[e];exact h.fl j hj
theorem kc.wm{x:Hp}(h:kc x){s':b6}(k:vB x.S s'):kc (wS x s'):=h.kn (k.kn h.sr)
theorem Wk.wm{x:Hp}(h:Wk x){s':b6}(k:vB x.S s'):Wk (wS x s'):=by
 intro i hi ht;dsimp only at hi ht |-;rw[k.len] at hi;obtain⟨a,b,c,d,e⟩:=k.ce i hi;unfold Th at ht;rw[a] at ht;obtain⟨f,g⟩:=h i hi ht;rw[a,b,c];refine⟨f,λq=>?_⟩;have e':=e (by omega);rw[<-c,e'];exact g q
theorem kc.roots{x:Hp}(h:kc x){l:List Int}(hl:l.length=6)(hr:∀v∈l,v=0\/v∈lv x.S):kc (wR x l):=⟨h.sr,h.hr,hl,h.c6,h.cap,h.q30,h.tk,h.td,hr,h.fl,h.pr,h.cl⟩
theorem kc.table{x:Hp}(h:kc x){t:Tb}(hr:HR t)(hp:∀k v,Has t k v->k∈lv x.S/\v∈lv x.S):kc (wT x t):=⟨h.sr,hr,h.r6,h.c6,h.cap,h.q30,h.tk,h.td,h.rt,h.fl,hp,h.cl⟩
def Y9(c:Int):Int:=if 12<=c then 12 else if c<0 then 1 else c+1
def kR(c:Int):Int:=if 12<=c then 12 else if c<1 then c else c-1
theorem E4{c:Int}(h:0<=c):0<=Y9 c:=by unfold Y9;split <;> (try split) <;> omega
theorem P4{c:Int}(h:0<=c):0<=kR c:=by unfold kR;split <;> (try split) <;> omega
noncomputable def ue(x:Hp)(h:Int)(f:Int->Int):Hp:=if h∈lv x.S then wS x (cT x.S h (AP (ob x.S h) (f (ob x.S h).Strong))) else x
noncomputable def E5(x:Hp)(h:Int):Hp:=ue x h Y9
noncomputable def aA(x:Hp)(h:Int):Hp:=ue x h kR
theorem yT(x:Hp)(h:Int)(f:Int->Int):ue x h f=wS x (ue x h f).S:=by
 unfold ue;split <;> rfl
theorem po(x:Hp)(h:Int):E5 x h=wS x (E5 x h).S:=yT x h Y9
theorem UR(x:Hp)(h:Int):aA x h=wS x (aA x h).S:=yT x h kR
section
variable{x:Hp}(hR:SR x.S)(h:Int){f:Int->Int}(hf:∀c,0<=c->0<=f c)
include hR hf
theorem H6:vB x.S (ue x h f).S:=by
 unfold ue;split
 .rename_i q;exact Qp hR q (hf _ (K0 hR q).st)
 .exact vB.refl hR
theorem vu{k:Int}(hk:k∈lv x.S):(ob (ue x h f).S k).Strong=if k=h then f (ob x.S k).Strong else (ob x.S k).Strong:=by
 unfold ue;split
 .rename_i q;dsimp only;have ho:Ap x.S (AP (ob x.S h) (f (ob x.S h).Strong)):=by
   have:=K0 hR q;exact⟨this.s1,this.s2,hf _ this.st,this.wk,this.p1,this.p2,this.fl⟩
  rw[gk (o:=AP (ob x.S h) (f (ob x.S h).Strong)) hR q rfl ho (by have:=H4 hR hk;omega)];split;·rename_i e;subst e;rfl
  .rfl
 .rename_i q;rw[za];intro e;subst e;exact q hk
theorem xh(k:Int):lM (ue x h f) k=lM x k:=by
 rw[yT];unfold lM oc;dsimp only;rw[(H6 hR h hf).jZ hR]
end
theorem kc.st{x:Hp}(h:kc x)(k:Int){f:Int->Int}(hf:∀c,0<=c->0<=f c):kc (ue x k f):=by
 rw[yT];exact h.wm (H6 h.sr k hf)
theorem Wk.st{x:Hp}(h:Wk x)(hR:SR x.S)(k:Int){f:Int->Int}(hf:∀c,0<=c->0<=f c):Wk (ue x k f):=by
 rw[yT];exact h.wm (H6 hR k hf)
theorem I1(h:Int):R7 [] h=0:=by unfold R7;split <;> rfl
theorem H8(v:Int)(L:List Int)(h:Int):R7 (v::L) h=R7 L h+if v=h/\h≠0 then 1 else 0:=by
 unfold R7;by_cases h0:h=0
 .simp[h0]
 .rw[za h0,za h0,zcs];by_cases e:v=h
  .simp[e,h0]
  .simp[e]
theorem EY{x:Hp}(hR:SR x.S){L:List Int}(hf:aE x L)(v:Int):aE (E5 x v) (v::L):=by
 intro h hh hlt;unfold E5 at hh hlt |-;rw[(H6 hR v λc=>E4).lv] at hh;rw[vu hR v (λc=>E4) hh] at hlt |-;rw[xh hR v λc=>E4,H8];have h0:h≠0:=λe=>eQ hR (e▸hh);have hp:=(K0 hR hh).st;by_cases e:h=v
 .subst e;rw[zb rfl] at hlt |-;have:=hf h hh (by unfold Y9 at hlt;split at hlt <;> omega);rw[zb ⟨rfl,h0⟩];unfold Y9 at hlt |-;split at hlt;·omega
  .rename_i q;rw[za q,za (by omega)];omega
 .rw[za e] at hlt |-;rw[za (λq=>e q.1.symm)];exact hf h hh hlt
theorem tV{x:Hp}(hR:SR x.S){L:List Int}{v:Int}(hf:aE x (v::L)):aE (aA x v) L:=by
 intro h hh hlt;unfold aA at hh hlt |-;rw[(H6 hR v λc=>P4).lv] at hh;rw[vu hR v (λc=>P4) hh] at hlt |-;rw[xh hR v λc=>P4];have h0:h≠0:=λe=>eQ hR (e▸hh);have hp:=(K0 hR hh).st;by_cases e:h=v
 .subst e;rw[zb rfl] at hlt |-;have:=hf h hh (by unfold kR at hlt;split at hlt <;> omega);rw[H8,zb ⟨rfl,h0⟩] at this;unfold kR at hlt |-;split at hlt;·omega
  .rename_i q;rw[za q,za (by omega)];omega
 .rw[za e] at hlt |-;have:=hf h hh hlt;rw[H8,za (λq=>e q.1.symm)] at this;exact this
theorem aE.mv{x x':Hp}{L L':List Int}(hf:aE x L)(hl:lv x'.S=lv x.S)(hs:∀h∈lv x.S,(ob x'.S h).Strong=(ob x.S h).Strong)(hn:∀h∈lv x.S,lM x' h+R7 L' h=lM x h+R7 L h):aE x' L':=by
 intro h hh hlt;rw[hl] at hh;rw[hs h hh] at hlt |-;rw[hf h hh hlt,hn h hh]
theorem xk:∀ {l:List Int} {r:Nat} (hr:r<l.length) (h k:Int),R7 (l.set r h) k+R7 [l.getD r 0] k=R7 l k+R7 [h] k
 | [],_,hr,_,_=>by simp at hr
 | a::l,0,_,h,k=>by
  rw[List.set_cons_zero,List.getD_cons_zero,H8 h l,H8 a l,H8 a [],H8 h [],I1];omega
 | a::l,r+1,hr,h,k=>by
  rw[List.set_cons_succ,List.getD_cons_succ,H8 a,H8 a l];have:=xk (l:=l) (r:=r) (by simpa using hr) h k;omega
theorem rQ{x x1:Hp}(hx:J8 x){old new:Int}(h1:kc (E5 x new)->Wk (E5 x new)->kc x1/\Wk x1)
  (hl:lv x1.S=lv (E5 x new).S)(hs:∀h∈lv x.S,(ob x1.S h).Strong=(ob (E5 x new).S h).Strong)(hn:∀h∈lv x.S,lM x1 h+R7 [old] h=lM x h+R7 [new] h):J8 (aA x1 old):=by
 have l1:lv (E5 x new).S=lv x.S:=(H6 hx.sh.sr new λc=>E4).lv;have f1:aE (E5 x new) [new]:=EY hx.sh.sr hx.fair new;obtain⟨h2,w2⟩:=h1 (hx.sh.st new λc=>E4) (hx.wk.st hx.sh.sr new λc=>E4);have f2:aE x1 [old]:=f1.mv hl (λh hh=>hs h (l1▸hh)) λh hh=>by
  rw[hn h (l1▸hh)];unfold E5;rw[xh hx.sh.sr new λc=>E4]
 exact⟨h2.st _ λc=>P4,w2.st h2.sr _ λc=>P4,tV h2.sr f2⟩
noncomputable def G0(x:Hp)(r:Nat)(h:Int):Hp:=aA (wR (E5 x h) (x.Roots.set r h)) (x.Roots.getD r 0)
theorem bO{x:Hp}(hx:J8 x){r:Nat}(hr:r<6){h:Int}(hh:h=0\/h∈lv x.S):J8 (G0 x r h):=by
 have l1:lv (E5 x h).S=lv x.S:=(H6 hx.sh.sr h λc=>E4).lv;refine rQ hx (λa b=>⟨a.roots (by rw[zap];exact hx.sh.r6) (λv hv=>?_),b⟩) rfl (λ_ _=>rfl) (λk hk=>?_)
 .rw[l1];rcases zas hv with q | q
  .exact hx.sh.rt v q
  .exact q▸hh
 .have hi:=(H6 hx.sh.sr h λc=>E4).jZ hx.sh.sr k;rw[po];unfold lM oc;dsimp only;rw[show jZ (E5 x h).S k=jZ x.S k from hi,F8,F8,pF,pF];have:=xk (l:=x.Roots) (r:=r) (by rw[hx.sh.r6];exact hr) h k;omega
theorem Jn{α:Type}:∀ {l:List α} (hn:l.Nodup) {a:α} (ha:a∈l) (f g:α->Nat) (h:∀x∈l,x≠a->f x=g x),(l.map g).sum+f a=(l.map f).sum+g a
 | [],_,_,ha,_,_,_=>by cases ha
 | b::l,hn,a,ha,f,g,h=>by
  rw[me] at hn;rw[zT,zT,zbc,zbc];rcases zM.1 ha with e | e
  .subst e;have:l.map g=l.map f:=zt λx hx=>(h x (zn _ hx) λe=>hn.1 (e▸hx)).symm;rw[this];omega
  .have:=Jn hn.2 e f g λx hx=>h x (zn _ hx);have:=h b (zg ..) λq=>hn.1 (q▸e);omega
abbrev rp(o:n7)(l:List Int):n7:=⟨o.Serial,o.Strong,o.Weak,o.Prog,o.Started,l⟩
theorem Il{s:b6}(hR:SR s){h:Int}(hh:h∈lv s){o:n7}(hs:o.Serial=(ob s h).Serial)(ho:Ap s o)(y:Int):jZ (cT s h o) y+R7 (ob s h).Fields y=jZ s y+R7 o.Fields y:=by
 have hle:=H4 hR hh;have:=Jn (tu (A0.2 hR)) hh (λx=>R7 (outs s x) y) (λx=>R7 (outs (cT s h o) x) y) λx hx hne=>by
  have:=H4 hR hx;unfold outs;rw[gk hR hh hs ho (by omega),za hne]
 have e:R7 (outs (cT s h o) h) y=R7 o.Fields y:=by
  unfold outs;rw[gk hR hh hs ho (by omega),zb rfl,pF]
 have e2:R7 (outs s h) y=R7 (ob s h).Fields y:=pF _ _;rw[e,e2] at this;unfold jZ;rw[iE hR hh hs ho];exact this
noncomputable def bF(x:Hp)(h:Int)(k:Nat)(v:Int):Hp:=aA (wS (E5 x v) (cT (E5 x v).S h (rp (ob (E5 x v).S h) ((ob x.S h).Fields.set k v)))) ((ob x.S h).Fields.getD k 0)
theorem Ci{x:Hp}(hx:J8 x){h:Int}(hh:h∈lv x.S){k:Nat}(hk:k<(ob x.S h).Fields.length){v:Int}(hv:v=0\/v∈lv x.S):J8 (bF x h k v):=by
 have wm:=H6 hx.sh.sr v (f:=Y9) λc=>E4;have l1:lv (E5 x v).S=lv x.S:=wm.lv;have hR1:SR (E5 x v).S:=wm.sr;have hh1:h∈lv (E5 x v).S:=by rw[l1];exact hh
 have hle:=H4 hx.sh.sr hh;have hof:(ob (E5 x v).S h).Fields=(ob x.S h).Fields:=by
  obtain⟨n,e⟩:=wm.ob h (by omega);show (ob (ue x v Y9).S h).Fields=_;rw[e]
 have ho:Ap (E5 x v).S (rp (ob (E5 x v).S h) ((ob x.S h).Fields.set k v)):=by
  have:=K0 hR1 hh1;refine⟨this.s1,this.s2,this.st,this.wk,this.p1,this.p2,?_⟩;have h4:=this.fl;rw[hof] at h4;simpa using h4
 have hob:∀j,j∈lv x.S->ob (cT (E5 x v).S h (rp (ob (E5 x v).S h) ((ob x.S h).Fields.set k v))) j=if j=h then rp (ob (E5 x v).S h) ((ob x.S h).Fields.set k v) else ob (E5 x v).S j:=λj hj=>by
  have:=H4 hx.sh.sr hj;exact gk (o:=rp (ob (E5 x v).S h) ((ob x.S h).Fields.set k v)) hR1 hh1 rfl ho (by omega)
 refine rQ hx (λa b=>⟨?_,?_⟩) (iE (o:=rp (ob (E5 x v).S h) ((ob x.S h).Fields.set k v)) hR1 hh1 rfl ho) (λj hj=>?_) (λj hj=>?_)
 .refine a.of (bP (o:=rp (ob (E5 x v).S h) ((ob x.S h).Fields.set k v)) hR1 hh1 rfl ho) (iE (o:=rp (ob (E5 x v).S h) ((ob x.S h).Fields.set k v)) hR1 hh1 rfl ho) (λj i q=>(Di (o:=rp (ob (E5 x v).S h) ((ob x.S h).Fields.set k v)) hR1 hh1 rfl ho).2 q) (λj hj q=>?_) (λj hj u hu=>?_)
  .rw[hob j (l1▸hj)];split;·rename_i e;subst e;exact q
   .exact q
  .rw[hob j (l1▸hj)] at hu;split at hu
   .rename_i e;subst e;rcases zas hu with q | q
    .exact a.fl j hj u (by rw[hof];exact q)
    .rw[l1,q];exact hv
   .exact a.fl j hj u hu
 .intro i hi ht;dsimp only at hi ht |-;have hp:=o0 hR1 hh1;unfold cT at hi;rw[J3] at hi;have hce:=yP (o:=rp (ob (E5 x v).S h) ((ob x.S h).Fields.set k v)) hR1 hh1 rfl ho i;rw[hce] at ht |-;split at ht
  .rename_i e;subst e;rw[zb rfl];have:=b _ hp.1 (.inl hp.2.1);dsimp only;refine⟨?_,λq=>absurd q (by rw[hp.2.1];decide)⟩;rw[<-this.1,F4 hR1 hp]
  .rename_i e;rw[za e];exact b i hi ht
 .rw[hob j hj];split;·rename_i e;subst e;rfl
  .rfl
 .have hi:=Il (o:=rp (ob (E5 x v).S h) ((ob x.S h).Fields.set k v)) hR1 hh1 rfl ho j;have hi2:=wm.jZ hx.sh.sr j;have hi2:jZ (E5 x v).S j=jZ x.S j:=hi2;rw[hi2,hof] at hi;dsimp only at hi;have:=xk hk v j;have hrest:E5 x v=wS x (E5 x v).S:=po x v;unfold lM oc;dsimp only;rw[show (E5 x v).T=x.T by rw[hrest],show (E5 x v).Roots=x.Roots by rw[hrest],show (E5 x v).Q=x.Q by rw[hrest]];omega
theorem NH{t:Tb}(hT:HR t){k v:Int}{r:Tb × Int × Int}(h:U4 t k v=some r)(h0:r.2.2=0):HR r.1/\(∀y,own r.1 y+R7 [r.2.1] y=own t y+R7 [v] y)/\∀k' v',Has r.1 k' v'->Has t k' v'\/(k'=k/\v'=v/\v≠0):=by
 obtain⟨r',e1,e2,_,e3⟩:=dL hT k v;rw[h] at e1;cases e1;refine⟨e2,?_⟩;have hos:∀(i:Nat) (p:e6) (y:Int),i<t.length->own (t.set i p) y+(if (pt t i).State=1/\(pt t i).Val=y/\y≠0 then 1 else 0)=own t y+if p.State=1/\p.Val=y/\y≠0 then 1 else 0:=λi p y hi=>by
  have key:∀q:e6,(if ((q.State==1)&&((y != 0)&&(q.Val==y)))=true then 1 else 0:Nat)=if q.State=1/\q.Val=y/\y≠0 then 1 else 0:=λq=>by
   by_cases c:q.State=1/\q.Val=y/\y≠0
   .rw[zb c,zb (by simp[c.1,c.2.1,c.2.2])]
   .rw[za c,za (by simp only[zy,pu,bne_iff_ne,ne_eq];exact λq=>c ⟨q.1,q.2.2,q.2.1⟩)]
  have:=IS hi p y;rw[key,key] at this;exact this
 rcases e3 with ⟨_,rfl⟩ | ⟨hk,hv,⟨i,hi,rfl⟩ | ⟨hn,rfl⟩⟩ | ⟨hk,hv,⟨i,hi,rfl⟩ | ⟨d,hn,hd,hf,hp,rfl⟩ | ⟨hn,ha,rfl⟩⟩;·simp at h0
 .refine⟨λy=>?_,λk' v' q=>.inl ((sy hT hi k' v').1 q).2⟩;have:=hos i ⟨2,0,0⟩ y hi.1;rw[H8,H8,I1];subst hv;dsimp only at this |-;rw[za (show ¬((2:Int)=1/\(0:Int)=y/\y≠0) by omega)] at this;rw[za (show ¬((0:Int)=y/\y≠0) by omega)];simp only[hi.2.1,true_and] at this;omega
 .refine⟨λy=>?_,λk' v' q=>.inl q⟩;rw[hv]
 .refine⟨λy=>?_,λk' v' q=>?_⟩
  .have:=hos i ⟨1,k,v⟩ y hi.1;rw[H8,H8,I1];simp only[hi.2.1,true_and] at this;dsimp only;omega
  .rcases (xc hT (.old i hi) rfl k' v').1 q with ⟨a,b⟩ | ⟨_,b⟩;·exact .inr ⟨a,b,hv⟩
   .exact .inl b
 .refine⟨λy=>?_,λk' v' q=>?_⟩
  .have:=hos d ⟨1,k,v⟩ y hd;rw[H8,H8,I1];dsimp only;rw[za (show ¬((0:Int)=y/\y≠0) by omega)];simp only[hf,false_and,true_and,qr] at this;omega
  .rcases (xc hT hp rfl k' v').1 q with ⟨a,b⟩ | ⟨_,b⟩;·exact .inr ⟨a,b,hv⟩
   .exact .inl b
 .simp at h0
noncomputable def iJ(x:Hp)(v:Int)(t:Tb)(old:Int):Hp:=aA (wT (E5 x v) t) old
theorem EI{x:Hp}(hx:J8 x){k v:Int}(hk:k∈lv x.S)(hv:v=0\/v∈lv x.S){r:Tb × Int × Int}(h:U4 x.T k v=some r)(h0:r.2.2=0):J8 (iJ x v r.1 r.2.1):=by
 have wm:=H6 hx.sh.sr v (f:=Y9) λc=>E4;have l1:lv (E5 x v).S=lv x.S:=wm.lv;obtain⟨p1,p2,p3⟩:=NH hx.sh.hr h h0;refine rQ hx (λa b=>⟨a.table p1 λk' v' q=>?_,b⟩) rfl (λ_ _=>rfl) (λj hj=>?_)
 .rw[l1];rcases p3 k' v' q with q | ⟨rfl,rfl,hne⟩
  .exact hx.sh.pr k' v' q
  .exact⟨hk,hv.resolve_left hne⟩
 .have hi2:jZ (E5 x v).S j=jZ x.S j:=wm.jZ hx.sh.sr j;have hrest:E5 x v=wS x (E5 x v).S:=po x v;unfold lM oc;dsimp only;rw[show (E5 x v).Roots=x.Roots by rw[hrest],show (E5 x v).Q=x.Q by rw[hrest],hi2];have:=p2 j;omega
instance(s:b6)(h:Int)(i:Nat):Decidable (T8 s h i):=by unfold T8;infer_instance
abbrev Xu(o:n7)(n:Int):n7:=⟨o.Serial,o.Strong,n,o.Prog,o.Started,o.Fields⟩
def lH(s:b6)(i:Nat)(d:Int):b6:=fO s i (Xu (ce s i).Val ((ce s i).Val.Weak+d))
def DB(s:b6)(i:Nat):b6:=H5 s i (if (ce s i).Gen=s.S.Last then ⟨3,(ce s i).Gen,z0⟩ else ⟨0,(ce s i).Gen+1,z0⟩)
def bX(s:b6)(i:Nat):Int:=1+(i:Int)+32*(ce s i).Gen
theorem wN{s:b6}{i:Nat}(hi:i<s.S.b7.length)(ht:Th (ce s i)):T8 s (bX s i) i:=⟨hi,ht,rfl⟩
theorem sW{s:b6}(hR:SR s){i:Nat}(hi:i<s.S.b7.length):1<=bX s i:=by
 have:=hR.cell i hi;unfold bX;omega
section
variable{s:b6}(hR:SR s){i:Nat}(hi:i<s.S.b7.length)(ht:Th (ce s i))
include hR hi ht
theorem uX{d:Int}(hd:0<=(ce s i).Val.Weak+d):SR (lH s i d):=by
 have:=hR.ok i hi ht;exact hR.put hi ht rfl ⟨this.s1,this.s2,this.st,hd,this.p1,this.p2,this.fl⟩
theorem eW(d:Int)(j:Nat):ce (lH s i d) j=if j=i then ⟨(ce s i).State,(ce s i).Gen,Xu (ce s i).Val ((ce s i).Val.Weak+d)⟩ else ce s j:=mH hi _ j
theorem mZ{d:Int}(hd:0<=(ce s i).Val.Weak+d):Kn s (lH s i d):=by
 have hS:=uX hR hi ht hd;refine⟨hS,J3 ..,MQ hR hi rfl hS,λk j=>wO hi _,λk hk=>?_⟩;have q:=o0 hR hk;rw[F4 hS ((xx hi _).2 q),F4 hR q,eW hR hi ht];split
 .rename_i e;rw[e];exact⟨_,_,rfl⟩
 .exact⟨_,_,rfl⟩
theorem na{d:Int}(hd:0<=(ce s i).Val.Weak+d){k:Int}(hk:k∈lv s):(ob (lH s i d) k).Strong=(ob s k).Strong:=by
 have hS:=uX hR hi ht hd;have q:=o0 hR hk;rw[F4 hS ((xx hi _).2 q),F4 hR q,eW hR hi ht];split
 .rename_i e;rw[e]
 .rfl
omit ht in
theorem Cr:SR (DB s i):=by
 have hc:=hR.cell i hi;have no:Jx (oo z0):=⟨rfl,rfl,rfl,rfl,rfl,rfl⟩;unfold DB;split;·exact hR.H5 hi ⟨by simp,by simp,hc.2.2.1,hc.2.2.2⟩ (λ_=>no) (λq=>absurd q (by unfold Th;simp))
 .refine hR.H5 hi ⟨by simp,by simp,?_,?_⟩ (λ_=>no) (λq=>absurd q (by unfold Th;simp));·show 0<=(ce s i).Gen+1;omega
  .show (ce s i).Gen+1<=s.S.Last;omega
omit hR ht in
theorem Co:∃c,(c.State=0\/c.State=3)/\DB s i=H5 s i c/\∀j,ce (DB s i) j=if j=i then c else ce s j:=by
 unfold DB;split;·exact⟨_,.inr rfl,rfl,λj=>K6 hi _ j⟩
 .exact⟨_,.inl rfl,rfl,λj=>K6 hi _ j⟩
omit ht in
theorem Cp (h2:(ce s i).State=2):lv (DB s i)=lv s:=by
 obtain⟨c,c1,c2,_⟩:=Co (s:=s) hi;have hS:=Cr hR hi;rw[c2] at hS |-;rw[Ix hR hi (by omega) hS,zbl];intro h hh;rw[zG];intro e;have:=(o0 hR hh).2.1;rw[e] at this;omega
omit ht in
theorem Cq (h2:(ce s i).State=2) {k:Int} (hk:k∈lv s):ob (DB s i) k=ob s k:=by
 obtain⟨c,c1,c2,_⟩:=Co (s:=s) hi;have hS:=Cr hR hi;rw[c2] at hS |-;refine IK hR hi hS hk λe=>?_;have:=(o0 hR hk).2.1;rw[e] at this;omega
omit ht in
theorem TD {k:Int} {j:Nat}:T8 (DB s i) k j↔T8 s k j/\j≠i:=by
 obtain⟨c,c1,c2,c3⟩:=Co (s:=s) hi;by_cases e:j=i
 .subst e;constructor
  .rintro⟨_,h,_⟩;rw[c3,zb rfl] at h;unfold Th at h;omega
  .rintro⟨_,h⟩;exact absurd rfl h
 .rw[c2,DM hi c e];simp[e]
theorem Qf(h2:(ce s i).State=2)(y:Int):jZ (DB s i) y=jZ s y:=by
 unfold jZ;rw[Cp hR hi h2];congr 1;refine zt λx hx=>?_;unfold outs;rw[Cq hR hi h2 hx]
end
def iv(x:Hp)(h:Int)(d:Int):Hp:=if T8 x.S h (D5 h) then wS x (lH x.S (D5 h) d) else x
def pG(x:Hp)(h:Int):Hp:=
 if T8 x.S h (D5 h) then
  (if (ce x.S (D5 h)).State=2/\(ce x.S (D5 h)).Val.Weak=1 then wS x (DB (lH x.S (D5 h) (-1)) (D5 h)) else wS x (lH x.S (D5 h) (-1)))
 else x
abbrev fG(h call:Int):k7:=⟨h,h != 0,call⟩
def md(x:Hp)(w:Nat):Int:=(x.b7.getD w ⟨0,false,0⟩).Target
def cH(x:Hp)(w:Nat)(h call:Int):Hp:=pG (iv (wC x (x.b7.set w (fG h call))) h 1) (md x w)
theorem IF{l:List k7}{w:Nat}(hw:w<l.length)(c:k7){k:Int}(hk:k≠0):jg (l.set w c) k+(if l[w].Target=k then 1 else 0)=jg l k+if c.Target=k then 1 else 0:=by
 unfold jg;rw[List.countP_set hw];have e:∀d:k7,(((k != 0)&&(d.Target==k))=true)=(d.Target=k):=λd=>by simp[hk]
 simp only[e];have:(if l[w].Target=k then 1 else 0)<=l.countP λc=>(k != 0)&&(c.Target==k):=by
  split
  .rename_i q;exact zbx.2 ⟨l[w],zh hw,by simp[q,hk]⟩
  .exact zV _
 omega
theorem tK{l:List k7}{i:Nat}(hi:i<l.length)(h0:l[i].Target≠0):0<jg l l[i].Target:=zbx.2 ⟨l[i],zh hi,by simp[h0]⟩
theorem vU{x:Hp}(hx:J8 x){w:Nat}(hw:w<6){h call:Int}(hh:h=0\/h∈lv x.S)(hc : -1<=call/\call<=5)(hq:vZ x.Q w=false):J8 (cH x w h call):=by
 have hR:=hx.sh.sr;have hwl:w<x.b7.length:=by rw[hx.sh.c6];exact hw
 have htg:md x w=x.b7[w].Target:=by
  unfold md;rw[zd,zc hwl];rfl
 have s1:kc (wC x (x.b7.set w (fG h call))):=by
  have:=hx.sh;refine⟨this.sr,this.hr,this.r6,by simpa using this.c6,this.cap,this.q30,this.tk,this.td,this.rt,this.fl,this.pr,λi hi=>?_⟩;dsimp only at hi |-;rw[zcq];rw[zap] at hi;split
  .rename_i e;subst e;dsimp only;refine⟨hc.1,hc.2,λq=>by simp[q],λq=>?_,λq=>?_⟩;·exact⟨_,(o0 hR (hh.resolve_left q)).d⟩
   .have q:h≠0:=by simpa using q
    exact⟨hh.resolve_left q,hq⟩
  .exact this.cl i hi
 have k2:∃s2,iv (wC x (x.b7.set w (fG h call))) h 1=wS (wC x (x.b7.set w (fG h call))) s2/\Kn x.S s2/\(∀k∈lv x.S,(ob s2 k).Strong=(ob x.S k).Strong) /\
   ∀i,i<x.S.S.b7.length->(ce s2 i).State=(ce x.S i).State/\(ce s2 i).Gen=(ce x.S i).Gen/\(ce s2 i).Val.Fields=(ce x.S i).Val.Fields/\(ce s2 i).Val.Strong=(ce x.S i).Val.Strong/\(Th (ce x.S i)->(ce s2 i).Val.Weak=(ce x.S i).Val.Weak+if h=bX x.S i then 1 else 0):=by
  unfold iv;rcases hh with h0 | hh
  .have hno:¬T8 x.S h (D5 h):=λq=>by have:=q.KK hR;omega
   rw[za hno];refine⟨x.S,rfl,(vB.refl hR).kn hR,λ_ _=>rfl,λi hi=>⟨rfl,rfl,rfl,rfl,λht=>?_⟩⟩;have:=sW hR hi;rw[za (by omega)];omega
  .have hp:=o0 hR hh;have hwk:=(hR.ok _ hp.1 (.inl hp.2.1)).wk;rw[zb hp.d];refine⟨_,rfl,mZ hR hp.1 (.inl hp.2.1) (by omega),λk hk=>na hR hp.1 (.inl hp.2.1) (by omega) hk,λi hi=>?_⟩;rw[eW hR hp.1 (.inl hp.2.1)];split
   .rename_i e;subst e;refine⟨rfl,rfl,rfl,rfl,λ_=>?_⟩;rw[zb (show h=bX x.S (D5 h) from hp.2.2)]
   .rename_i e;refine⟨rfl,rfl,rfl,rfl,λht=>?_⟩;rw[za];·omega
    .intro q;exact e (T8.one hR (q▸wN hi ht) hp.d)
 obtain⟨s2,e2,kn2,st2,ce2⟩:=k2;have hR2:=kn2.sr;have len2:=kn2.len;have hS2:kc (wS (wC x (x.b7.set w (fG h call))) s2):=s1.kn kn2;have hdl2:∀i,i<x.S.S.b7.length->bX s2 i=bX x.S i:=λi hi=>by unfold bX;rw[(ce2 i hi).2.1]
 have th2:∀i,i<x.S.S.b7.length->(Th (ce s2 i)↔Th (ce x.S i)):=λi hi=>by unfold Th;rw[(ce2 i hi).1]
 have wk2:∀i,i<x.S.S.b7.length->Th (ce x.S i)->(ce s2 i).Val.Weak=(jg (x.b7.set w (fG h call)) (bX x.S i):Int)+if md x w=bX x.S i then 1 else 0:=λi hi ht=>by
  have h0:bX x.S i≠0:=by have:=sW hR hi;omega
  have:=IF hwl (fG h call) h0;rw[(ce2 i hi).2.2.2.2 ht,(hx.wk i hi ht).1,htg];dsimp only at this;unfold bX at this |-;by_cases a:h=1+(i:Int)+32*(ce x.S i).Gen <;> by_cases b:x.b7[w].Target=1+(i:Int)+32*(ce x.S i).Gen
  .rw[zb a,zb b] at *;omega
  .rw[zb a,za b] at *;omega
  .rw[za a,zb b] at *;omega
  .rw[za a,za b] at *;omega
 have dd2:∀i,i<x.S.S.b7.length->(ce s2 i).State=2->(ce s2 i).Val.Fields = []/\(ce s2 i).Val.Strong=0:=λi hi q=>by
  obtain⟨a,_,b,c,_⟩:=ce2 i hi;rw[a] at q;rw[b,c];exact ((hx.wk i hi (.inr q)).2 q).2
 have nms2:∀k,lM (wS (wC x (x.b7.set w (fG h call))) s2) k=lM x k:=λk=>by
  unfold lM oc;dsimp only;rw[kn2.jZ]
 have fair2:aE (wS (wC x (x.b7.set w (fG h call))) s2) []:=hx.fair.mv kn2.lv st2 λk _=>by rw[nms2]
 unfold cH;rw[e2];unfold pG;dsimp only;by_cases hold:md x w=0
 .have hno:¬T8 s2 (md x w) (D5 (md x w)):=λq=>by have:=q.KK hR2;omega
  rw[za hno];refine⟨hS2,λi hi ht=>?_,fair2⟩;dsimp only at hi ht |-;rw[len2] at hi;have ht':=(th2 i hi).1 ht;have h0:=sW hR hi;have hw2:=wk2 i hi ht';rw[za (by omega)] at hw2;rw[show (1+(i:Int)+32*(ce s2 i).Gen)=bX x.S i from hdl2 i hi];refine⟨by omega,λq=>⟨?_,dd2 i hi q⟩⟩;have q':(ce x.S i).State=2:=by rw[<-(ce2 i hi).1];exact q
  have:=((hx.wk i hi ht').2 q').1;rw[(ce2 i hi).2.2.2.2 ht'];split <;> omega
 .obtain⟨p,hp⟩:∃p,T8 x.S (md x w) p:=by
   rw[htg] at hold |-;exact (hx.sh.cl w hwl).2.2.2.1 hold
  have hpp:=hp.D5 hR;have hp2:T8 s2 (md x w) p:=(kn2.ad _ _).2 hp;have hth:md x w=bX x.S p:=hp.2.2;rw[hpp,zb hp2];have hpl2:=hp2.1;have hw2:=wk2 p hp.1 hp.2.1;rw[zb hth] at hw2;have hd:0<=(ce s2 p).Val.Weak+(-1):=by omega
  have kn3:=mZ hR2 hpl2 hp2.2.1 hd;have hR3:=kn3.sr;have ce3:=eW hR2 hpl2 hp2.2.1 (-1);have hS3:kc (wS (wC x (x.b7.set w (fG h call))) (lH s2 p (-1))):=hS2.kn kn3;have fair3:aE (wS (wC x (x.b7.set w (fG h call))) (lH s2 p (-1))) []:=fair2.mv kn3.lv (λk hk=>na hR2 hpl2 hp2.2.1 hd hk) λk _=>by
   unfold lM oc;dsimp only;rw[kn3.jZ]
  have wk3:∀i,i<x.S.S.b7.length->Th (ce x.S i)->(ce (lH s2 p (-1)) i).Val.Weak=(jg (x.b7.set w (fG h call)) (bX x.S i):Int):=λi hi ht=>by
   rw[ce3];by_cases e:i=p
   .subst e;rw[zb rfl];dsimp only;omega
   .rw[za e,wk2 i hi ht,za];·omega
    .intro q;exact e (T8.one hR (q▸wN hi ht) hp)
  have cs3:∀i,(ce (lH s2 p (-1)) i).State=(ce s2 i).State/\(ce (lH s2 p (-1)) i).Gen=(ce s2 i).Gen/\(ce (lH s2 p (-1)) i).Val.Fields=(ce s2 i).Val.Fields/\(ce (lH s2 p (-1)) i).Val.Strong=(ce s2 i).Val.Strong:=λi=>by
   rw[ce3];split
   .rename_i e;subst e;exact⟨rfl,rfl,rfl,rfl⟩
   .exact⟨rfl,rfl,rfl,rfl⟩
  by_cases hg:(ce s2 p).State=2/\(ce s2 p).Val.Weak=1
  .-- the slot is given back
   rw[zb hg];have hpl3:p<(lH s2 p (-1)).S.b7.length:=by rw[kn3.len];exact hpl2
   have h23:(ce (lH s2 p (-1)) p).State=2:=by rw[(cs3 p).1];exact hg.1
   have hn0:jg (x.b7.set w (fG h call)) (md x w)=0:=by rw[hth];omega
   have hlv:=Cp hR3 hpl3 h23;have hob:=λk hk=>Cq (k:=k) hR3 hpl3 h23 hk;obtain⟨c,c1,c2,c3⟩:=Co (s:=lH s2 p (-1)) hpl3;refine⟨⟨Cr hR3 hpl3,hS3.hr,hS3.r6,hS3.c6,hS3.cap,hS3.q30,λt htt=>?_,hS3.td,λv hv=>?_,λv hv u hu=>?_,λk v hkv=>?_,λi hi=>?_⟩,λi hi ht=>?_,?_⟩
   .obtain⟨a,b,d⟩:=hS3.tk t htt;refine⟨a,b,?_⟩;dsimp only at d |-;rw[hlv];rcases d with ⟨d1,d2,d3⟩ | d;·exact .inl ⟨d1,d2,by rw[hob _ d2];exact d3⟩
    .exact .inr d
   .dsimp only;rw[hlv];exact hS3.rt v hv
   .dsimp only at hv hu |-;rw[hlv] at hv |-;rw[hob _ hv] at hu;exact hS3.fl v hv u hu
   .dsimp only;rw[hlv];exact hS3.pr k v hkv
   .obtain⟨a1,a2,a3,a4,a5⟩:=hS3.cl i hi;refine⟨a1,a2,a3,λq=>?_,λq=>?_⟩
    .obtain⟨j,hj⟩:=a4 q;refine⟨j,(TD hR3 hpl3).2 ⟨hj,λe=>?_⟩⟩;subst e;have e1:=(kn2.ad _ _).1 ((kn3.ad _ _).1 hj);have e2:(x.b7.set w (fG h call))[i].Target=md x w:=e1.2.2.trans hp.2.2.symm;have:=tK hi q;dsimp only at this;rw[e2] at this;omega
    .dsimp only;rw[hlv];exact a5 q
   .dsimp only at hi ht |-;rw[show (DB (lH s2 p (-1)) p).S.b7.length=x.S.S.b7.length by rw[c2,V6,kn3.len,len2]] at hi;rw[c3] at ht |-;split at ht;·unfold Th at ht;omega
    .rename_i e;rw[za e];have ht':Th (ce x.S i):=(th2 i hi).1 (by unfold Th at ht |-;rw[(cs3 i).1] at ht;exact ht);have:=wk3 i hi ht';rw[show (1+(i:Int)+32*(ce (lH s2 p (-1)) i).Gen)=bX x.S i by rw[(cs3 i).2.1];exact hdl2 i hi];refine⟨this,λq=>?_⟩;rw[(cs3 i).1] at q;rw[(cs3 i).2.2.1,(cs3 i).2.2.2,ce3,za e];refine⟨?_,dd2 i hi q⟩;have q':(ce x.S i).State=2:=by rw[<-(ce2 i hi).1];exact q
     have:=((hx.wk i hi ht').2 q').1;rw[(ce2 i hi).2.2.2.2 ht'];split <;> omega
   .refine fair3.mv hlv (λk hk=>by rw[hob k hk]) λk _=>?_;unfold lM oc;dsimp only;rw[Qf hR3 hpl3 (.inr h23) h23]
  .rw[za hg];refine⟨hS3,λi hi ht=>?_,fair3⟩;dsimp only at hi ht |-;rw[kn3.len,len2] at hi;have ht':Th (ce x.S i):=(th2 i hi).1 (by unfold Th at ht |-;rw[(cs3 i).1] at ht;exact ht);have:=wk3 i hi ht';rw[show (1+(i:Int)+32*(ce (lH s2 p (-1)) i).Gen)=bX x.S i by rw[(cs3 i).2.1];exact hdl2 i hi];refine⟨this,λq=>?_⟩;rw[(cs3 i).1] at q;rw[(cs3 i).2.2.1,(cs3 i).2.2.2];refine⟨?_,dd2 i hi q⟩;rw[ce3];split
   .rename_i e;subst e;dsimp only;have:(ce s2 i).Val.Weak≠1:=λq2=>hg ⟨q,q2⟩;omega
   .have q':(ce x.S i).State=2:=by rw[<-(ce2 i hi).1];exact q
    have:=((hx.wk i hi ht').2 q').1;rw[(ce2 i hi).2.2.2.2 ht'];split <;> omega
def Yx(c:k7):gZ:=⟨c.Target,c.Intact,c.Call⟩
def hO(x:Hp):lV:=⟨sO x.S,x.Roots,x.b7.map Yx,x.T.map eN,Yv x.Q⟩
structure HB (x:Hp):Prop where
 sb:SB x.S
 fb:FB x.S
 rb:LB x.Roots
 cb:∀c∈x.b7,c.Target<=9223372036854775807
 tb:TB x.T
 qb:∀t∈x.Q.L,t.At<=9223372036854775807
theorem VN{R:Type}{f:Int->Option (Int ⊕ (Bool ⊕ Unit))}{κ:Bool ⊕ Unit->Option R}{Q:R->Prop}(n:Nat)(p:Nat->Prop)(hn:n<4611686018427387904)
  (hs:∀k:Nat,k<n->∃z,f (k:Int)=some z/\((p k/\z = .inl ((k+1:Nat):Int))\/(¬p k/\z = .inr (.inl false))))(he:f (n:Int)=some (.inr (.inr ())))
  (h1:(∀k,k<n->p k)->∃r,κ (.inr ())=some r/\Q r)(h0:(¬∀k,k<n->p k)->∃r,κ (.inl false)=some r/\Q r):∃r,(lp f 0).bind κ=some r/\Q r:=by
 obtain⟨e,e1,e2⟩:=Br (f:=f) n (λk=>∀j,j<k->p j) (λe=>(e = .inr ()/\∀k,k<n->p k)\/(e = .inl false/\¬∀k,k<n->p k)) hn (λj hj=>by omega) (λk hk hP=>by
  obtain⟨z,z1,z2⟩:=hs k hk;rcases z2 with ⟨a,rfl⟩ | ⟨a,rfl⟩
  .refine .inl ⟨z1,λj hj=>?_⟩;rcases zF j k with q | q
   .exact hP j q
   .have:j=k:=by omega
    subst this;exact a
  .exact .inr ⟨_,z1,.inr ⟨rfl,λq=>a (q k hk)⟩⟩) (λhP=>⟨_,he,.inl ⟨rfl,hP⟩⟩)
 rw[e1];rcases e2 with ⟨rfl,h⟩ | ⟨rfl,h⟩;·exact h1 h
 .exact h0 h
section
variable{x:Hp}(hR:SR x.S)
include hR
theorem MI{h:Int}(hh:h<=9223372036854775807):kq x h=some (decide (h∈lv x.S)):=by
 unfold kq;obtain⟨e,h1,h2⟩:=iq (A0.2 hR) hh;rw[h1,Yy];congr 1;rw[zbm,pu,zG,h2]
theorem N3{h:Int}(hh:h<=9223372036854775807):N8 x h=some (decide (h=0\/h∈lv x.S)):=by
 unfold N8;by_cases q:h=0
 .subst q;simp[C7]
 .have e:(h==0)=false:=by simpa using q
  rw[e];simp only[ul,fm,zbe];rw[MI hR hh,Yy];simp[q]
theorem TN{c:Int}(hc:c<=9223372036854775807):pP c=some (Y9 c):=by
 unfold pP jw H9 Y9;simp only[Yy];by_cases q:12<=c
 .rw[zb (by simpa using q),zb q,Yy]
 .rw[za (by simpa using q),za q,Yy];by_cases q2:c<0
  .rw[zb (show 0 > c from q2),zb q2];rfl
  .rw[za (show ¬0 > c from q2),za q2,P1 (by omega) (by omega)]
omit hR in
theorem NO {s:b6} (hR:SR s) {h:Int} (hh:h∈lv s) {n:Int} (hn:0<=n):R6 s h (AP (ob s h) n)=some (cT s h (AP (ob s h) n),0):=by
 have:=K0 hR hh;exact xf (o:=AP (ob s h) n) hR hh rfl ⟨this.s1,this.s2,hn,this.wk,this.p1,this.p2,this.fl⟩
theorem lX{h:Int}(hh:h<=9223372036854775807)(hB:∀k∈lv x.S,(ob x.S k).Strong<=9223372036854775807):bH x h=some (E5 x h):=by
 unfold bH Y7 E5 ue;obtain⟨e,h1,h2⟩:=iq (A0.2 hR) hh;rw[h1,Yy];by_cases q:h∈lv x.S
 .have e0:=h2.2 q;subst e0;rw[zb q,TN hR (hB h q)];simp only[ul,wn,Yy];have:=NO hR q (E4 (K0 hR q).st);rw[this];rfl
 .have:(e==0)=false:=by simpa using λc=>q (h2.1 c)
  rw[this,za q];rfl
omit hR in
theorem To (c:Int) (h1 : -1000000<=c):eK c=some (kR c):=by
 unfold eK uF fU H9 kR;simp only[Yy];by_cases q:12<=c
 .rw[zb (by simpa using q),zb q];rfl
 .rw[za (by simpa using q),za q];by_cases q2:c<1
  .rw[zb (by simpa using q2),zb q2];rfl
  .rw[za (by simpa using q2),za q2,P1 (by omega) (by omega)];rfl
theorem gj{h:Int}(hh:h<=9223372036854775807):E0 x h=some (aA x h):=by
 unfold E0 P7 aA ue;obtain⟨e,h1,h2⟩:=iq (A0.2 hR) hh;rw[h1,Yy];by_cases q:h∈lv x.S
 .have e0:=h2.2 q;subst e0;have ok:=K0 hR q;rw[zb q,To _ (by have:=ok.st;dsimp only;omega)];simp only[ul,wn,Yy];have:=NO hR q (P4 ok.st);rw[this];rfl
 .have:(e==0)=false:=by simpa using λc=>q (h2.1 c)
  rw[this,za q];rfl
end
theorem KX{x:Hp}(hR:SR x.S)(hB:SB x.S):∀k∈lv x.S,(ob x.S k).Strong<=9223372036854775807:=λk hk=>(BK (A0.2 hR) hB hk).2
theorem tY(x:Hp)(h:Int):(E5 x h).Roots=x.Roots/\(E5 x h).b7=x.b7/\(E5 x h).T=x.T/\(E5 x h).Q=x.Q:=by
 rw[po];exact⟨rfl,rfl,rfl,rfl⟩
theorem jN{x:Hp}(hR:SR x.S)(h:Int):SR (E5 x h).S:=(H6 hR h λc=>E4).sr
section
variable{x:Hp}(hx:J8 x)(hS:∀k∈lv x.S,(ob x.S k).Strong<=9223372036854775807)
include hx hS
theorem tt{h:Int}(hh:h=0\/h∈lv x.S):h<=9223372036854775807:=by
 rcases hh with q | q
 .omega
 .have:=H4 hx.sh.sr q;omega
theorem Jf(k:Int){h:Int}(hh:h<=9223372036854775807):bZ x k h=some (if k<0\/5<k then (x,6) else if h=0\/h∈lv x.S then (G0 x k.toNat h,0) else (x,3)):=by
 have hR:=hx.sh.sr;have r6:=hx.sh.r6;unfold bZ;by_cases hk:k<0\/5<k
 .rw[zb hk,zb (by rw[r6];simp;omega)]
 .rw[za hk,za (by rw[r6];simp;omega),N3 hR hh,Yy];by_cases hn:h=0\/h∈lv x.S
  .rw[zb hn,zC hn,za (by simp)];obtain⟨n,rfl⟩:∃n:Nat,k=n:=⟨k.toNat,by omega⟩;have hn6:n<6:=by omega
   have hnl:n<x.Roots.length:=by omega
   have old:x.Roots[n]<=9223372036854775807:=tt hx hS (hx.sh.rt _ (zh hnl));have e1:=tY x h;have hn2:n<(E5 x h).Roots.length:=by rw[e1.1];exact hnl
   rw[s7 hnl,Yy];unfold G4 R9 y5;rw[lX hR hh hS,Yy];dsimp only;rw[dj (by omega) (by rw[e1.1];omega),Yy,s7 hn2,Yy,Yy];have hrel:=gj (x:=wR (E5 x h) (x.Roots.set n h)) (jN hR h) old;rw[zP,e1.1,show E0 ⟨(E5 x h).S,x.Roots.set n h,(E5 x h).b7,(E5 x h).T,(E5 x h).Q⟩ x.Roots[n]=_ from hrel];unfold G0;rw[zd,zc hnl];rfl
  .rw[za hn,zY hn,zb (by simp)]
omit hx hS in
theorem Xw {l:List Int} {n:Nat} (hn:n<l.length):iG l n=some (l[n],0)/\CT l n=some (l[n],0):=by
 constructor
 .unfold iG gI;rw[Yy,za (by simp;omega),s7 hn,Yy]
 .unfold CT;rw[za (by simp;omega),s7 hn,Yy]
omit hx hS in
theorem HG {l:List Int} {k:Int} (hk:¬(0<=k/\k<l.length)):iG l k=some (0,5)/\CT l k=some (0,5):=by
 constructor
 .unfold iG gI;rw[Yy,zb (by simp;omega)]
 .unfold CT;rw[zb (by simp;omega)]
theorem vF(h k:Int)(hh:h<=9223372036854775807):(∃e,e≠0/\J4 x.S h k=some (0,e)/\True) \/
  (h∈lv x.S/\∃n:Nat,k=n/\∃hn:n<(ob x.S h).Fields.length,J4 x.S h k=some ((ob x.S h).Fields[n],0)/\True):=by
 have hR:=hx.sh.sr;obtain⟨e,h1,h2⟩:=iq (A0.2 hR) hh;unfold J4;rw[h1,Yy];by_cases q:h∈lv x.S
 .have:=h2.2 q;subst this;rw[za (by simp)];by_cases hk:0<=k/\k<(ob x.S h).Fields.length
  .right;obtain⟨n,rfl⟩:∃n:Nat,k=n:=⟨k.toNat,by omega⟩;have hn:n<(ob x.S h).Fields.length:=by omega
   refine⟨q,n,rfl,hn,?_,?_⟩
   .rw[(Xw hn).1];rfl
   .trivial
  .left;refine⟨5,by decide,?_,?_⟩
   .rw[(HG hk).1];rfl
   .trivial
 .left;have he:(e != 0)=true:=by simpa using λc=>q (h2.1 c)
  refine⟨e,by simpa using he,?_,?_⟩;·simp only[he,wn]
  .trivial
theorem NM{s:b6}(hR:SR s){h:Int}(hh:h∈lv s){n:Nat}(hn:n<(ob s h).Fields.length)(v:Int) :
  qh s h n v=some (cT s h (rp (ob s h) ((ob s h).Fields.set n v)),0)/\True:=by
 have ok:=K0 hR hh;have hf:=ok.fl;have hle:=H4 hR hh;have ho:Ap s (rp (ob s h) ((ob s h).Fields.set n v)):=⟨ok.s1,ok.s2,ok.st,ok.wk,ok.p1,ok.p2,by simpa using hf⟩;have h1:=xf (o:=rp (ob s h) ((ob s h).Fields.set n v)) hR hh rfl ho;constructor
 .unfold qh;rw[uT (A0.2 hR) hh,Yy,za (by simp)];unfold mh gI;dsimp only;rw[Yy,za (by simp;omega),kB (by omega) (by omega),Yy];have e:wX (List.replicate (ob s h).Fields.length (0:Int)) (ob s h).Fields=some (ob s h).Fields:=by
   unfold wX;rw[zb (by simp)];simp
  rw[e,Yy,s7 hn,Yy,Yy,za (by simp),zP];dsimp only;rw[show R6 s h ⟨(ob s h).Serial,(ob s h).Strong,(ob s h).Weak,(ob s h).Prog,(ob s h).Started,(ob s h).Fields.set n v⟩=_ from h1];rfl
 .trivial
theorem xJ(h k v:Int)(hh:h<=9223372036854775807)(hv:v<=9223372036854775807) :
  (∃e,e≠0/\au x h k v=some (x,e)/\True) \/
  (h∈lv x.S/\(v=0\/v∈lv x.S)/\∃n:Nat,k=n/\n<(ob x.S h).Fields.length/\au x h k v=some (bF x h n v,0)/\True):=by
 have hR:=hx.sh.sr;unfold au;rcases vF hx hS h k hh with ⟨e,he,f1,f2⟩ | ⟨hl,n,rfl,hn,f1,f2⟩
 .left;have he':(e != 0)=true:=by simpa using he
  refine⟨e,he,?_,?_⟩;·rw[f1,Yy,zb he']
  .trivial
 .rw[f1,Yy,za (by simp),N3 hR hv,Yy];by_cases hn2:v=0\/v∈lv x.S
  .right;refine⟨hl,hn2,n,rfl,hn,?_⟩;rw[zC hn2,za (by simp)];have wm:=H6 hR v (f:=Y9) λc=>E4;have hR1:SR (E5 x v).S:=wm.sr;have hl1:h∈lv (E5 x v).S:=by rw[show lv (E5 x v).S=lv x.S from wm.lv];exact hl
   have hof:(ob (E5 x v).S h).Fields=(ob x.S h).Fields:=by
    obtain⟨m,e⟩:=wm.ob h hh;show (ob (ue x v Y9).S h).Fields=_;rw[e]
   have hn1:n<(ob (E5 x v).S h).Fields.length:=by rw[hof];exact hn
   have old:(ob x.S h).Fields[n]<=9223372036854775807:=tt hx hS (hx.sh.fl h hl _ (zh hn));have ok:=K0 hR1 hl1;have sr2:SR (cT (E5 x v).S h (rp (ob (E5 x v).S h) ((ob (E5 x v).S h).Fields.set n v))):=bP (o:=rp (ob (E5 x v).S h) ((ob (E5 x v).S h).Fields.set n v)) hR1 hl1 rfl ⟨ok.s1,ok.s2,ok.st,ok.wk,ok.p1,ok.p2,by simpa using ok.fl⟩;obtain⟨p1,p2⟩:=NM hx hS hR1 hl1 hn1 v;have hd:(ob x.S h).Fields.getD n 0=(ob x.S h).Fields[n]:=by
    rw[zd,zc hn];rfl
   constructor
   .unfold F9 cK;rw[lX hR hv hS,Yy];dsimp only;rw[p1,Yy,Yy];have hrel:=gj (x:=wS (E5 x v) (cT (E5 x v).S h (rp (ob (E5 x v).S h) ((ob (E5 x v).S h).Fields.set n v)))) sr2 old;rw[show E0 ⟨cT (E5 x v).S h (rp (ob (E5 x v).S h) ((ob (E5 x v).S h).Fields.set n v)),(E5 x v).Roots,(E5 x v).b7,(E5 x v).T,(E5 x v).Q⟩ (ob x.S h).Fields[n]=_ from hrel];unfold bF;rw[hd,hof];rfl
   .trivial
  .left;refine⟨3,by decide,?_,?_⟩;·rw[zY hn2,zb (by simp)]
   .trivial
theorem QW(k v:Int)(hk:k<=9223372036854775807)(hv:v<=9223372036854775807) :
  (∃e,e≠0/\bY x k v=some (x,e)/\True) \/
  (k∈lv x.S/\(v=0\/v∈lv x.S)/\∃r,U4 x.T k v=some r/\r.2.2=0/\bY x k v=some (iJ x v r.1 r.2.1,0)/\True):=by
 have hR:=hx.sh.sr;unfold bY;by_cases k0:k=0
 .left;subst k0;exact⟨2,by decide,by simp,trivial⟩
 .rw[za (by simpa using k0),N3 hR hk,Yy,N3 hR hv];have hkk:(k=0\/k∈lv x.S)↔k∈lv x.S:=by simp[k0]
  by_cases hl:k∈lv x.S/\(v=0\/v∈lv x.S)
  .obtain⟨hl,hn⟩:=hl;rw[zC (hkk.2 hl),zC hn];simp only[zcc,ul,fm,Yy,Bool.or_self,zD,qr];obtain⟨r,r1,r2,r3,r5⟩:=dL hx.sh.hr k v;rw[r1,Yy];by_cases h0:r.2.2=0
   .right;refine⟨hl,hn,r,rfl,h0,?_⟩;have e1:(r.2.2 != 0)=false:=by simpa using h0
    have old:r.2.1<=9223372036854775807:=by
     rcases r5 with ⟨_,rfl⟩ | ⟨_,_,⟨i,hi,rfl⟩ | ⟨_,rfl⟩⟩ | ⟨_,_,⟨i,hi,rfl⟩ | ⟨d,_,_,_,_,rfl⟩ | ⟨_,_,rfl⟩⟩;·simp
     .exact tt hx hS (.inr (hx.sh.pr k _ ⟨i,hi,rfl⟩).2)
     .simp
     .exact tt hx hS (.inr (hx.sh.pr k _ ⟨i,hi,rfl⟩).2)
     .simp
     .simp
    constructor
    .rw[e1];simp only[zD,qr];unfold D7 aw;rw[lX hR hv hS,Yy,Yy];dsimp only;have hrel:=gj (x:=wT (E5 x v) r.1) (jN hR v) old;rw[show E0 ⟨(E5 x v).S,(E5 x v).Roots,(E5 x v).b7,r.1,(E5 x v).Q⟩ r.2.1=_ from hrel];rfl
    .trivial
   .left;have e1:(r.2.2 != 0)=true:=by simpa using h0
    refine⟨r.2.2,h0,by rw[zb e1],trivial⟩
  .left;refine⟨3,by decide,?_,?_⟩
   .by_cases hl2:k∈lv x.S
    .have:¬(v=0\/v∈lv x.S):=λq=>hl ⟨hl2,q⟩;rw[zC (hkk.2 hl2),zY this];rfl
    .rw[zY λq=>hl2 (hkk.1 q)];rfl
   .trivial
end
theorem Ih{s:b6}(hR:SR s){h:Int}{i:Nat}(q:T8 s h i):Q2 s.S h=some ((DB s i).S,0):=by
 have hi:=q.1;have hc:=hR.cell i hi;have l9:=hR.l9;unfold Q2 DB;rw[wP hR q,Yy,za (by simp),Io hi,Yy];by_cases g:(ce s i).Gen=s.S.Last
 .rw[zb (by simpa using g),zb g,ml rfl hi hR.len];rfl
 .rw[za (by simpa using g),za g,ml rfl hi hR.len,P1 (by omega) (by omega)];rfl
section
variable{x:Hp}(hR:SR x.S)
include hR
theorem Bt{h d:Int}(hh:h<=9223372036854775807)(hw:T8 x.S h (D5 h) -> -1000<=(ce x.S (D5 h)).Val.Weak+d/\(ce x.S (D5 h)).Val.Weak+d<=1000):ah x h d=some (iv x h d):=by
 unfold ah iv;by_cases q:T8 x.S h (D5 h)
 .have:=hw q;rw[zb q,wP hR q,Yy];simp only[ul,wn];rw[Io q.1,Yy,P1 (by omega) (by omega),Oi hR q,Yy];rfl
 .have hno:∀i,¬T8 x.S h i:=λi hi=>q (by rw[hi.D5 hR];exact hi);rw[za q,xw hR hh hno,Yy];have:((if h=0 then 2 else 3:Int)==0)=false:=by simpa using sC h
  simp only[this,zD,qr]
theorem Fo{h:Int}(hh:h<=9223372036854775807)(hw:T8 x.S h (D5 h)->1<=(ce x.S (D5 h)).Val.Weak/\(ce x.S (D5 h)).Val.Weak<=1000):aR x h=some (pG x h):=by
 unfold aR;rw[Bt hR hh (λq=>by have:=hw q;omega),Yy];unfold iv pG;by_cases q:T8 x.S h (D5 h)
 .have hw:=hw q;rw[zb q,zb q];have Vz:=uX hR q.1 q.2.1 (d:=-1) (by omega);have q1:T8 (lH x.S (D5 h) (-1)) h (D5 h):=(wO q.1 _).2 q;dsimp only;rw[wP Vz q1,Yy,za (by simp),Io q1.1,Yy,eW hR q.1 q.2.1,zb rfl];dsimp only;by_cases c:(ce x.S (D5 h)).State=2/\(ce x.S (D5 h)).Val.Weak=1
  .rw[zb c,zb (by simp[c.1,c.2]),Ih Vz q1,Yy];rfl
  .rw[za c,za (by simp only[zy,pu];omega)]
 .have hno:∀i,¬T8 x.S h i:=λi hi=>q (by rw[hi.D5 hR];exact hi);rw[za q,za q,xw hR hh hno,Yy];have:((if h=0 then 2 else 3:Int) != 0)=true:=by simpa using sC h
  simp only[this,wn]
end
theorem Fz{l:List k7}(hl:l.length<=1000){n:Nat}(hn:n<l.length)(h call:Int):jS l n h call=some (l.set n (fG h call),l[n].Target,0):=by
 unfold jS jT bT;simp only[Yy];rw[za (by simp;omega),kB (by omega) (by omega),Yy];have e:wX (List.replicate l.length (⟨0,false,0⟩:k7)) l=some l:=by
  unfold wX;rw[zb (by simp)];simp
 rw[e,Yy,Yy,s7 hn,Yy,Yy,zP]
theorem Ni(l:List k7)(h:Int):jg l h<=l.length:=zck
theorem Dw{x:Hp}(hx:J8 x)(k h call:Int)(hh:h<=9223372036854775807)(hc : -1<=call/\call<=5) :
  (∃e,e≠0/\R4 x k h call=some (x,e)/\True) \/
  ((h=0\/h∈lv x.S)/\∃n:Nat,k=n/\n<6/\vZ x.Q n=false/\R4 x k h call=some (cH x n h call,0)/\True):=by
 have hR:=hx.sh.sr;have c6:=hx.sh.c6;have q30:=hx.sh.q30;unfold R4;by_cases hk:k<0\/5<k
 .left;have e1:((decide (k<0))||(decide (k>=(x.b7.length:Int))))=true:=by rw[c6];simp;omega
  refine⟨7,by decide,?_,?_⟩;·rw[e1];rfl
  .trivial
 .obtain⟨n,rfl⟩:∃n:Nat,k=n:=⟨k.toNat,by omega⟩;have hn6:n<6:=by omega
  have e1:((decide ((n:Int)<0))||(decide ((n:Int)>=(x.b7.length:Int))))=false:=by rw[c6];simp;omega
  rw[e1];simp only[ul,fm,zbe];have hwq:aD x.Q n=some (vZ x.Q n):=xi (by omega);rw[hwq,Yy,N3 hR hh,Yy];by_cases hw:vZ x.Q n=true
  .left;rw[zb hw];exact⟨7,by decide,rfl,trivial⟩
  .have hw:vZ x.Q n=false:=by simpa using hw
   rw[hw,za (show ¬(false=true) by decide)];by_cases hl:h=0\/h∈lv x.S
   .right;refine⟨hl,n,rfl,hn6,hw,?_⟩;have hnl:n<x.b7.length:=by omega
    rw[zC hl,za (by simp),Fz (by omega) hnl,Yy];have htg:md x n=x.b7[n].Target:=by
     unfold md;rw[zd,zc hnl];rfl
    have wkb:∀i,i<x.S.S.b7.length->Th (ce x.S i)->0<=(ce x.S i).Val.Weak/\(ce x.S i).Val.Weak<=6:=λi hi ht=>by
     have:=(hx.wk i hi ht).1;have:=Ni x.b7 (1+(i:Int)+32*(ce x.S i).Gen);omega
    have mk1:∃s2,iv (wC x (x.b7.set n (fG h call))) h 1=wS (wC x (x.b7.set n (fG h call))) s2/\SR s2/\(∀k i,T8 s2 k i↔T8 x.S k i)/\(∀i,i<x.S.S.b7.length->Th (ce x.S i)->(ce x.S i).Val.Weak<=(ce s2 i).Val.Weak/\(ce s2 i).Val.Weak<=(ce x.S i).Val.Weak+1) /\
      (h≠0->True)/\(h=0->s2=x.S):=by
     unfold iv;by_cases h0:h=0
     .have hno:¬T8 x.S h (D5 h):=λq=>by have:=q.KK hR;omega
      rw[za hno];exact⟨x.S,rfl,hR,λ_ _=>Iff.rfl,λi _ _=>by omega,λq=>absurd h0 q,λ_=>rfl⟩
     .have hll:=hl.resolve_left h0;have hp:=o0 hR hll;have hb:=wkb _ hp.1 (.inl hp.2.1);rw[zb hp.d];have kn:=mZ hR hp.1 (.inl hp.2.1) (d:=1) (by omega);refine⟨_,rfl,kn.sr,kn.ad,λi hi ht=>?_,λ_=>trivial,λq=>absurd q h0⟩;rw[eW hR hp.1 (.inl hp.2.1)];split;·rename_i e;subst e;dsimp only;omega
      .omega
    obtain⟨s2,m1,m2,m3,m4,m5,m6⟩:=mk1;have hold:md x n<=9223372036854775807:=by
     by_cases q:md x n=0
     .omega
     .obtain⟨p,hp⟩:=(hx.sh.cl n hnl).2.2.2.1 (by rw[<-htg];exact q);have:=hp.KK hR;rw[htg];omega
    have hun:T8 s2 (md x n) (D5 (md x n))->1<=(ce s2 (D5 (md x n))).Val.Weak/\(ce s2 (D5 (md x n))).Val.Weak<=1000:=λq=>by
     have q':=(m3 _ _).1 q;have r:=q'.KK hR;have:=(hx.wk _ q'.1 q'.2.1).1;have hp:0<jg x.b7 x.b7[n].Target:=tK hnl (by rw[<-htg];omega);rw[<-htg,q'.2.2] at hp;have:=m4 _ q'.1 q'.2.1;have:=wkb _ q'.1 q'.2.1;omega
    have u1:=Fo (x:=wS (wC x (x.b7.set n (fG h call))) s2) m2 hold hun;have hwb:T8 x.S h (D5 h) -> -1000<=(ce x.S (D5 h)).Val.Weak+1/\(ce x.S (D5 h)).Val.Weak+1<=1000:=λq=>by
     have:=wkb _ q.1 q.2.1;omega
    have mm:=Bt (x:=wC x (x.b7.set n (fG h call))) (d:=1) hR hh hwb;constructor
    .dsimp only;rw[show ah ⟨x.S,x.Roots,x.b7.set n (fG h call),x.T,x.Q⟩ h 1=_ from mm,Yy,m1,<-htg,u1,Yy];unfold cH;rw[m1]
    .trivial
   .left;rw[zY hl];exact⟨3,by decide,by rw[zb (by rfl)],trivial⟩
theorem Yl{l:List Int}{n:Nat}(hn:n<l.length):iG l n=some (l[n],0):=by
 unfold iG gI;rw[Yy,za (by simp;omega),s7 hn,Yy]
section
variable{x:Hp}(hx:J8 x)(hS:∀k∈lv x.S,(ob x.S k).Strong<=9223372036854775807)
include hx hS
end
theorem Ie{α:Type}{l:List α}{i:Nat}(h:i<l.length)(d:α):l.getD i d=l[i]:=by
 rw[zd,zc h];rfl
def Ye(a b:g5):Prop:=a.Kind=b.Kind/\a.At=b.At
instance(a b:g5):Decidable (Ye a b):=by unfold Ye;infer_instance
section
variable{x:Hp}(hR:SR x.S)
include hR
omit hR in
theorem Kt (l:List k7) (hl:l.length<=1000) (h:Int):ef l h=some (jg l h:Int):=by
 unfold ef T4 gJ;simp only[jn,Yy];have key:∃e,lp (S:=Int × (List Int)) (E:=(List Int)) (λ((s17,s18):Int × (List Int))=>
   if (decide (s17<(l.length:Int))) then
     (ix l s17).bind λv26=>
     if ((h != 0)&&(v26.Target==h)) then
      (app 8 s18 [s17]).bind λv28=>
      some (.inl (u7 (s17+1),v28))
     else
     some (.inl (u7 (s17+1),s18))
   else
   some (.inr s18)) (0,[])=some e/\e.length=jg l h:=by
  refine jB l.length (λk (acc:List Int)=>acc.length=jg (l.take k) h) (λ(e:List Int)=>e.length=jg l h) (by omega) rfl (λk acc hk hP=>?_) (λacc hP=>⟨acc,by simp,by rwa [zR] at hP⟩);left;have hle:acc.length<=k:=by
   rw[hP];exact zO (Ni _ _) (by simp;omega)
  have hst:jg (l.take (k+1)) h=jg (l.take k) h+if ((h != 0)&&(l[k].Target==h))=true then 1 else 0:=by
   unfold jg;rw[zx hk,List.countP_append,List.countP_cons,List.countP_nil];omega
  simp only[wp,hk,t6,wn,s7 hk,Yy];rw[n9];by_cases c:((h != 0)&&(l[k].Target==h))=true
  .rw[zb c,K5 (by omega) (by simp;omega),Yy];exact⟨_,rfl,by rw[hst,zb c];simp[hP]⟩
  .rw[za c];exact⟨_,rfl,by rw[hst,za c];simpa using hP⟩
 obtain⟨e,e1,e2⟩:=key;rw[show lp _ _=_ from e1,Yy,Yy,e2]
omit hR in
theorem Md:RS x.S x.T (oc x)↔aE x []:=by
 constructor
 .intro h k hk hlt;have:=h k hk hlt;unfold KN inr at this;rw[zb hk] at this;rw[I1];unfold lM;omega
 .intro h k hk hlt;have:=h k hk hlt;rw[I1] at this;unfold lM at this;unfold KN inr;rw[zb hk];omega
end
section
variable{x:Hp}(hx:J8 x)(hB:HB x)
include hx hB
end
def SL(x:Hp):Prop:=∀k∈lv x.S,(ob x.S k).Strong<=9223372036854775807
theorem SB.sl{x:Hp}(hR:SR x.S)(h:SB x.S):SL x:=λk hk=>KX hR h k hk
theorem Wc{x:Hp}(hx:J8 x)(hS:SL x):HB x:=by
 have hR:=hx.sh.sr;have bd:∀v,v=0\/v∈lv x.S->v<=9223372036854775807:=λv q=>by
  rcases q with q | q
  .omega
  .have:=H4 hR q;omega
 refine⟨WS.2 λi hi=>?_,VV.2 λi hi v hv=>?_,λv hv=>bd v (hx.sh.rt v hv),λc hc=>?_,λp hp=>?_,λt ht=>?_⟩
 .by_cases t:Th (ce x.S i)
  .rcases t with t | t
   .have q:At x.S (1+(i:Int)+32*(ce x.S i).Gen) i:=⟨hi,t,rfl⟩;have:=hS _ ((gS hR).2 ⟨i,q⟩);rwa [F4 hR q] at this
   .have:=((hx.wk i hi (.inr t)).2 t).2.2;omega
  .have:=(hR.no i hi t).2.1;simp only[oo] at this;omega
 .by_cases t:Th (ce x.S i)
  .rcases t with t | t
   .have q:At x.S (1+(i:Int)+32*(ce x.S i).Gen) i:=⟨hi,t,rfl⟩;have hm:=(gS hR).2 ⟨i,q⟩;exact bd v (hx.sh.fl _ hm v (by rw[F4 hR q];exact hv))
   .rw[((hx.wk i hi (.inr t)).2 t).2.1] at hv;cases hv
  .have:=(hR.no i hi t).2.2.2.2.2;simp only[oo] at this;rw[zZ this] at hv;cases hv
 .obtain⟨i,hi,rfl⟩:=wt hc;by_cases e:x.b7[i].Target=0
  .omega
  .obtain⟨p,hp⟩:=(hx.sh.cl i hi).2.2.2.1 e;have:=hp.KK hR;omega
 .obtain⟨i,hi,rfl⟩:=wt hp;have e:pt x.T i=x.T[i]:=by
   unfold pt;rw[zd,zc hi];rfl
  by_cases s1:(pt x.T i).State=1
  .obtain⟨a,b⟩:=hx.sh.pr (pt x.T i).Key (pt x.T i).Val ⟨i,⟨hi,s1,rfl⟩,rfl⟩;rw[e] at a b;exact⟨bd _ (.inr a),bd _ (.inr b)⟩
  .obtain⟨a,b⟩:=(hx.sh.hr.st i hi).2 s1;rw[e] at a b;omega
 .obtain⟨_,_,q | q⟩:=hx.sh.tk t ht;·exact bd _ (.inr q.2.1)
  .omega
theorem Qk(c:Int):Y9 c<=12:=by unfold Y9;split <;> (try split) <;> omega
theorem PT{c:Int}(h:c<=9223372036854775807):kR c<=9223372036854775807:=by unfold kR;split <;> (try split) <;> omega
theorem SL.of{x y:Hp}(h:SL x)(hl:lv y.S=lv x.S)(hs:∀k∈lv x.S,(ob y.S k).Strong=(ob x.S k).Strong):SL y:=λk hk=>by
 rw[hl] at hk;rw[hs k hk];exact h k hk
theorem SL.st{x:Hp}(h:SL x)(hR:SR x.S)(v:Int){f:Int->Int}(hf:∀c,0<=c->0<=f c)(hb:∀c,c<=9223372036854775807->f c<=9223372036854775807):SL (ue x v f):=λk hk=>by
 rw[(H6 hR v hf).lv] at hk;rw[vu hR v hf hk];split;·exact hb _ (h k hk)
 .exact h k hk
theorem SL.E5{x:Hp}(h:SL x)(hR:SR x.S)(v:Int):SL (E5 x v):=h.st hR v (λc=>E4) λc _=>by have:=Qk c;omega
theorem SL.OL{x:Hp}(h:SL x)(hR:SR x.S)(v:Int):SL (aA x v):=h.st hR v (λc=>P4) λc hc=>PT hc
theorem NX{x:Hp}(hR:SR x.S)(v:Int):SR (aA x v).S:=(H6 hR v λc=>P4).sr
theorem pk{x:Hp}(hR:SR x.S)(h:SL x)(r:Nat)(v:Int):SL (G0 x r v):=by
 unfold G0;exact SL.OL (x:=wR (E5 x v) (x.Roots.set r v)) (h.E5 hR v) (jN hR v) _
theorem JZ{x:Hp}(hR:SR x.S)(hS:SL x){h:Int}(hh:h∈lv x.S)(k:Nat)(v:Int):SL (bF x h k v):=by
 have wm:=H6 hR v (f:=Y9) λc=>E4;have hR1:SR (E5 x v).S:=wm.sr;have hl1:h∈lv (E5 x v).S:=by rw[show lv (E5 x v).S=lv x.S from wm.lv];exact hh
 have hof:(ob (E5 x v).S h).Fields=(ob x.S h).Fields:=by
  obtain⟨m,e⟩:=wm.ob h (by have:=H4 hR hh;omega);show (ob (ue x v Y9).S h).Fields=_;rw[e]
 have ok:=K0 hR1 hl1;have ho:Ap (E5 x v).S (rp (ob (E5 x v).S h) ((ob x.S h).Fields.set k v)):=⟨ok.s1,ok.s2,ok.st,ok.wk,ok.p1,ok.p2,by have:=ok.fl;rw[hof] at this;simpa using this⟩;have sr2:=bP (o:=rp (ob (E5 x v).S h) ((ob x.S h).Fields.set k v)) hR1 hl1 rfl ho;unfold bF;refine SL.OL (x:=wS (E5 x v) (cT (E5 x v).S h (rp (ob (E5 x v).S h) ((ob x.S h).Fields.set k v)))) ?_ sr2 _;refine (hS.E5 hR v).of (iE hR1 hl1 rfl ho) λj hj=>?_;dsimp only;rw[gk (o:=rp (ob (E5 x v).S h) ((ob x.S h).Fields.set k v)) hR1 hl1 rfl ho (by have:=H4 hR1 hj;omega)];split;·rename_i e;rw[e]
 .rfl
theorem ND{x:Hp}(hR:SR x.S)(hS:SL x)(v:Int)(t:Tb)(old:Int):SL (iJ x v t old):=by
 unfold iJ;exact SL.OL (x:=wT (E5 x v) t) (hS.E5 hR v) (jN hR v) _
theorem Uf{x:Hp}(hR:SR x.S)(hS:SL x)(h:Int){d:Int}(hd:T8 x.S h (D5 h)->0<=(ce x.S (D5 h)).Val.Weak+d):SL (iv x h d):=by
 unfold iv;split
 .rename_i q;exact hS.of (mZ hR q.1 q.2.1 (hd q)).lv λk hk=>na hR q.1 q.2.1 (hd q) hk
 .exact hS
theorem Js{x:Hp}(hR:SR x.S)(hS:SL x)(h:Int)(hd:T8 x.S h (D5 h)->1<=(ce x.S (D5 h)).Val.Weak):SL (pG x h):=by
 unfold pG;split
 .rename_i q;have hd:=hd q;have kn:=mZ (d:=-1) hR q.1 q.2.1 (by omega);have s1:SL (wS x (lH x.S (D5 h) (-1))):=hS.of kn.lv λk hk=>na hR q.1 q.2.1 (by omega) hk;split
  .rename_i c;have hi1:D5 h<(lH x.S (D5 h) (-1)).S.b7.length:=by rw[kn.len];exact q.1
   have hce:ce (lH x.S (D5 h) (-1)) (D5 h)=⟨(ce x.S (D5 h)).State,(ce x.S (D5 h)).Gen,Xu (ce x.S (D5 h)).Val ((ce x.S (D5 h)).Val.Weak + -1)⟩:=by
    rw[eW hR q.1 q.2.1,zb rfl]
   have h2:(ce (lH x.S (D5 h) (-1)) (D5 h)).State=2:=by rw[hce];exact c.1
   exact s1.of (Cp kn.sr hi1 h2) λk hk=>by
    dsimp only;rw[Cq kn.sr hi1 h2 hk]
  .exact s1
 .exact hS
theorem Fu{x:Hp}(hx:J8 x)(hS:SL x){n:Nat}(hn:n<6)(h call:Int):SL (cH x n h call):=by
 have hR:=hx.sh.sr;have hnl:n<x.b7.length:=by have:=hx.sh.c6;omega
 have ok:∀k i,T8 x.S k i->0<=(ce x.S i).Val.Weak:=λk i q=>(hR.ok i q.1 q.2.1).wk;have tw:∀i,T8 x.S (md x n) i->1<=(ce x.S i).Val.Weak:=λi q=>by
  have htg:md x n=x.b7[n].Target:=by
   unfold md;rw[zd,zc hnl];rfl
  have r:=q.KK hR;have p:=tK hnl (by rw[<-htg];omega);rw[<-htg,q.2.2] at p;have:=(hx.wk i q.1 q.2.1).1;omega
 unfold cH;have s1:SL (iv (wC x (x.b7.set n (fG h call))) h 1):=Uf (x:=wC x (x.b7.set n (fG h call))) hR hS h λq=>by
  have:=ok _ _ q;dsimp only;omega
 by_cases q:T8 x.S h (D5 h)
 .have e:iv (wC x (x.b7.set n (fG h call))) h 1=wS (wC x (x.b7.set n (fG h call))) (lH x.S (D5 h) 1):=by
   unfold iv;rw[zb q]
  have hd:=ok _ _ q;have kn:=mZ (d:=1) hR q.1 q.2.1 (by omega);rw[e] at s1 |-;refine Js kn.sr s1 _ λq2=>?_;dsimp only at q2 |-;have q3:=(kn.ad _ _).1 q2;have:=tw _ q3;rw[eW hR q.1 q.2.1];split
  .rename_i e2;rw[e2] at this;show 1<=(ce x.S (D5 h)).Val.Weak+1;omega
  .exact this
 .have e:iv (wC x (x.b7.set n (fG h call))) h 1=wC x (x.b7.set n (fG h call)):=by
   unfold iv;rw[za q]
  rw[e] at s1 |-;exact Js (x:=wC x (x.b7.set n (fG h call))) hR s1 _ λq2=>tw _ q2
section
variable{x:Hp}(hx:J8 x)(hS:SL x)
include hx hS
end
def RT(x:Hp):Prop:=Sm x.S/\x.Roots.length<=20/\x.b7.length<=20/\x.T.length<=20/\x.Q.L.length<=60
instance(x:Hp):Decidable (RT x):=by unfold RT;infer_instance
def Qi:Hp:=⟨⟨⟨[],0⟩,0⟩,[],[],[],⟨[],0⟩⟩
theorem yU(x:Hp)(h:Int)(f:Int->Int):(ue x h f).Roots=x.Roots/\(ue x h f).b7=x.b7/\(ue x h f).T=x.T/\(ue x h f).Q=x.Q:=by
 unfold ue;split <;> exact⟨rfl,rfl,rfl,rfl⟩
theorem jM(x:Hp)(r:Nat)(h:Int):(G0 x r h).Roots=x.Roots.set r h/\(G0 x r h).b7=x.b7/\(G0 x r h).T=x.T/\(G0 x r h).Q=x.Q:=by
 obtain⟨a,b,c,d⟩:=yU (wR (E5 x h) (x.Roots.set r h)) (x.Roots.getD r 0) kR;obtain⟨a',b',c',d'⟩:=yU x h Y9;exact⟨a,b.trans b',c.trans c',d.trans d'⟩
section
variable{x:Hp}(hB:HB x)
include hB
end
abbrev JV(o:n7):n7:=⟨o.Serial,0,o.Weak,o.Prog,o.Started,[]⟩
def FD(s:b6)(i:Nat):c8:=
 if (ce s i).Val.Weak=0 then (if (ce s i).Gen=s.S.Last then ⟨3,(ce s i).Gen,z0⟩ else ⟨0,(ce s i).Gen+1,z0⟩) else ⟨2,(ce s i).Gen,JV (ce s i).Val⟩
def wj(s:b6)(d:Int):b6:=H5 s (D5 d) (FD s (D5 d))
def ou(s:b6)(ds:List Int):b6:=ds.foldl wj s
theorem TA(s:b6)(i:Nat):(FD s i).State≠1:=by
 unfold FD;split;·split <;> simp
 .simp
theorem GL{s:b6}(hR:SR s){a b:Int}(ha:a∈lv s)(hb:b∈lv s)(h:a≠b):D5 a≠D5 b:=λe=>by
 have h1:=o0 hR ha;have h2:=o0 hR hb;rw[e] at h1;exact h (h1.2.2.trans h2.2.2.symm)
section
variable{s:b6}(hR:SR s){d:Int}(hd:d∈lv s)
include hR hd
theorem Cn:SR (wj s d):=by
 have q:=o0 hR hd;have hc:=hR.cell _ q.1;have ho:=hR.ok _ q.1 (.inl q.2.1);have no:Jx (oo z0):=⟨rfl,rfl,rfl,rfl,rfl,rfl⟩;unfold wj FD;split
 .split;·exact hR.H5 q.1 ⟨by simp,by simp,hc.2.2.1,hc.2.2.2⟩ (λ_=>no) (λq=>absurd q (by unfold Th;simp))
  .refine hR.H5 q.1 ⟨by simp,by simp,?_,?_⟩ (λ_=>no) (λq=>absurd q (by unfold Th;simp));·show 0<=(ce s (D5 d)).Gen+1;omega
   .show (ce s (D5 d)).Gen+1<=s.S.Last;omega
 .exact hR.H5 q.1 ⟨by simp,by simp,hc.2.2.1,hc.2.2.2⟩ (λq=>absurd (.inr rfl) q) (λ_=>⟨⟨ho.s1,ho.s2,zaf _,ho.wk,ho.p1,ho.p2,zV _⟩,.inl q.2.1,rfl⟩)
theorem Mu(j:Nat):ce (wj s d) j=if j=D5 d then FD s (D5 d) else ce s j:=K6 (o0 hR hd).1 _ j
theorem Mv:lv (wj s d)=(lv s).filter λh=>decide (h≠d):=by
 have hS:=Cn hR hd;unfold wj at hS |-;have hc:=TA s (D5 d);rw[Ix hR (o0 hR hd).1 hc hS];refine pm λh hh=>zbo.2 ⟨λq e=>q (by rw[e]),λq=>GL hR hh hd q⟩
theorem Mw{k:Int}(hk:k∈lv s)(hne:k≠d):ob (wj s d) k=ob s k:=by
 have hS:=Cn hR hd;unfold wj at hS |-;exact IK hR (o0 hR hd).1 hS hk (GL hR hk hd hne)
end
structure Gn (s s':b6) (ds:List Int):Prop where
 sr:SR s'
 len:s'.S.b7.length=s.S.b7.length
 last:s'.S.Last=s.S.Last
 aW:s'.Serial=s.Serial
 lv:lv s'=(lv s).filter λh=>decide (h∉ds)
 ob:∀k∈Sh.lv s,k∉ds->ob s' k=ob s k
 ce:∀j,ce s' j=if j∈ds.map D5 then FD s j else ce s j
theorem eH:∀(ds:List Int) {s:b6} (hR:SR s),ds.Nodup->(∀d∈ds,d∈lv s)->Gn s (ou s ds) ds
 | [],s,hR,_,_=>⟨hR,rfl,rfl,rfl,(zbl.2 (λa _=>by simp)).symm,λ_ _ _=>rfl,λj=>by simp[ou]⟩
 | d::ds,s,hR,hn,hm=>by
  rw[me] at hn;have hd:=hm d (zg ..);have hlv:=Mv hR hd;have hm':∀e∈ds,e∈lv (wj s d):=λe he=>by
   rw[hlv,zi,zG];exact⟨hm e (zn _ he),λq=>hn.1 (q▸he)⟩
  have ih:=eH ds (Cn hR hd) hn.2 hm';refine⟨ih.sr,ih.len.trans (V6 ..),ih.last,ih.aW,?_,λk hk hne=>?_,λj=>?_⟩
  .show lv (ou (wj s d) ds)=_;rw[ih.lv,hlv,zan];refine pm λh hh=>?_;rw[zbm];simp only[zy,zG,zM,not_or];exact⟨λq=>⟨q.2,q.1⟩,λq=>⟨q.2,q.1⟩⟩
  .show ob (ou (wj s d) ds) k=_;rw[zM,not_or] at hne;rw[ih.ob k (by rw[hlv,zi,zG];exact⟨hk,hne.1⟩) hne.2,Mw hR hd hk hne.1]
  .show ce (ou (wj s d) ds) j=_;have hg:∀e∈ds,D5 e≠D5 d:=λe he=>GL hR (hm e (zn _ he)) hd λq=>hn.1 (q▸he);rw[ih.ce];by_cases h1:j∈ds.map D5
   .obtain⟨e,he,rfl⟩:=zq.1 h1;rw[zb h1,zb (by rw[zT];exact zn _ h1)];unfold FD;rw[Mu hR hd,za (hg e he)];rfl
   .rw[za h1,Mu hR hd,zT];by_cases h2:j=D5 d
    .subst h2;rw[zb rfl,zb (zg ..)]
    .rw[za h2,za];rw[zM];exact λq=>q.elim h2 h1
theorem BL{α:Type}(p:α->Bool)(f:α->Nat):∀l:List α,(l.map f).sum=((l.filter p).map f).sum+((l.filter λx => !p x).map f).sum
 | []=>rfl
 | x::l=>by
  rw[zT,zbc,BL p f l,or,or];cases p x <;> simp <;> omega
theorem Fi(f:Int->List Int)(y:Int):∀l:List Int,R7 (l.flatMap f) y=(l.map λx=>R7 (f x) y).sum
 | []=>I1 y
 | x::l=>by rw[zbh,F8,Fi f y l,zT,zbc]
theorem Gn.jZ{s s':b6}{ds:List Int}(hR:SR s)(hn:ds.Nodup)(hm:∀d∈ds,d∈Sh.lv s)(g:Gn s s' ds)(y:Int):jZ s' y+R7 (ds.flatMap (outs s)) y=jZ s y:=by
 unfold Sh.jZ;rw[g.lv,BL (λh=>decide (h∉ds)) (λx=>R7 (outs s x) y) (Sh.lv s),Fi];have h1:((Sh.lv s).filter λh=>decide (h∉ds)).map (λx=>R7 (outs s' x) y)=((Sh.lv s).filter λh=>decide (h∉ds)).map λx=>R7 (outs s x) y:=zt λx hx=>by
  rw[zi,zG] at hx;unfold Sh.outs;rw[g.ob x hx.1 hx.2]
 have h2:((Sh.lv s).filter λx => !decide (x∉ds)).Perm ds:=by
  rw[zb4 ((tu (A0.2 hR)).filter _) hn];intro a;rw[zi];simp only[decide_not,Bool.not_not,zG];exact⟨λq=>q.2,λq=>⟨hm a q,q⟩⟩
 rw[h1,(h2.map λx=>R7 (outs s x) y).sum_nat]
theorem EE{L:List g5}(hd:L.Pairwise λa b=>¬(a.Kind=b.Kind/\a.At=b.At))(k:Int):((L.filter (·.Kind==k)).map (·.At)).Nodup:=by
 unfold List.Nodup;rw[zbk];refine (hd.filter _).imp_of_mem λ{a b} ha hb h e=>?_;rw[zi,pu] at ha hb;exact h ⟨ha.2.trans hb.2.symm,e⟩
theorem yZ{L:List g5}{m:List Int}(hd:L.Pairwise λa b=>¬(a.Kind=b.Kind/\a.At=b.At))(h:∀t∈L,(t.Kind=1/\t.At∈m)\/(t.Kind=2/\0<=t.At/\t.At<=5)):L.length<=m.length+6:=by
 have h1:L.length=(L.filter (·.Kind==1)).length+(L.filter (·.Kind==2)).length:=by
  rw[sF (λt:g5=>t.Kind==1) L];congr 2;refine pm λt ht=>?_;rcases h t ht with q | q
  .simp[q.1]
  .simp[q.1]
 have h2:=Z3 (EE hd 1) (m:=m) λa ha=>by
  obtain⟨t,ht,rfl⟩:=zq.1 ha;rw[zi,pu] at ht;rcases h t ht.1 with q | q
  .exact q.2
  .omega
 have h3:=Z3 (EE hd 2) (m:=[0,1,2,3,4,5]) λa ha=>by
  obtain⟨t,ht,rfl⟩:=zq.1 ha;rw[zi,pu] at ht;rcases h t ht.1 with q | q
  .omega
  .simp only[zM,zcm,or_false];omega
 rw[zl] at h2 h3;simp only[zH,zag] at h3;omega
theorem gK{q:TQ}{w:Int}:vZ q w=true↔∃t∈q.L,t.Kind=2/\t.At=w:=by
 unfold vZ;rw[List.any_eq_true];simp
theorem lG{q:TQ}{h:Int}:h∈oT q↔∃t∈q.L,t.Kind=1/\t.At=h:=by
 unfold oT;rw[zq];simp only[zi,pu];exact⟨λ⟨t,⟨a,b⟩,c⟩=>⟨t,a,b,c⟩,λ⟨t,a,b,c⟩=>⟨t,⟨a,b⟩,c⟩⟩
abbrev cz:k7:=⟨0,false,0⟩
def iP(ds:List Int)(c:k7):Bool:=c.Intact&&c.Target != 0&&decide (c.Target∈ds)
def qZ(ds:List Int)(c:k7):k7:=if iP ds c then ⟨c.Target,false,c.Call⟩ else c
def ln(l:List k7)(ds:List Int):List k7:=l.map (qZ ds)
def cls(l:List k7)(ds:List Int):List Nat:=(List.range l.length).filter λw=>iP ds (l.getD w cz)&&decide (0<=(l.getD w cz).Call)
def ju(l:List k7)(ds:List Int):List g5:=(cls l ds).map λ(w:Nat)=>⟨2,(w:Int),(l.getD w cz).Call⟩
theorem oB(ds:List Int)(c:k7):(qZ ds c).Target=c.Target/\(qZ ds c).Call=c.Call/\((qZ ds c).Intact=true↔c.Intact=true/\iP ds c=false):=by
 unfold qZ;cases h:iP ds c
 .rw[za (by simp)];simp
 .rw[zb rfl];simp
theorem CG(l:List k7)(ds:List Int)(h:Int):jg (ln l ds) h=jg l h:=by
 unfold jg ln;rw[List.countP_map];congr 1;funext c
 simp only[Function.comp_apply,(oB ds c).1]
theorem gD{l:List k7}{ds:List Int}{t:g5}:t∈ju l ds↔∃w,∃hw:w<l.length,t=⟨2,(w:Int),l[w].Call⟩/\iP ds l[w]=true/\0<=l[w].Call:=by
 unfold ju cls;rw[zq];constructor
 .rintro⟨w,hw,rfl⟩;rw[zi,zaw] at hw;obtain⟨h1,h2⟩:=hw;have e:l.getD w cz=l[w]:=by rw[zd,zc h1];rfl
  rw[e] at h2 |-;rw[zy,zG] at h2;exact⟨w,h1,rfl,h2.1,h2.2⟩
 .rintro⟨w,hw,rfl,h2,h3⟩;have e:l.getD w cz=l[w]:=by rw[zd,zc hw];rfl
  refine⟨w,?_,by rw[e]⟩;rw[zi,zaw,e,zy,zG];exact⟨hw,h2,h3⟩
theorem Ba(l:List k7)(ds:List Int):(ju l ds).Pairwise λa b=>¬(a.Kind=b.Kind/\a.At=b.At):=by
 unfold ju cls;rw[zbk];refine (zb8 _ (List.nodup_range (n:=l.length))).imp λ{a b} h=>?_;rintro⟨_,e⟩;dsimp only at e;omega
def jt(x:Hp)(ds:List Int)(t:Tb):Hp:=⟨ou x.S ds,x.Roots,ln x.b7 ds,t,⟨x.Q.L++ju x.b7 ds,x.Q.Cap⟩⟩
theorem ya(q:TQ)(l:List g5)(c:Int)(h:∀t∈l,t.Kind≠1):oT ⟨q.L++l,c⟩=oT q:=by
 unfold oT;dsimp only;rw[za4];have:l.filter (λt=>t.Kind==1) = []:=by
  rw[List.filter_eq_nil_iff];intro t ht;simpa using h t ht
 rw[this,zav]
theorem JP{x:Hp}(hx:J8 x){ds:List Int}(hn:ds.Nodup)(hm:∀d∈ds,d∈lv x.S)
  (ho:∀d∈ds,d∉oc x)(hf:∀h∈lv x.S,h∉ds->∀v∈(ob x.S h).Fields,v∉ds)(hp:∀k v,Has x.T k v->k∉ds->v∉ds)
  {t:Tb}{vals:List Int}(ht:HR t)(h1:∀k v,Has t k v↔k∉ds/\Has x.T k v)(h2:∀y,own t y+R7 vals y=own x.T y) :
  kc (jt x ds t)/\Wk (jt x ds t)/\aE (jt x ds t) (ds.flatMap (outs x.S)++vals):=by
 have hS:=hx.sh;have hR:=hS.sr;have g:=eH ds hR hn hm;have hlv:∀h,h∈lv (ou x.S ds)↔h∈lv x.S/\h∉ds:=λh=>by rw[g.lv,zi,zG]
 have hlen:(lv x.S).length<=24:=M1 (A0.2 hR);have hcl:∀w (hw:w<x.b7.length),iP ds x.b7[w]=true->x.b7[w].Intact=true:=λw hw q=>by
  unfold iP at q;rw[zy,zy] at q;exact q.1.1
 have htd:(x.Q.L++ju x.b7 ds).Pairwise λa b=>¬(a.Kind=b.Kind/\a.At=b.At):=by
  rw[zar];refine⟨hS.td,Ba ..,λa ha b hb q=>?_⟩;obtain⟨w,hw,rfl,hh,_⟩:=gD.1 hb;have:=((hS.cl w hw).2.2.2.2 (hcl w hw hh)).2;rw[zbj] at this;exact this (gK.2 ⟨a,ha,q.1,q.2⟩)
 have htk:∀t∈x.Q.L++ju x.b7 ds,0<=t.Prog/\t.Prog<=5/\((t.Kind=1/\t.At∈lv (ou x.S ds)/\(ob (ou x.S ds) t.At).Started=true)\/(t.Kind=2/\0<=t.At/\t.At<=5)):=λt htt=>by
  rcases zu.1 htt with q | q
  .obtain⟨a,b,c⟩:=hS.tk t q;refine⟨a,b,?_⟩;rcases c with ⟨c1,c2,c3⟩ | c
   .have hnd:t.At∉ds:=λhd=>ho _ hd (zu.2 (.inr (lG.2 ⟨t,q,c1,rfl⟩)));exact .inl ⟨c1,(hlv _).2 ⟨c2,hnd⟩,by rw[g.ob _ c2 hnd];exact c3⟩
   .exact .inr c
  .obtain⟨w,hw,rfl,hh,hc⟩:=gD.1 q;have c6:=hS.c6;have:=(hS.cl w hw).2.1;exact⟨hc,this,.inr ⟨rfl,by dsimp only;omega,by dsimp only;omega⟩⟩
 have hq30:(x.Q.L++ju x.b7 ds).length<=30:=by
  have:=yZ (m:=lv x.S) htd λt htt=>by
   rcases (htk t htt).2.2 with q | q
   .exact .inl ⟨q.1,((hlv _).1 q.2.1).1⟩
   .exact .inr q
  omega
 have hwts:∀i:Nat,vZ x.Q i=false->(∀hi:i<x.b7.length,iP ds x.b7[i]=false)->vZ ⟨x.Q.L++ju x.b7 ds,x.Q.Cap⟩ i=false:=λi q1 q2=>by
  rw[zbj] at q1 |-;intro q;obtain⟨t,ht,a,b⟩:=gK.1 q;rcases zu.1 ht with c | c
  .exact q1 (gK.2 ⟨t,c,a,b⟩)
  .obtain⟨w,hw,rfl,hh,_⟩:=gD.1 c;dsimp only at b;have:w=i:=by omega
   subst this;rw[q2 hw] at hh;cases hh
 refine⟨⟨g.sr,ht,hS.r6,?_,hS.cap,hq30,htk,htd,λh hh=>?_,λh hh v hv=>?_,λk v hkv=>?_,λi hi=>?_⟩,λi hi hti=>?_,λh hh hlt=>?_⟩
 .unfold jt ln;rw[zl];exact hS.c6
 .rcases hS.rt h hh with q | q
  .exact .inl q
  .have h0:h≠0:=λe=>eQ hR (e▸q);exact .inr ((hlv h).2 ⟨q,λhd=>ho h hd (zu.2 (.inl (ga.2 ⟨hh,h0⟩)))⟩)
 .obtain⟨a,b⟩:=(hlv h).1 hh;have hv':v∈(ob x.S h).Fields:=by
   have e:=g.ob h a b;unfold jt at hv;rwa [e] at hv
  rcases hS.fl h a v hv' with q | q
  .exact .inl q
  .exact .inr ((hlv v).2 ⟨q,hf h a b v hv'⟩)
 .obtain⟨a,b⟩:=(h1 k v).1 hkv;obtain⟨c,d⟩:=hS.pr k v b;exact⟨(hlv k).2 ⟨c,a⟩,(hlv v).2 ⟨d,hp k v b a⟩⟩
 .have hi':i<x.b7.length:=by
   unfold jt ln at hi;simpa using hi
  have e:(jt x ds t).b7[i]=qZ ds x.b7[i]:=t8 _;obtain⟨a1,a2,a3,a4,a5⟩:=hS.cl i hi';obtain⟨b1,b2,b3⟩:=oB ds x.b7[i];rw[e,b1,b2];refine⟨a1,a2,λq=>?_,λq=>?_,λq=>?_⟩
  .rw[zbj];intro q2;rw[a3 q] at b3;exact absurd (b3.1 q2).1 (by decide)
  .obtain⟨p,hp1,hp2,hp3⟩:=a4 q;refine⟨p,by show p<(ou x.S ds).S.b7.length;rw[g.len];exact hp1,?_⟩;show Th (ce (ou x.S ds) p)/\_=1+(p:Int)+32*(ce (ou x.S ds) p).Gen;rw[g.ce];split
   .have hw:=(hx.wk p hp1 hp2).1;have:=tK hi' q;rw[hp3] at this;unfold FD;rw[za (by omega)];exact⟨.inr rfl,hp3⟩
   .exact⟨hp2,hp3⟩
  .obtain⟨c1,c2⟩:=b3.1 q;obtain⟨d1,d2⟩:=a5 c1;have h0:x.b7[i].Target≠0:=λe=>eQ hR (e▸d1);refine⟨(hlv _).2 ⟨d1,λhd=>?_⟩,hwts i d2 λ_=>c2⟩;have:iP ds x.b7[i]=true:=by
    unfold iP;simp[c1,h0,hd]
   rw[this] at c2;cases c2
 .have hi':i<x.S.S.b7.length:=by
   have:=g.len;have hi:i<(ou x.S ds).S.b7.length:=hi;omega
  show (ce (ou x.S ds) i).Val.Weak=(jg (ln x.b7 ds) (1+(i:Int)+32*(ce (ou x.S ds) i).Gen):Int)/\((ce (ou x.S ds) i).State=2->_);have hti':Th (ce (ou x.S ds) i):=hti;show _/\((ce (ou x.S ds) i).State=2->1<=(ce (ou x.S ds) i).Val.Weak/\(ce (ou x.S ds) i).Val.Fields = []/\(ce (ou x.S ds) i).Val.Strong=0);rw[CG];rw[g.ce] at hti' |-;split
  .rename_i q;rw[zb q] at hti';obtain⟨d,hd,rfl⟩:=zq.1 q;have hp:=o0 hR (hm d hd);have hw:=(hx.wk _ hi' (.inl hp.2.1)).1;unfold FD at hti' |-;split at hti'
   .exfalso;unfold Th at hti';split at hti' <;> simp at hti'
   .rename_i q2;rw[za q2];have:=(hR.ok _ hi' (.inl hp.2.1)).wk;exact⟨hw,λ_=>⟨by dsimp only;omega,rfl,rfl⟩⟩
  .rename_i q;rw[za q] at hti';exact hx.wk i hi' hti'
 .obtain⟨a,b⟩:=(hlv h).1 hh;have e:=g.ob h a b;have e':ob (jt x ds t).S h=ob x.S h:=e;rw[e'] at hlt |-;have hf:=hx.fair h a hlt;rw[I1] at hf;rw[hf];have i1:=g.jZ hR hn hm h;have i2:=h2 h;have i3:oT ⟨x.Q.L++ju x.b7 ds,x.Q.Cap⟩=oT x.Q:=ya _ _ _ λt ht=>by
   obtain⟨w,_,rfl,_⟩:=gD.1 ht;simp
  unfold lM oc jt;dsimp only;rw[i3,F8 (ds.flatMap (outs x.S)),F8];omega
theorem yG:∀(l:List Int) {x:Hp},kc x->Wk x->aE x l->J8 (l.foldl aA x)
 | [],x,h1,h2,h3=>⟨h1,h2,h3⟩
 | v::l,x,h1,h2,h3=>yG l (h1.st v λc=>P4) (h2.st h1.sr v λc=>P4) (tV h1.sr h3)
abbrev fC(o:n7):n7:=⟨o.Serial,o.Strong,o.Weak,o.Prog,true,o.Fields⟩
abbrev As(x:Hp)(h:Int):g5:=⟨1,h,(ob x.S h).Prog⟩
noncomputable def gh(x:Hp)(h:Int):Hp:=E5 ⟨cT x.S h (fC (ob x.S h)),x.Roots,x.b7,x.T,⟨x.Q.L ++ [As x h],x.Q.Cap⟩⟩ h
theorem vl{x:Hp}(hx:J8 x){h:Int}(hh:h∈lv x.S)(hp:0<=(ob x.S h).Prog)(hs:(ob x.S h).Started=false):J8 (gh x h):=by
 have hS:=hx.sh;have hR:=hS.sr;have oko:=K0 hR hh;have ho:Ap x.S (fC (ob x.S h)):=⟨oko.s1,oko.s2,oko.st,oko.wk,oko.p1,oko.p2,oko.fl⟩;have r1:=bP (o:=fC (ob x.S h)) hR hh rfl ho;have l1:=iE (o:=fC (ob x.S h)) hR hh rfl ho;have o1:∀j,j∈lv x.S->ob (cT x.S h (fC (ob x.S h))) j=if j=h then fC (ob x.S h) else ob x.S j:=λj hj=>by
  have:=H4 hR hj;exact gk (o:=fC (ob x.S h)) hR hh rfl ho (by omega)
 have hlen:(lv x.S).length<=24:=M1 (A0.2 hR);have s1:kc (wS x (cT x.S h (fC (ob x.S h)))):=hS.of r1 l1 (λk i q=>(Di (o:=fC (ob x.S h)) hR hh rfl ho).2 q) (λk hk q=>by
  rw[o1 k hk];split;·rfl
  .exact q) λk hk v hv=>by
  rw[o1 k hk] at hv;split at hv;·rename_i e;subst e;exact hS.fl k hk v hv
  .exact hS.fl k hk v hv
 have w1:Wk (wS x (cT x.S h (fC (ob x.S h)))):=λi hi ht=>by
  have eN:=o0 hR hh;have hc:=yP (o:=fC (ob x.S h)) hR hh rfl ho i;dsimp only at hi ht |-;rw[hc] at ht |-;have hi':i<x.S.S.b7.length:=by unfold cT at hi;rwa [J3] at hi
  split at ht
  .rename_i e;subst e;rw[zb rfl];dsimp only;have:=hx.wk _ hi' (.inl eN.2.1);rw[F4 hR eN];exact⟨this.1,λq=>absurd q (by rw[eN.2.1];decide)⟩
  .rename_i e;rw[za e];exact hx.wk i hi' ht
 have htd:(x.Q.L ++ [As x h]).Pairwise λa b=>¬(a.Kind=b.Kind/\a.At=b.At):=by
  rw[zar];refine⟨hS.td,by simp,λa ha b hb q=>?_⟩;rw[zp] at hb;subst hb;dsimp only at q;rcases (hS.tk a ha).2.2 with c | c
  .rw[q.2,hs] at c;exact absurd c.2.2 (by decide)
  .omega
 have htk:∀t∈x.Q.L ++ [As x h],0<=t.Prog/\t.Prog<=5/\((t.Kind=1/\t.At∈lv (cT x.S h (fC (ob x.S h)))/\(ob (cT x.S h (fC (ob x.S h))) t.At).Started=true)\/(t.Kind=2/\0<=t.At/\t.At<=5)):=λt ht=>by
  rcases zu.1 ht with q | q
  .exact s1.tk t q
  .rw[zp] at q;subst q;refine⟨hp,oko.p2,.inl ⟨rfl,by rw[l1];exact hh,?_⟩⟩;dsimp only;rw[o1 h hh,zb rfl]
 have hq30:(x.Q.L ++ [As x h]).length<=30:=by
  have:=yZ (m:=lv x.S) htd λt ht=>by
   rcases (htk t ht).2.2 with q | q
   .exact .inl ⟨q.1,by rw[<-l1];exact q.2.1⟩
   .exact .inr q
  omega
 have s2:kc ⟨cT x.S h (fC (ob x.S h)),x.Roots,x.b7,x.T,⟨x.Q.L ++ [As x h],x.Q.Cap⟩⟩:=by
  refine⟨s1.sr,s1.hr,s1.r6,s1.c6,s1.cap,hq30,htk,htd,s1.rt,s1.fl,s1.pr,λi hi=>?_⟩;obtain⟨a,b,c,d,e⟩:=s1.cl i hi;refine⟨a,b,c,d,λq=>⟨(e q).1,?_⟩⟩;have:=(e q).2;rw[zbj] at this |-;intro q2;obtain⟨t,ht,k1,k2⟩:=gK.1 q2;rcases zu.1 ht with q3 | q3
  .exact this (gK.2 ⟨t,q3,k1,k2⟩)
  .rw[zp] at q3;subst q3;dsimp only at k1;omega
 have w2:Wk ⟨cT x.S h (fC (ob x.S h)),x.Roots,x.b7,x.T,⟨x.Q.L ++ [As x h],x.Q.Cap⟩⟩:=w1;refine⟨s2.st h λc=>E4,w2.st s2.sr h λc=>E4,λk hk hlt=>?_⟩;have hk':k∈lv x.S:=by
  have:lv (gh x h).S=lv x.S:=(H6 s2.sr h λc=>E4).lv.trans l1;rw[<-this];exact hk
 have hst:(ob (gh x h).S k).Strong=if k=h then Y9 (ob x.S k).Strong else (ob x.S k).Strong:=by
  have:=vu (x:=⟨cT x.S h (fC (ob x.S h)),x.Roots,x.b7,x.T,⟨x.Q.L ++ [As x h],x.Q.Cap⟩⟩) s2.sr h (f:=Y9) (λc=>E4) (k:=k) (by rw[<-l1] at hk';exact hk');refine zcu this ?_;dsimp only;rw[o1 k hk'];by_cases e:k=h
  .subst e;rw[zb rfl,zb rfl,zb rfl]
  .rw[za e,za e,za e]
 have hnm:lM (gh x h) k=lM x k+if k=h then 1 else 0:=by
  have:=xh (x:=⟨cT x.S h (fC (ob x.S h)),x.Roots,x.b7,x.T,⟨x.Q.L ++ [As x h],x.Q.Cap⟩⟩) s2.sr h (f:=Y9) (λc=>E4) k;refine zcu this ?_;have hi:=Il (o:=fC (ob x.S h)) hR hh rfl ho k;dsimp only at hi;have h0:k≠0:=λe=>eQ hR (e▸hk');unfold lM oc oT;dsimp only;rw[za4,zaa,F8,F8,F8];have:R7 (List.map (·.At) (List.filter (λt:g5=>t.Kind==1) [As x h])) k=if k=h then 1 else 0:=by
   show R7 [h] k=_;rw[H8,I1];by_cases e:k=h
   .rw[zb ⟨e.symm,h0⟩,zb e]
   .rw[za (λq=>e q.1.symm),za e]
  rw[this];omega
 rw[hst] at hlt |-;rw[hnm,I1];have hpos:=(K0 hR hk').st;by_cases e:k=h
 .rw[zb e] at hlt |-;rw[zb e];have:=hx.fair k hk' (by unfold Y9 at hlt;split at hlt <;> omega);rw[I1] at this;unfold Y9 at hlt |-;split at hlt;·omega
  .rename_i q;rw[za q,za (by omega)];omega
 .rw[za e] at hlt |-;rw[za e];have:=hx.fair k hk' hlt;rw[I1] at this;exact this
end Go.Sh
