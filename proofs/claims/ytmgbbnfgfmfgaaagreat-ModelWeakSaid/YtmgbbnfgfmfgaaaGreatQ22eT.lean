/- A part. -/
import Derived.Test.YtmgbbnfgfmfgaaaGreatQ22eSh
import Derived.Test.YtmgbbnfgfmfgaaaGreatQ22eSh1
set_option linter.unusedVariables false
set_option linter.unusedSimpArgs false
set_option linter.unusedSectionVars false
namespace Go.Sh
def BT(h:Int):Prop:=1<=h/\(h-1) % 32<24/\(h-1) / 32<=9
instance(h:Int):Decidable (BT h):=by unfold BT;infer_instance
theorem My{h:Int}(q:BT h):1<=h/\h<=320:=by unfold BT at q;omega
theorem oM{i g:Int}(h1:0<=i)(h2:i<24)(h3:0<=g)(h4:g<=9):dQ i g=some (1+i+32*g):=by
 unfold dQ;rw[za (by simp;omega)];rw[show w9 (i*1)=i by rw[qq];omega,show w9 (1+i)=1+i by rw[qq];omega,show w9 (g*32)=32*g by rw[qq];omega,show w9 (1+i+32*g)=1+i+32*g by rw[qq];omega]
theorem nG{h:Int}(hh:h<=9223372036854775807):eI h=some (if BT h then ((h-1) % 32,(h-1) / 32,true) else (-1,-1,false)):=by
 unfold eI;split
 .rename_i q;rw[za (by unfold BT;simp at q;omega)]
 .rename_i q;have q:1<=h:=by simpa using q
  rw[T5 (n:=h-1),Dh (by omega) (by omega),Yz,IW (by omega) (by omega) (by omega),Yz,IW (by omega) (by omega) (by omega),Yz,Int.ediv_one];split
  .rename_i q2;rw[za (by unfold BT;simp at q2;omega)]
  .rename_i q2;rw[zb (by unfold BT;simp at q2;omega)]
theorem oO{h:Int}(hh:h<=9223372036854775807):gP h=some (if BT h then (h-1) % 32 else -1):=by
 unfold gP;rw[nG hh,Yz];split <;> rfl
theorem qK{h:Int}(hh:h<=9223372036854775807):jx h=some (if BT h then (h-1) / 32 else -1):=by
 unfold jx;rw[nG hh,Yz];split <;> rfl
abbrev z0:n9:=⟨0,0,0,0,false,[]⟩
structure Ye (s:l6):Prop where
 len:s.b7.length<=24
 l0:0<=s.Last
 l9:s.Last<=9
 cell:∀i (h:i<s.b7.length),0<=s.b7[i].State/\s.b7[i].State<=3/\0<=s.b7[i].Gen/\s.b7[i].Gen<=s.Last
theorem mh{s:l6}{i:Int}{k:Nat}{c:c9}(hi:i=k)(hk:k<s.b7.length)(hl:s.b7.length<=24):E3 s i c=some ⟨s.b7.set k c,s.Last⟩:=by
 subst hi;unfold E3 y8;rw[dm (by omega) (by omega),Yz,u5 hk,Yz,zP]
theorem Dy{s:l6}(hR:Ye s)(v:n9) :
  (∃i,∃h:i<s.b7.length,s.b7[i].State=0/\(∀j (hj:j<i),s.b7[j].State≠0)/\L6 s v=some (⟨s.b7.set i ⟨1,s.b7[i].Gen,v⟩,s.Last⟩,1+i+32*s.b7[i].Gen,0)) \/
  ((∀i (h:i<s.b7.length),s.b7[i].State≠0)/\L6 s v=some (s,0,4)):=by
 have hlen:=hR.len;by_cases q:∃i,∃h:i<s.b7.length,s.b7[i].State=0
 .obtain⟨i,⟨hi,h0⟩,hmin⟩:=dz (p:=λi=>∃h:i<s.b7.length,s.b7[i].State=0) q;left;refine⟨i,hi,h0,λj hj=>λe=>by have:=hmin j ⟨by omega,e⟩;omega,?_⟩;unfold L6;simp only[jn,Q4,Yz];have hc:=hR.cell i hi;refine fU s.b7.length (λk=>k<=i) (by omega) (by omega) (λk hk hP=>?_) (λhP=>by omega);rcases zE k i with g | g
  .refine .inl ⟨?_,g⟩;have:s.b7[k].State≠0:=λe=>by have:=hmin k ⟨hk,e⟩;omega
   simp only[wp,hk,ul,wn,u5 hk,Yz];rw[za (by simpa using this),o5]
  .have:k=i:=by omega
   subst this;refine .inr ⟨.inl _,?_,rfl⟩;simp only[wp,hk,ul,wn,u5 hk,Yz,h0,mh rfl hk hlen];rw[oM (by omega) (by omega) hc.2.2.1 (by have:=hR.l9;omega)];simp
 .right;refine⟨λi h e=>q ⟨i,h,e⟩,?_⟩;unfold L6;simp only[jn,Q4,Yz];refine fU s.b7.length (λk=>True) (by omega) trivial (λk hk _=>?_) (λhP=>⟨.inr (),by simp,rfl⟩);refine .inl ⟨?_,trivial⟩;have:s.b7[k].State≠0:=λe=>q ⟨k,hk,e⟩;simp only[wp,hk,ul,wn,u5 hk,Yz];rw[za (by simpa using this),o5]
def wc(s:l6)(h:Int)(i:Nat):Prop:=∃hi:i<s.b7.length,BT h/\(h-1) % 32=i/\s.b7[i].Gen=(h-1) / 32/\(s.b7[i].State=1\/s.b7[i].State=2)
theorem mO(s:l6){h:Int}(hh:h<=9223372036854775807) :
  (∃i,wc s h i/\A1 s h=some ((i:Int),0))\/((∀i,¬wc s h i)/\A1 s h=some (-1,if h=0 then 2 else 3)):=by
 unfold A1;by_cases h0:h=0
 .right;subst h0;exact⟨λi ⟨_,h1,_⟩=>by unfold BT at h1;omega,by simp⟩
 .rw[za (by simpa using h0),oO hh,Yz,za h0];by_cases hd:BT h
  .rw[zb hd];have hd':=hd;unfold BT at hd';obtain⟨k,hk⟩:∃k:Nat,(h-1) % 32=k:=⟨((h-1) % 32).toNat,by omega⟩;rw[hk];by_cases hl:k<s.b7.length
   .rw[za (by simp;omega),u5 hl,Yz,qK hh,Yz,zb hd];by_cases g:s.b7[k].Gen=(h-1) / 32/\(s.b7[k].State=1\/s.b7[k].State=2)
    .left;refine⟨k,⟨hl,hd,hk,g⟩,?_⟩;rw[za];simp;omega
    .right;refine⟨λi ⟨hi,_,h2,h3⟩=>?_,?_⟩
     .have:i=k:=by omega
      subst this;exact g h3
     .rw[zb];simp;omega
   .right;refine⟨λi ⟨hi,_,h2,h3⟩=>by omega,?_⟩;rw[zb (by simp;omega)]
  .right;refine⟨λi ⟨hi,h1,_⟩=>hd h1,?_⟩;rw[za hd,zb (by simp)]
theorem uL{s:l6}{h:Int}{i:Nat}(hf:wc s h i):A1 s h=some ((i:Int),0):=by
 have hh:=My hf.2.1;rcases mO s (h:=h) (by omega) with ⟨j,h1,h2⟩ | ⟨h1,_⟩
 .obtain⟨_,_,e1,_⟩:=hf;obtain⟨_,_,e2,_⟩:=h1;have:i=j:=by omega
  subst this;exact h2
 .exact absurd hf (h1 i)
theorem Bg{s:l6}{h:Int}(hh:h<=9223372036854775807)(hf:∀i,¬wc s h i):A1 s h=some (-1,if h=0 then 2 else 3):=by
 rcases mO s hh with ⟨j,h1,_⟩ | ⟨_,h2⟩;·exact absurd h1 (hf j)
 .exact h2
theorem sH(h:Int):(if h=0 then 2 else 3:Int)≠0:=by split <;> omega
theorem Ek{s:l6}{h:Int}{i:Nat}(hf:wc s h i):∃hi:i<s.b7.length,G9 s h=some (if s.b7[i].State=2 then (z0,3) else (s.b7[i].Val,0)):=by
 refine⟨hf.1,?_⟩;unfold G9;rw[uL hf,Yz,za (by simp),u5 hf.1,Yz];split <;> rename_i q
 .rw[zb (by simpa using q)]
 .rw[za (by simpa using q)]
theorem ya{s:l6}{h:Int}(hh:h<=9223372036854775807)(hf:∀i,¬wc s h i):G9 s h=some (z0,if h=0 then 2 else 3):=by
 unfold G9;rw[Bg hh hf,Yz,zb (by simpa using sH h)]
theorem Oc{s:l6}{h:Int}{v:n9}{i:Nat}(hl:s.b7.length<=24)(hf:wc s h i):∃hi:i<s.b7.length,aF s h v=some (⟨s.b7.set i ⟨s.b7[i].State,s.b7[i].Gen,v⟩,s.Last⟩,0):=by
 refine⟨hf.1,?_⟩;unfold aF;rw[uL hf,Yz,za (by simp),u5 hf.1,Yz,mh rfl hf.1 hl,Yz]
def oo(o:n9):xc:=⟨o.Serial,o.Strong,o.Weak,o.Prog,o.Started,o.Fields⟩
def cO(c:c9):lR:=⟨c.State,c.Gen,oo c.Val⟩
def sO(s:b6):jg:=⟨s.S.b7.map cO,s.S.Last,s.Serial⟩
def Sm(s:b6):Prop:=s.S.b7.length<=30/\∀i (h:i<s.S.b7.length),s.S.b7[i].Val.Fields.length<=10
instance(s:b6):Decidable (Sm s):=by unfold Sm;infer_instance
def OD(c:lR):Prop:=c.State=1\/c.State=2
instance(c:lR):Decidable (OD c):=by unfold OD;infer_instance
def VG(t:jg)(o:xc):Prop:=1<=o.Serial/\o.Serial<=t.Serial/\0<=o.Strong/\0<=o.Weak /\ -1<=o.Prog/\o.Prog<=5/\o.Fields.length<=4
def Jw(o:xc):Prop:=o.Serial=0/\o.Strong=0/\o.Weak=0/\o.Prog=0/\o.Started=false/\o.Fields.length=0
structure wh (t:jg):Prop where
 len:t.b7.length<=24
 l0:0<=t.Last
 l9:t.Last<=9
 aH:0<=t.Serial
 cell:∀i (h:i<t.b7.length),0<=t.b7[i].State/\t.b7[i].State<=3/\0<=t.b7[i].Gen/\t.b7[i].Gen<=t.Last
 no:∀i (h:i<t.b7.length),¬OD t.b7[i]->Jw t.b7[i].Val
 ok:∀i (h:i<t.b7.length),OD t.b7[i]->VG t t.b7[i].Val
 dif:∀i (h:i<t.b7.length) k (hk:k<i),OD t.b7[i]->OD t.b7[k]->t.b7[k].Val.Serial≠t.b7[i].Val.Serial
theorem Fo{c:Int->Int->Option Int}{xs:List Int}(key:Int->Int)(hc:∀x y,∃r,c x y=some r/\(r<0↔key x<key y))(hl:xs.length<4611686018427387904) :
  ∃ys,vr c xs=some ys/\ys.Perm xs/\ys.Pairwise (λa b=>key a<=key b):=by
 have hlt:∀x y,Go.Proofs.ltOf (λx y=>(c x y).getD 0) x y=decide (key x<key y):=λx y=>by
  obtain⟨r,h1,h2⟩:=hc x y;show decide ((c x y).getD 0<0)=_;rw[h1,ww];exact zbm.2 h2
 have hO:Go.Sort.SWO (Go.Proofs.ltOf λx y=>(c x y).getD 0):=by
  refine⟨λx=>?_,λx y z=>?_,λx y z=>?_⟩;·rw[hlt];simp
  .rw[hlt,hlt,hlt];simp;omega
  .rw[hlt,hlt,hlt];simp;omega
 have hcond:(∀x y,(c x y).isSome=true)/\Go.Sort.SWO (Go.Proofs.ltOf λx y=>(c x y).getD 0)/\xs.length<4611686018427387904:=⟨λx y=>by
  obtain⟨r,h1,_⟩:=hc x y;rw[h1];rfl,hO,hl⟩
 unfold vr;rw[zb hcond];refine⟨_,rfl,?_⟩;obtain⟨⟨p1,p2,p3⟩,p4⟩:=Go.Sort.pdq_sorts (Go.Proofs.ltOf λx y=>(c x y).getD 0) hO xs.toArray 0 xs.length (Go.Lib.bitLen xs.length) true true (zV _) (by simp) (Or.inl rfl);generalize Go.Sort.pdq (Go.Proofs.ltOf λx y=>(c x y).getD 0) xs.toArray 0 xs.length (Go.Lib.bitLen xs.length) true true=d at p1 p2 p3 p4 |-;have hs:d.size=xs.length:=by simpa using p1
 refine⟨?_,?_⟩
 .have e1:d.extract 0 xs.length=d:=by rw[<-hs];exact Array.extract_size
  have e2:xs.toArray.extract 0 xs.length=xs.toArray:=by
   simp
  rw[e1,e2] at p3;simpa using p3
 .rw[za4];intro i j hi hj hij;have hi':i<d.size:=by simpa using hi
  have hj':j<d.size:=by simpa using hj
  have:=p4 i j (zV _) hij (by omega);rw[hlt,getElem!_pos d j hj',getElem!_pos d i hi'] at this;have:=of_decide_eq_false this;simp only[Array.getElem_toList];omega
def cX:Nat->List c9->List Int
 | _,[]=>[]
 | k,c::r=>(if c.State=1 then [1+(k:Int)+32*c.Gen] else [])++cX (k+1) r
theorem uO(c:c9):∀(k:Nat) (xs:List c9),cX k (xs ++ [c])=cX k xs++(if c.State=1 then [1+((k+xs.length:Nat):Int)+32*c.Gen] else [])
 | k,[]=>by simp[cX]
 | k,x::r=>by
  simp only[List.cons_append,cX,uO c (k+1) r,zag,zH];rw[show k+1+r.length=k+(r.length+1) by omega]
theorem tc:∀(k:Nat) (xs:List c9),(cX k xs).length<=xs.length
 | _,[]=>by simp[cX]
 | k,c::r=>by
  have:=tc (k+1) r;simp only[cX,zL,zH];split <;> simp <;> omega
theorem oU{h:Int}:∀ {k:Nat} {xs:List c9},h∈cX k xs↔∃i,∃hi:i<xs.length,xs[i].State=1/\h=1+((k+i:Nat):Int)+32*xs[i].Gen
 | k,[]=>by simp[cX]
 | k,c::r=>by
  simp only[cX,zu,oU (k:=k+1) (xs:=r)];constructor
  .rintro (q | ⟨i,hi,q1,q2⟩)
   .by_cases hc:c.State=1
    .rw[zb hc] at q;exact⟨0,by simp,by simpa using hc,by simpa using q⟩
    .rw[za hc] at q;cases q
   .exact⟨i+1,by simpa using hi,by simpa using q1,by simp only[List.getElem_cons_succ];rw[q2,show k+1+i=k+(i+1) by omega]⟩
  .rintro⟨i,hi,q1,q2⟩;cases i with
   | zero=>
    left;simp only[List.getElem_cons_zero] at q1 q2;rw[zb q1];simp[q2]
   | succ i=>
    right;simp only[List.getElem_cons_succ] at q1 q2;exact⟨i,by simpa using hi,q1,by rw[q2,show k+1+i=k+(i+1) by omega]⟩
def sk(cs:List c9)(h:Int):Int:=match cs[((h-1) % 32).toNat]? with
 | some c=>c.Val.Serial
 | none=>0
theorem Fl{cs:List c9}{i:Nat}{g:Int}(h:i<cs.length)(h32:cs.length<=32):sk cs (1+(i:Int)+32*g)=cs[i].Val.Serial:=by
 unfold sk;have:((1+(i:Int)+32*g-1) % 32).toNat=i:=by omega
 rw[this,zc h]
structure Xv (cs:List c9):Prop where
 len:cs.length<=24
 gen:∀i (h:i<cs.length),0<=cs[i].Gen/\cs[i].Gen<=9
theorem Bs{s:b6}(hR:Xv s.S.b7):∃l,F8 s=some l/\l.Perm (cX 0 s.S.b7)/\l.Pairwise (λa b=>sk s.S.b7 a<=sk s.S.b7 b):=by
 have hlen:=hR.len;unfold F8;simp only[jn];have hh:=tc 0 s.S.b7;have hloop:∃e:List (Int × Int) × List Int,lp (S:=Int × (List (Int × Int)) × (List Int)) (E:=((List (Int × Int)) × (List Int))) (λ((s23,s24,s25):Int × (List (Int × Int)) × (List Int))=>
   if (decide (s23<(s.S.b7.length:Int))) then
    ((ix s.S.b7 s23).bind λv35=>
     if (v35.State==1) then
      (dQ s23 v35.Gen).bind λv36=>
      (app 8 s25 [v36]).bind λv37=>
      some (.inl (w9 (s23+1),(p8 s24 v36 v35.Val.Serial),v37))
     else
     some (.inl (w9 (s23+1),s24,s25)))
   else
   some (.inr (s24,s25))) (0,[],[])=some e/\e.2=cX 0 s.S.b7/\∀h∈e.2,z8 e.1 h=some (sk s.S.b7 h):=by
  refine jA (T:=List (Int × Int) × List Int) s.S.b7.length (λk e=>e.2=cX 0 (s.S.b7.take k)/\∀h∈e.2,z8 e.1 h=some (sk s.S.b7 h)) (λe:List (Int × Int) × List Int=>e.2=cX 0 s.S.b7/\∀h∈e.2,z8 e.1 h=some (sk s.S.b7 h)) (by omega) ⟨by simp[cX],by simp⟩ (λk e hk hP=>?_) (λe hP=>?_)
  .obtain⟨h1,h2⟩:=hP;obtain⟨m,l⟩:=e;simp only at h1 h2;left;have hc:=hR.gen k hk;have hl:l.length<=24:=by rw[h1];have:=tc 0 (s.S.b7.take k);simp at this;omega
   have et:s.S.b7.take (k+1)=s.S.b7.take k ++ [s.S.b7[k]]:=by rw[List.take_add_one,zc hk];rfl
   have el:(s.S.b7.take k).length=k:=by simp;omega
   by_cases q:s.S.b7[k].State=1
   .refine⟨(p8 m (1+(k:Int)+32*s.S.b7[k].Gen) s.S.b7[k].Val.Serial,l ++ [1+(k:Int)+32*s.S.b7[k].Gen]),?_,?_,?_⟩
    .simp only[wp,hk,ul,wn,u5 hk,Yz,q,q9];rw[oM (by omega) (by omega) hc.1 hc.2,Yz,K5 (by omega) (by simp;omega),Yz,o5]
    .simp only;rw[et,uO,zb q,el,h1,zak]
    .intro h hh;simp only[zu,zp] at hh |-;rw[pU];rcases hh with hh | rfl
     .split;·rename_i e;rw[e,Fl hk (by omega)]
      .exact h2 h hh
     .rw[zb rfl,Fl hk (by omega)]
   .refine⟨(m,l),?_,?_,h2⟩
    .simp only[wp,hk,ul,wn,u5 hk,Yz];rw[za (by simpa using q),o5]
    .simp only;rw[et,uO,za q,h1,zau]
  .obtain⟨h1,h2⟩:=hP;obtain⟨m,l⟩:=e;refine⟨(m,l),by simp only[zbe,zbo,zC,t8],?_,h2⟩;simpa using h1
 obtain⟨⟨m,l⟩,e1,e2,e3⟩:=hloop;rw[show lp _ _=_ from e1,Yz];simp only at e2 e3 |-;subst e2;obtain⟨ys,q1,q2,q3⟩:=Fo (c:=λp q=>iX p q m) (xs:=cX 0 s.S.b7) (λh=>(z8 m h).getD 0) (λx y=>by
  unfold iX ic cW;simp only[Yz,zcj,zC,t8];generalize (z8 m x).getD 0=a;generalize (z8 m y).getD 0=b;by_cases h1:a<b
  .rw[zD h1];exact⟨-1,rfl,by simp[h1]⟩
  .rw[zY h1];by_cases h2:a > b
   .rw[zD h2];exact⟨1,rfl,by simp[h1]⟩
   .rw[zY h2];exact⟨0,rfl,by simp[h1]⟩) (by omega)
 refine⟨ys,by rw[q1];rfl,q2,q3.imp_of_mem λ{a b} ha hb hab=>?_⟩;rw[e3 a (q2.mem_iff.1 ha),e3 b (q2.mem_iff.1 hb)] at hab;simpa using hab
theorem rQ{key:Int->Int}:∀ {l m:List Int},l.Perm m->l.Pairwise (λa b=>key a<=key b)->m.Pairwise (λa b=>key a<=key b)->(∀a∈l,∀b∈l,key a=key b->a=b)->l=m
 | [],m,hp,_,_,_=>(List.nil_perm.1 hp).symm
 | a::l,[],hp,_,_,_=>by simp at hp
 | a::l,b::m,hp,h1,h2,hk=>by
  have ha:=zba.1 h1;have hb:=zba.1 h2;have e:a=b:=by
   have m1:b∈a::l:=hp.mem_iff.2 (zg ..);have m2:a∈b::m:=hp.mem_iff.1 (zg ..);rcases zM.1 m1 with q | q
   .exact q.symm
   .rcases zM.1 m2 with q' | q'
    .exact q'
    .exact hk a (zg ..) b m1 (Int.le_antisymm (ha.1 b q) (hb.1 a q'))
  subst e;rw[rQ (List.perm_cons a |>.1 hp) ha.2 hb.2 λx hx y hy=>hk x (zn _ hx) y (zn _ hy)]
theorem kX(s:b6):(sO s).b7.length=s.S.b7.length:=by simp[sO]
theorem pn{s:b6}(h:wh (sO s)):s.S.b7.length<=24:=by have:=h.len;rwa [kX] at this
theorem Dm{s:b6}(h:wh (sO s))(i:Nat)(hi:i<s.S.b7.length):0<=s.S.b7[i].State/\s.S.b7[i].State<=3/\0<=s.S.b7[i].Gen/\s.S.b7[i].Gen<=s.S.Last:=by
 have:=h.cell i (by rw[kX];exact hi);simpa[sO,cO] using this
theorem Hc{s:b6}(h:wh (sO s)):Xv s.S.b7:=⟨pn h,λi hi=>by have:=Dm h i hi;have h9:s.S.Last<=9:=h.l9;omega⟩
theorem NW{s:b6}(h:wh (sO s))(i:Nat)(hi:i<s.S.b7.length)(ht:s.S.b7[i].State=1\/s.S.b7[i].State=2):VG (sO s) (oo s.S.b7[i].Val):=by
 have:=h.ok i (by rw[kX];exact hi);simp only[sO,t7,cO,OD] at this;exact this ht
theorem NV{s:b6}(h:wh (sO s)){i j:Nat}(hi:i<s.S.b7.length)(hj:j<s.S.b7.length)(a:s.S.b7[i].State=1\/s.S.b7[i].State=2)(b:s.S.b7[j].State=1\/s.S.b7[j].State=2)(e:s.S.b7[i].Val.Serial=s.S.b7[j].Val.Serial):i=j:=by
 have key:∀i (hi:i<s.S.b7.length) j (hj:j<i),(s.S.b7[i].State=1\/s.S.b7[i].State=2)->(s.S.b7[j].State=1\/s.S.b7[j].State=2)->s.S.b7[j].Val.Serial≠s.S.b7[i].Val.Serial:=λi hi j hj a b=>by
  have:=h.dif i (by rw[kX];exact hi) j hj;simp only[sO,t7,cO,OD,oo] at this;exact this a b
 rcases Nat.lt_trichotomy i j with q | q | q
 .exact absurd e (key j hj i q b a)
 .exact q
 .exact absurd e.symm (key i hi j q a b)
theorem oT{s:b6}(hR:wh (sO s)){x:Int}(hx:x∈cX 0 s.S.b7):∃i,∃hi:i<s.S.b7.length,s.S.b7[i].State=1/\x=1+(i:Int)+32*s.S.b7[i].Gen/\wc s.S x i/\sk s.S.b7 x=s.S.b7[i].Val.Serial/\y5 s x=some (s.S.b7[i].Val,0):=by
 obtain⟨i,hi,h1,h2⟩:=oU.1 hx;rw[zak] at h2;have hl:=(pn hR);have hc:=(Hc hR).gen i hi;have hf:wc s.S x i:=⟨hi,by unfold BT;omega,by omega,by omega,.inl h1⟩;refine⟨i,hi,h1,h2,hf,by rw[h2];exact Fl hi (by omega),?_⟩;obtain⟨_,e⟩:=Ek hf;unfold y5;rw[e,za (by omega)];rfl
theorem Mj{s:b6}{x:Int}{i:Nat}(hf:wc s.S x i)(h1:∀hi:i<s.S.b7.length,s.S.b7[i].State=1):x∈cX 0 s.S.b7:=by
 obtain⟨hi,q1,q2,q3,_⟩:=hf;refine oU.2 ⟨i,hi,h1 hi,?_⟩;unfold BT at q1;rw[zak];omega
theorem Hh{s:b6}(hR:wh (sO s)){x y:Int}(hx:x∈cX 0 s.S.b7)(hy:y∈cX 0 s.S.b7)(e:sk s.S.b7 x=sk s.S.b7 y):x=y:=by
 obtain⟨i,hi,a1,a2,_,a4,_⟩:=oT hR hx;obtain⟨j,hj,b1,b2,_,b4,_⟩:=oT hR hy;have:=(NV hR) hi hj (.inl a1) (.inl b1) (by rw[<-a4,<-b4];exact e);subst this;rw[a2,b2]
theorem mS:∀(k:Nat) (cs:List c9),k+cs.length<=32->(cX k cs).Nodup
 | _,[],_=>zb2
 | k,c::r,h=>by
  simp only[zH] at h;unfold cX;rw[zbs];refine⟨by split <;> simp,mS (k+1) r (by omega),λa ha b hb e=>?_⟩;split at ha
  .simp only[zp] at ha;subst ha;subst e;obtain⟨i,hi,h1,h2⟩:=oU.1 hb;have:((1+(k:Int)+32*c.Gen)-1) % 32=((1+((k+1+i:Nat):Int)+32*r[i].Gen)-1) % 32:=by rw[h2]
   omega
  .cases ha
theorem Iw{s:b6}(hR:wh (sO s)):∃l,F8 s=some l/\l.Perm (cX 0 s.S.b7)/\l.Pairwise (λa b=>sk s.S.b7 a<sk s.S.b7 b):=by
 obtain⟨l,h1,h2,h3⟩:=Bs (Hc hR);refine⟨l,h1,h2,?_⟩;have hn:l.Nodup:=h2.nodup_iff.2 (mS 0 _ (by have:=(pn hR);omega));have:=List.Pairwise.and h3 hn;refine this.imp_of_mem λ{a b} ha hb ⟨q1,q2⟩=>?_;rcases Int.lt_or_eq_of_le q1 with q | q
 .exact q
 .exact absurd (Hh hR (h2.mem_iff.1 ha) (h2.mem_iff.1 hb) q) q2
theorem te:∀(k:Nat) (cs:List c9) (i:Nat) (c:c9) (hi:i<cs.length),cs[i].State≠1->c.State=1->(cX k (cs.set i c)).Perm ((1+((k+i:Nat):Int)+32*c.Gen)::cX k cs)
 | _,[],i,_,hi,_,_=>by simp at hi
 | k,d::r,0,c,hi,h1,h2=>by
  simp only[List.getElem_cons_zero] at h1;simp only[List.set_cons_zero,cX,zb h2,za h1,zcg,za7];exact List.Perm.refl _
 | k,d::r,i+1,c,hi,h1,h2=>by
  simp only[List.getElem_cons_succ] at h1;simp only[List.set_cons_succ,cX];have:=te (k+1) r i c (by simpa using hi) h1 h2;rw[show k+1+i=k+(i+1) by omega] at this;exact (List.Perm.append_left _ this).trans List.perm_middle
theorem Vd{cs:List c9}{i:Nat}{c:c9}{x:Int}(h:((x-1) % 32).toNat≠i):sk (cs.set i c) x=sk cs x:=by
 unfold sk;rw[List.getElem?_set_ne (by omega)]
theorem GH{s:b6}(hR:wh (sO s)){i:Nat}(hi:i<s.S.b7.length)(h0:s.S.b7[i].State=0)(o:n9)(ho:o.Serial=s.Serial+1){l:List Int}(hl:F8 s=some l) :
  F8 ⟨⟨s.S.b7.set i ⟨1,s.S.b7[i].Gen,o⟩,s.S.Last⟩,s.Serial+1⟩=some (l ++ [1+(i:Int)+32*s.S.b7[i].Gen]):=by
 obtain⟨l',e,l1,l2⟩:=Iw hR;rw[hl] at e;cases e;have hlen:=pn hR;have hsl:Xv (s.S.b7.set i ⟨1,s.S.b7[i].Gen,o⟩):=⟨by simpa using hlen,λj hj=>by
  rw[zcp];have:=(Hc hR).gen;split;·exact this i hi
  .exact this j (by simpa using hj)⟩
 obtain⟨m,m1,m2,m3⟩:=Bs (s:=⟨⟨s.S.b7.set i ⟨1,s.S.b7[i].Gen,o⟩,s.S.Last⟩,s.Serial+1⟩) hsl;have hp:=te 0 s.S.b7 i ⟨1,s.S.b7[i].Gen,o⟩ hi (by omega) rfl;rw[zak] at hp;have hold:∀x∈l,sk (s.S.b7.set i ⟨1,s.S.b7[i].Gen,o⟩) x=sk s.S.b7 x/\sk s.S.b7 x<=s.Serial:=λx hx=>by
  obtain⟨j,hj,a1,a2,a3,a4,_⟩:=oT hR (l1.mem_iff.1 hx);refine⟨Vd ?_,?_⟩
  .obtain⟨_,_,q,_⟩:=a3;intro e;have:j=i:=by omega
   subst this;omega
  .rw[a4];exact (NW hR j hj (.inl a1)).2.1
 have hnew:sk (s.S.b7.set i ⟨1,s.S.b7[i].Gen,o⟩) (1+(i:Int)+32*s.S.b7[i].Gen)=s.Serial+1:=by
  rw[Fl (by simpa using hi) (by simp;omega)];simp[ho]
 rw[m1];congr 1;refine rQ (key:=sk (s.S.b7.set i ⟨1,s.S.b7[i].Gen,o⟩)) ?_ m3 ?_ ?_
 .refine m2.trans (hp.trans ?_);refine List.Perm.trans (List.Perm.cons _ l1.symm) ?_;exact (List.perm_append_singleton _ _).symm
 .rw[zar];refine⟨l2.imp_of_mem λ{a b} ha hb hab=>?_,by simp,λa ha b hb=>?_⟩;·rw[(hold a ha).1,(hold b hb).1];omega
  .rw[zp] at hb;subst hb;rw[hnew,(hold a ha).1];have:=(hold a ha).2;omega
 .have hm:∀a∈m,a∈l\/a=1+(i:Int)+32*s.S.b7[i].Gen:=λa ha=>by
   have:=hp.mem_iff.1 (m2.mem_iff.1 ha);rcases zM.1 this with q | q
   .exact .inr q
   .exact .inl (l1.mem_iff.2 q)
  intro a ha b hb hab;rcases hm a ha with qa | rfl <;> rcases hm b hb with qb | rfl
  .rw[(hold a qa).1,(hold b qb).1] at hab;exact Hh hR (l1.mem_iff.1 qa) (l1.mem_iff.1 qb) hab
  .rw[(hold a qa).1,hnew] at hab;have:=(hold a qa).2;omega
  .rw[(hold b qb).1,hnew] at hab;have:=(hold b qb).2;omega
  .rfl
theorem WA(n last:Int):∃a,jj n last=some a/\Db n last=some (sO a)/\wh (sO a)/\a.S.b7.length<=24/\∀i (h:i<a.S.b7.length),a.S.b7[i].Val.Fields.length<=4:=by
 unfold jj Db aE IX;by_cases h:0<=n/\n<=24/\0<=last/\last<=9
 .obtain⟨h1,h2,h3,h4⟩:=h;obtain⟨k,rfl⟩:∃k:Nat,n=k:=⟨n.toNat,by omega⟩;rw[za (by simp;omega),za (by simp;omega),ky (by omega) (by omega),ky (by omega) (by omega)];simp only[Yz,List.length_replicate];rw[ky (by omega) (by omega)];refine⟨_,rfl,?_,?_,by simp;omega,λi h=>by simp⟩;·simp[sO,cO,oo]
  .refine⟨by simp[sO];omega,h3,h4,by simp[sO],λi h=>?_,λi h=>?_,λi h q=>?_,λi h k hk q=>?_⟩;·simp[sO,cO];omega
   .simp[sO,cO,oo,Jw]
   .exfalso;simp[sO,cO,oo,OD] at q
   .exfalso;simp[sO,cO,oo,OD] at q
 .rw[zb (by simp;omega),zb (by simp;omega)];simp only[Yz,zaf];rw[show mk 80 ((0:Nat):Int) (⟨0,0,⟨0,0,0,0,false,[]⟩⟩:lR)=some [] from rfl];refine⟨_,rfl,rfl,⟨by simp[sO],by simp[sO],by simp[sO],by simp[sO],?_,?_,?_,?_⟩,by simp,λi h=>by simp at h⟩ <;> (intro i h;simp[sO] at h)
noncomputable def lv(s:b6):List Int:=(F8 s).getD []
def ob(s:b6)(h:Int):n9:=((y5 s h).getD (z0,0)).1
def outs(s:b6)(h:Int):List Int:=nz (ob s h).Fields
def FB(s:b6):Prop:=∀c∈s.S.b7,∀x∈c.Val.Fields,x<=9223372036854775807
section
variable{s:b6}(hR:wh (sO s))
include hR
theorem mV:F8 s=some (lv s)/\(lv s).Perm (cX 0 s.S.b7)/\(lv s).Pairwise (λa b=>sk s.S.b7 a<sk s.S.b7 b):=by
 obtain⟨l,h1,h2,h3⟩:=Iw hR;have:lv s=l:=by unfold lv;rw[h1];rfl
 rw[this];exact⟨h1,h2,h3⟩
theorem gz:F8 s=some (lv s):=(mV hR).1
theorem CH{h:Int}:h∈lv s↔h∈cX 0 s.S.b7:=(mV hR).2.1.mem_iff
theorem K9:(lv s).length<=24:=by
 rw[(mV hR).2.1.length_eq];exact zO (tc 0 s.S.b7) (pn hR)
theorem tA:(lv s).Nodup:=(mV hR).2.1.nodup_iff.2 (mS 0 _ (by have:=(pn hR);omega))
theorem uR{h:Int}(hh:h∈lv s):y5 s h=some (ob s h,0):=by
 obtain⟨i,hi,_,_,_,_,e⟩:=oT hR ((CH hR).1 hh);unfold ob;rw[e];rfl
theorem CG{h:Int}(hh:h∈lv s):∃i,∃hi:i<s.S.b7.length,s.S.b7[i].State=1/\h=1+(i:Int)+32*s.S.b7[i].Gen/\wc s.S h i/\ob s h=s.S.b7[i].Val:=by
 obtain⟨i,hi,h1,h2,h3,_,e⟩:=oT hR ((CH hR).1 hh);refine⟨i,hi,h1,h2,h3,?_⟩;unfold ob;rw[e];rfl
theorem oZ{h:Int}(hh:h∈lv s):1<=h/\h<=320:=by
 obtain⟨i,hi,_,_,hf,_⟩:=CG hR hh;exact My hf.2.1
theorem Sl{h:Int}(hh:h<=9223372036854775807)(hn:h∉lv s):∃e,e≠0/\y5 s h=some (z0,e):=by
 rcases mO s.S hh with ⟨i,hf,_⟩ | ⟨hf,_⟩
 .obtain⟨hi,e⟩:=Ek hf;unfold y5;rw[e];by_cases h2:s.S.b7[i].State=2
  .rw[zb h2];exact⟨3,by decide,rfl⟩
  .exact absurd ((CH hR).2 (Mj hf λ_=>hf.2.2.2.2.resolve_right h2)) hn
 .unfold y5;rw[ya hh hf];exact⟨_,sH h,rfl⟩
theorem vK{h:Int}(hh:h<=9223372036854775807)(hn:h∉lv s):ob s h=z0:=by
 obtain⟨e,_,h1⟩:=Sl hR hh hn;unfold ob;rw[h1];rfl
theorem il{h:Int}(hh:h<=9223372036854775807):∃e,y5 s h=some (ob s h,e)/\(e=0↔h∈lv s):=by
 by_cases q:h∈lv s
 .exact⟨0,uR hR q,by simp[q]⟩
 .obtain⟨e,h0,h1⟩:=Sl hR hh q;refine⟨e,?_,by simp[h0,q]⟩;rw[h1,vK hR hh q]
theorem QS{h:Int}(hh:h<=9223372036854775807)(hn:h∉lv s):outs s h = []:=by
 unfold outs;rw[vK hR hh hn];rfl
theorem IJ(h:Int)(hh:h<=9223372036854775807):(ob s h).Fields.length<=4:=by
 by_cases q:h∈lv s
 .obtain⟨i,hi,h1,_,_,e⟩:=CG hR q;rw[e];exact (NW hR i hi (.inl h1)).2.2.2.2.2.2
 .rw[vK hR hh q];exact zV _
theorem yx(h:Int)(hh:h<=9223372036854775807):(outs s h).length<=4:=zO (Ng _) (IJ hR h hh)
theorem QR(hF:FB s){h x:Int}(hh:h<=9223372036854775807)(hx:x∈outs s h):x<=9223372036854775807:=by
 by_cases q:h∈lv s
 .obtain⟨i,hi,h1,_,_,e⟩:=CG hR q;unfold outs at hx;rw[e] at hx;exact hF _ (zh hi) x (fZ.1 hx).1
 .rw[QS hR hh q] at hx;cases hx
end
theorem QT{s:b6}{h x:Int}(hx:x∈outs s h):x≠0:=(fZ.1 hx).2
theorem EI(v:List Int)(h:v.length<=1000000):jk v=some (nz v):=by
 unfold jk qo;simp only[jn,Yz];rw[U7 v (λb x=>if x != 0 then b ++ [x] else b) id (λk b=>b.length<=k) (by omega) (by simp) (λk hk b hb=>?_) (λb _=>?_)]
 .simp only[Yz,id];rw[foldl_filter];rfl
 .simp only[wp,hk,ul,wn,u5 hk,Yz];by_cases q:(v[k] != 0)=true
  .rw[zb (by simpa using q),zb q,K5 (by omega) (by simp;omega),Yz,o5];exact⟨rfl,by simp;omega⟩
  .rw[za (by simpa using q),za q,o5];exact⟨rfl,by omega⟩
 .simp only[zbe,zbo,zC,t8];rfl
theorem Hk(l:List Int)(h:Int)(hl:l.length<=1000000):pW l h=some (Q0 l h:Int):=by
 unfold pW;simp only[jn];rw[Km l (λ(b:Int) x=>if (x==h&&h != 0) then b+1 else b) id (λk b=>0<=b/\b<=k) (by omega) (by simp) (λk hk b hb=>?_) (λb _=>?_)]
 .simp only[Yz,id];rw[vJ];simp
 .simp only[wp,hk,ul,wn,u5 hk,Yz];by_cases q:(l[k]==h&&h != 0)=true
  .rw[zb q,zb q,o5,T5 (n:=b+1) (by omega) (by omega)];exact⟨rfl,by omega⟩
  .rw[za q,za q,o5];exact⟨rfl,by omega⟩
 .simp only[zbe,zbo,zC,t8];rfl
noncomputable def jW(s:b6)(h:Int):Nat:=((lv s).map λx=>Q0 (outs s x) h).sum
theorem Sk{s:b6}(hR:wh (sO s)){k:Nat}(hk:k<(lv s).length):(lv s)[k]<=9223372036854775807:=by
 have:=oZ hR (zh hk);omega
section
variable{s:b6}(hR:wh (sO s))
include hR
theorem Nt{h:Int}(hh:h<=9223372036854775807):lU s h=some (outs s h):=by
 obtain⟨e,h1,_⟩:=il hR hh;unfold lU;rw[h1,Yz,EI _ (by have:=IJ hR h hh;simp only;omega)];rfl
theorem MC(h:Int):jW s h<=96:=by
 have:=Hj (λx=>Q0 (outs s x) h) 4 (lv s) λx hx=>zO (Hl _ _) (yx hR x (by have:=oZ hR hx;omega));have:=K9 hR;unfold jW;omega
theorem Wg(h:Int):xd s h=some (jW s h:Int):=by
 unfold xd nk;simp only[jn,Yz];rw[show F8 s=_ from gz hR,Yz];have hl:=K9 hR;rw[U7 (lv s) (λ(b:Int) x=>b+(Q0 (outs s x) h:Int)) id (λk b=>0<=b/\b<=4*k) (by omega) (by simp) (λk hk b hb=>?_) (λb _=>?_)]
 .simp only[Yz,id];have:=xS (λx=>Q0 (outs s x) h) (lv s) 0;rw[show ((0:Nat):Int)=0 from rfl] at this;rw[this,zak];rfl
 .have ho:=Nt hR (Sk hR hk);have hol:=yx hR _ (Sk hR hk);have ht:=Hl (outs s (lv s)[k]) h;simp only[wp,hk,ul,wn,u5 hk,Yz,ho];rw[U7 (outs s (lv s)[k]) (λ(b:Int) x=>if (x==h&&h != 0) then b+1 else b) id (λj c=>b<=c/\c<=b+j) (by omega) (by simp) (λj hj c hc=>?_) (λc _=>?_)]
  .simp only[Yz,id];rw[vJ,o5];exact⟨rfl,by omega⟩
  .simp only[wp,hj,ul,wn,u5 hj,Yz];have hne:=QT (zh hj);by_cases q:(outs s (lv s)[k])[j]=h
   .have e2:((outs s (lv s)[k])[j]==h&&h != 0)=true:=by simp only[zy,pu,bne_iff_ne];omega
    rw[e2,zb (by simpa using q),zb rfl,o5,T5 (n:=c+1) (by omega) (by omega)];exact⟨rfl,by omega⟩
   .have e2:((outs s (lv s)[k])[j]==h&&h != 0)=false:=by rw[zbj];simp only[ne_eq,zy,pu,bne_iff_ne];omega
    rw[e2,za (by simpa using q),o5];exact⟨rfl,by simp;omega⟩
  .simp only[zbe,zbo,zC,t8];rfl
 .simp only[zbe,zbo,zC,t8];rfl
end
section
variable{s:b6}(hR:wh (sO s))(hF:FB s)
include hR hF
end
theorem sJ{α:Type}(p:α->Bool):∀l:List α,l.length=(l.filter p).length+(l.filter λx => !p x).length
 | []=>rfl
 | x::l=>by
  have:=sJ p l;by_cases h:p x
  .simp[h];omega
  .simp[h];omega
theorem Wo{s:b6}(hR:wh (sO s)){l:List Int}(hp:l.Perm (cX 0 s.S.b7))(hs:l.Pairwise (λa b=>sk s.S.b7 a<sk s.S.b7 b)):lv s=l:=by
 obtain⟨_,l2,l3⟩:=mV hR;exact rQ (key:=sk s.S.b7) (l2.trans hp.symm) (l3.imp λh=>by omega) (hs.imp λh=>by omega) λa ha b hb e=>Hh hR (l2.mem_iff.1 ha) (l2.mem_iff.1 hb) e
inductive rY (s:b6) (l:List Int):Int->Prop
 | base {h:Int}:h∈l->h∈lv s->rY s l h
 | step {a b:Int}:rY s l a->b∈outs s a->b∈lv s->rY s l b
open Classical in
noncomputable def GX (s:b6) (l:List Int):List Int:=(lv s).filter λh=>decide (rY s l h)
open Classical in
noncomputable def lst (s:b6) (l:List Int):List Int:=(lv s).filter λh=>decide (¬rY s l h)
def Cl(s:b6)(l:List Int):Prop:=∀a∈l,∀b∈outs s a,b∈lv s->b∈l
def LB(l:List Int):Prop:=∀x∈l,x<=9223372036854775807
theorem rY.live{s:b6}{l:List Int}{h:Int}(q:rY s l h):h∈lv s:=by cases q <;> assumption
open Classical in
theorem fq {s:b6} {l:List Int} {h:Int}:h∈GX s l↔rY s l h:=by
 unfold GX;rw[zk];exact⟨λq=>zbi q.2,λq=>⟨q.live,zD q⟩⟩
theorem Rg{s:b6}(hR:wh (sO s))(l:List Int):(GX s l).length<=24:=zO (zB ..) (K9 hR)
theorem UN(s:b6)(l:List Int):Cl s (GX s l):=λa ha b hb hl=>fq.2 (.step (fq.1 ha) hb hl)
theorem rY.least{s:b6}{l m:List Int}(hc:Cl s m)(hl:∀x∈l,x∈lv s->x∈m){h:Int}(q:rY s l h):h∈m:=by
 induction q with
 | base h1 h2=>exact hl _ h1 h2
 | step _ h1 h2 ih=>exact hc _ ih _ h1 h2
theorem rY.mono{s:b6}{l m:List Int}(hl:∀x∈l,x∈lv s->rY s m x){h:Int}(q:rY s l h):rY s m h:=by
 induction q with
 | base h1 h2=>exact hl _ h1 h2
 | step _ h1 h2 ih=>exact .step ih h1 h2
theorem KE{s:b6}{l m:List Int}(h:∀x,rY s l x↔rY s m x):GX s l=GX s m:=by
 unfold GX;exact pm λx _=>zbm.2 (h x)
theorem filter_lt{α:Type}{p q:α->Bool}:∀ {l:List α},(∀x∈l,p x=true->q x=true)->∀x∈l,q x=true->p x=false->(l.filter p).length<(l.filter q).length
 | [],_,x,hx,_,_=>by cases hx
 | y::l,h,x,hx,h1,h2=>by
  have hle:(l.filter p).length<=(l.filter q).length:=by
   have h':∀x∈l,p x=true->q x=true:=λx hx=>h x (zn _ hx);clear h hx;induction l with
   | nil=>simp
   | cons z l ih=>
    have:=ih λx hx=>h' x (zn _ hx);have hz:=h' z (zg ..);simp only[or];by_cases a:p z=true
    .rw[zb a,zb (hz a)];simp only[zH];omega
    .rw[za a];split <;> (try simp only[zH]) <;> omega
  rcases zM.1 hx with rfl | hx'
  .simp only[or,h1,h2,wn,zC,t8,zH];omega
  .have:=filter_lt (λx hx=>h x (zn _ hx)) x hx' h1 h2;have hy:=h y (zg ..);simp only[or];by_cases a:p y=true
   .rw[zb a,zb (hy a)];simp only[zH];omega
   .rw[za a];split <;> (try simp only[zH]) <;> omega
theorem Z3{l m:List Int}(hn:l.Nodup)(h:∀x∈l,x∈m):l.length<=m.length:=by
 induction l generalizing m with
 | nil=>simp
 | cons x l ih=>
  rw[me] at hn;have hx:=h x (zg ..);have:=ih (m:=m.erase x) hn.2 λy hy=>(List.mem_erase_of_ne (λe=>hn.1 (by subst e;exact hy))).2 (h y (zn _ hy));rw[List.length_erase_of_mem hx] at this;have:0<m.length:=List.length_pos_of_mem hx;simp only[zH];omega
section
variable{s:b6}(hR:wh (sO s))
include hR
theorem Kh{h:Int}(hh:h<=9223372036854775807):cu s h=some (decide (h∈lv s)):=by
 obtain⟨e,h1,h2⟩:=il hR hh;unfold cu;rw[h1,Yz];congr 1;rw[za8,pu,zF];exact h2
abbrev Mk(m:List (Int × Bool))(x:Int):Prop:=(z8 m x).getD false=true
noncomputable def Jp(s:b6)(m:List (Int × Bool)):Nat:=((lv s).filter λx => !(z8 m x).getD false).length
omit hR in
theorem dF (m:List (Int × Bool)) (x y:Int):Mk (p8 m x true) y↔y=x\/Mk m y:=by
 unfold Mk;rw[pU];by_cases q:y=x
 .simp[q]
 .simp[q]
omit hR in
theorem RG {m:List (Int × Bool)} {x:Int} (hx:x∈lv s) (hm:¬Mk m x):Jp s (p8 m x true)<Jp s m:=by
 unfold Jp;refine filter_lt (λy _ h=>?_) x hx (by simpa[Mk] using hm) ?_
 .by_cases q:Mk m y
  .have:=(dF m x y).2 (.inr q);unfold Mk at this;rw[this] at h;cases h
  .simpa[Mk] using q
 .have:=(dF m x x).2 (.inl rfl);unfold Mk at this;rw[this];rfl
structure FR (s:b6) (l:List Int) (q:e6) (m:List (Int × Bool)):Prop where
 nd:q.L.Nodup
 cap:q.Cap=((lv s).length:Int)
 iu:∀x∈q.L,Mk m x
 rc:∀x,Mk m x->rY s l x
omit hR in
theorem FR.room {l:List Int} {q:e6} {m:List (Int × Bool)} (h:FR s l q m) {x:Int} (hx:x∈lv s) (hm:¬Mk m x):q.L.length<(lv s).length:=by
 have:(x::q.L).length<=(lv s).length:=Z3 (me.2 ⟨λk=>hm (h.iu x k),h.nd⟩) λy hy=>by
  rcases zM.1 hy with rfl | k
  .exact hx
  .exact (h.rc y (h.iu y k)).live
 simp only[zH] at this;omega
omit hR in
theorem IU {q:e6} {x:Int} (h:(q.L.length:Int)<q.Cap) (h2:q.L.length<=1000):D6 q x=some (⟨q.L ++ [x],q.Cap⟩,0):=by
 unfold D6 H5 T3;rw[Yz,za (by simp;omega)];have:=uG (xs:=q.L) (i:=0) (j:=q.L.length) (by omega) (zG _);rw[show ((0:Nat):Int)=0 from rfl] at this;rw[this];simp only[zU,List.drop_zero,Yz];rw[K5 (by omega) (by simp;omega)];rfl
omit hR in
theorem NF {x:Int} {r:List Int} {c:Int} (h2:r.length<=1000):W5 ⟨x::r,c⟩=some (⟨r,c⟩,x,0):=by
 unfold W5 iC H5 T3;simp only[Yz,zH];have e:(if (if (((r.length+1:Nat):Int))<1 then (((r.length+1:Nat):Int)) else 1) > 0 then (if (((r.length+1:Nat):Int))<1 then (((r.length+1:Nat):Int)) else 1) else 0:Int)=((1:Nat):Int):=by
  rw[za (show ¬(((r.length+1:Nat):Int)<1) by omega)];rfl
 rw[e];have h1:=uG (xs:=x::r) (i:=0) (j:=1) (by omega) (by simp);have h3:=uG (xs:=x::r) (i:=1) (j:=r.length+1) (by omega) (by simp);rw[show ((0:Nat):Int)=0 from rfl] at h1;rw[h1,h3];simp only[Yz];have e1:List.drop 0 (List.take 1 (x::r)) = [x]:=by simp
 have e2:List.drop 1 (List.take (r.length+1) (x::r))=r:=by simp
 rw[e1,e2];rfl
abbrev ET(s:b6)(xs:List Int):Int × e6 × (List (Int × Bool))->Option ((Int × e6 × (List (Int × Bool))) ⊕ (e6 × (List (Int × Bool)))):=
 λ(s114,s115,s116)=>
   if (decide (s114<(xs.length:Int))) then
     (ix xs s114).bind λv126=>
     (cu s v126).bind λv127=>
     if (v127==true) then
      if (!((z8 s116 v126).getD (false:Bool))) then
       (D6 s115 v126).bind λv128=>
       some (.inl (w9 (s114+1),v128.1,(p8 s116 v126 true)))
      else
      some (.inl (w9 (s114+1),s115,s116))
     else
     some (.inl (w9 (s114+1),s115,s116))
   else
   some (.inr (s115,s116))
theorem BE{l xs:List Int}{q:e6}{m:List (Int × Bool)}(hxs:LB xs)(hlen:xs.length<=1000000)(h0:FR s l q m)(hr:∀x∈xs,x∈lv s->rY s l x) :
  ∃q' m',lp (ET s xs) (0,q,m)=some (q',m')/\FR s l q' m'/\(∀x,Mk m' x↔Mk m x\/x∈xs/\x∈lv s)/\(∀x,Mk m' x->Mk m x\/x∈q'.L)/\(∀x∈q.L,x∈q'.L)/\2*Jp s m'+q'.L.length<=2*Jp s m+q.L.length:=by
 have:=jA (f:=ET s xs) (t0:=(q,m)) xs.length (λk t=>FR s l t.1 t.2/\(∀x,Mk t.2 x↔Mk m x\/x∈xs.take k/\x∈lv s)/\(∀x,Mk t.2 x->Mk m x\/x∈t.1.L)/\(∀x∈q.L,x∈t.1.L)/\2*Jp s t.2+t.1.L.length<=2*Jp s m+q.L.length)
  (λt=>FR s l t.1 t.2/\(∀x,Mk t.2 x↔Mk m x\/x∈xs/\x∈lv s)/\(∀x,Mk t.2 x->Mk m x\/x∈t.1.L)/\(∀x∈q.L,x∈t.1.L)/\2*Jp s t.2+t.1.L.length<=2*Jp s m+q.L.length) (by omega)
  ⟨h0,λx=>by simp,λx h=>.inl h,λx h=>h,zG _⟩ (λk t hk hP=>?_) (λt hP=>?_)
 .obtain⟨⟨q',m'⟩,h1,h2⟩:=this;exact⟨q',m',h1,h2⟩
 .obtain⟨q1,m1⟩:=t;obtain⟨p1,p2,p3,p4,p5⟩:=hP;simp only at p1 p2 p3 p4 p5;left;have hle:=hxs _ (zh hk);have ht:∀x,x∈xs.take (k+1)↔x∈xs.take k\/x=xs[k]:=λx=>by rw[zx hk,zu,zp]
  simp only[ET,wp,hk,ul,wn,u5 hk,Yz,Kh hR hle];by_cases hv:xs[k]∈lv s
  .rw[zb (by simpa using hv)];by_cases hm:Mk m1 xs[k]
   .rw[za (by rw[show (z8 m1 xs[k]).getD false=true from hm];decide),o5];refine⟨(q1,m1),rfl,p1,λx=>?_,p3,p4,p5⟩;rw[p2,ht];constructor
    .rintro (a | ⟨a,b⟩);·exact .inl a
     .exact .inr ⟨.inl a,b⟩
    .rintro (a | ⟨a | rfl,b⟩);·exact .inl a
     .exact .inr ⟨a,b⟩
     .exact (p2 _).1 hm
   .have hm':(z8 m1 xs[k]).getD false=false:=by simpa[Mk] using hm
    have hroom:=p1.room hv hm;have hl24:=K9 hR;rw[zb (by rw[hm'];decide),IU (by rw[p1.cap];omega) (by omega),Yz,o5];refine⟨(⟨q1.L ++ [xs[k]],q1.Cap⟩,p8 m1 xs[k] true),rfl,⟨?_,p1.cap,λx hx=>?_,λx hx=>?_⟩,λx=>?_,λx hx=>?_,λx hx=>?_,?_⟩
    .simp only;rw[zbs];refine⟨p1.nd,by simp,λa ha b hb e=>?_⟩;rw[zp] at hb;subst hb;subst e;exact hm (p1.iu _ ha)
    .simp only[zu,zp] at hx;rw[dF];rcases hx with a | a
     .exact .inr (p1.iu x a)
     .exact .inl a
    .rcases (dF m1 xs[k] x).1 hx with rfl | a
     .exact hr _ (zh hk) hv
     .exact p1.rc x a
    .simp only;rw[dF,p2,ht];constructor
     .rintro (rfl | a | ⟨a,b⟩);·exact .inr ⟨.inr rfl,hv⟩
      .exact .inl a
      .exact .inr ⟨.inl a,b⟩
     .rintro (a | ⟨a | a,b⟩);·exact .inr (.inl a)
      .exact .inr (.inr ⟨a,b⟩)
      .exact .inl a
    .simp only[zu,zp];rcases (dF m1 xs[k] x).1 hx with a | a
     .exact .inr (.inr a)
     .rcases p3 x a with b | b
      .exact .inl b
      .exact .inr (.inl b)
    .simp only[zu];exact .inl (p4 x hx)
    .have:=RG hv hm;simp only[zL,List.length_singleton];omega
  .rw[za (by simpa using hv),o5];refine⟨(q1,m1),rfl,p1,λx=>?_,p3,p4,p5⟩;rw[p2,ht];constructor
   .rintro (a | ⟨a,b⟩);·exact .inl a
    .exact .inr ⟨.inl a,b⟩
   .rintro (a | ⟨a | rfl,b⟩);·exact .inl a
    .exact .inr ⟨a,b⟩
    .exact absurd b hv
 .obtain⟨q1,m1⟩:=t;refine⟨(q1,m1),?_,?_⟩;·simp only[ET,zbe,zbo,zC,t8]
  .simpa using hP
theorem BM(hF:FB s){l:List Int}(hl:LB l)(hlen:l.length<=1000000):∃m,fu s l=some m/\∀x,Mk m x↔rY s l x:=by
 unfold fu aY;simp only[jn,gz hR,Yz];have h24:=K9 hR;obtain⟨q0,m0,e0,i0,i1,i2,i3,i4⟩:=BE hR (l:=l) (xs:=l) (q:=⟨[],((lv s).length:Int)⟩) (m:=[]) hl hlen ⟨zb2,rfl,(λx hx=>by cases hx),(λx hx=>by simp[Mk,z8] at hx)⟩ (λx h1 h2=>.base h1 h2);rw[show lp _ _=_ from e0,Yz];simp only;have hu:Jp s []<=24:=zO (zB ..) h24;obtain⟨m,h1,h2⟩:=rz (s0:=(q0,m0)) (f:=λ((s70,s71):e6 × (List (Int × Bool)))=>
    (H5 s70).bind λv74=>
    if (decide (v74 > 0)) then
     (W5 s70).bind λv75=>
     (lU s v75.2.1).bind λv76=>
      (lp (ET s v76) (0,v75.1,s71)).bind λe97=>
      (some (.inl (e97.1,e97.2)):Option ((e6 × List (Int × Bool)) ⊕ List (Int × Bool)))
    else
    some (.inr s71)) (λt=>FR s l t.1 t.2/\(∀x∈l,x∈lv s->Mk t.2 x)/\∀a,Mk t.2 a->a∈t.1.L\/∀b∈outs s a,b∈lv s->Mk t.2 b) (λm=>∀x,Mk m x↔rY s l x) (λt=>2*Jp s t.2+t.1.L.length)
   ⟨i0,λx h1 h2=>(i1 x).2 (.inr ⟨h1,h2⟩),λa ha=>.inl ((i2 a ha).resolve_left (by simp[Mk,z8]))⟩ (by show 2*Jp s m0+q0.L.length<_;simp only[zaf] at i4;omega) (by
   rintro⟨q,m⟩ ⟨p1,p2,p3⟩;simp only at p1 p2 p3 |-;have hq:=Z3 p1.nd λx hx=>(p1.rc x (p1.iu x hx)).live;unfold H5;rw[Yz];cases hqL:q.L with
   | nil=>
    right;refine⟨m,by rw[za (by simp)],λx=>⟨p1.rc x,λh=>?_⟩⟩;induction h with
    | base a b=>exact p2 _ a b
    | step _ a b ih=>
     rcases p3 _ ih with c | c
     .rw[hqL] at c;cases c
     .exact c _ a b
   | cons a r=>
    left;have hqe:q=⟨a::r,q.Cap⟩:=by rw[<-hqL]
    have hal:a∈lv s:=(p1.rc a (p1.iu a (by rw[hqL];exact zg ..))).live;have ha:a<=9223372036854775807:=by have:=oZ hR hal;omega
    have hnd:=p1.nd;rw[hqL] at hnd hq;simp only[zH] at hq;obtain⟨q',m',e1,j0,j1,j2,j3,j4⟩:=BE hR (l:=l) (xs:=outs s a) (q:=⟨r,q.Cap⟩) (m:=m) (λx hx=>QR hR hF ha hx) (by have:=yx hR a ha;omega) ⟨(me.1 hnd).2,p1.cap,λx hx=>p1.iu x (by rw[hqL];exact zn _ hx),p1.rc⟩ (λx h1 h2=>.step (p1.rc a (p1.iu a (by rw[hqL];exact zg ..))) h1 h2);refine⟨(q',m'),?_,⟨j0,λx h1 h2=>(j1 x).2 (.inl (p2 x h1 h2)),λb hb=>?_⟩,?_⟩
    .rw[zb (by simp),hqe,NF (by omega),Yz];simp only;rw[Nt hR ha,Yz,e1,Yz]
    .simp only at hb |-;rcases j2 b hb with c | c
     .rcases p3 b c with d | d
      .rw[hqL] at d;rcases zM.1 d with rfl | d
       .exact .inr λy h1 h2=>(j1 y).2 (.inr ⟨h1,h2⟩)
       .exact .inl (j3 b d)
      .exact .inr λy h1 h2=>(j1 y).2 (.inl (d y h1 h2))
     .exact .inl c
    .show 2*Jp s m'+q'.L.length<2*Jp s m+(a::r).length;simp only[zH] at j4 |-;omega)
 refine⟨m,?_,h2⟩;rw[show lp _ _=_ from h1];rfl
end
theorem MA(l:List Int)(x:Int)(hl:l.length<=1000000):∃r:Int,H0 l x=some r/\(0<=r↔x∈l):=by
 unfold H0;simp only[jn];by_cases h:x∈l
 .obtain⟨i,hi,e⟩:=List.mem_iff_getElem.1 h;obtain⟨j,⟨hj,ej⟩,hmin⟩:=dz (p:=λi=>∃hi:i<l.length,l[i]=x) ⟨i,hi,e⟩;refine⟨(j:Int),?_,by simp[h]⟩;refine fU l.length (λk=>k<=j) (by omega) (zV _) (λk hk hP=>?_) (λhP=>by omega);simp only[wp,hk,ul,wn,u5 hk,Yz];rcases zE k j with q | q
  .refine .inl ⟨?_,q⟩;rw[za (by
    rw[pu];intro e;have:=hmin k ⟨hk,e.symm⟩;omega),o5]
  .have:k=j:=by omega
   subst this;exact .inr ⟨_,by rw[zb (by simpa using ej.symm)],rfl⟩
 .refine⟨-1,?_,by simp[h]⟩;refine fU l.length (λk=>True) (by omega) trivial (λk hk hP=>.inl ⟨?_,trivial⟩) (λhP=>⟨.inr (),by simp,rfl⟩);simp only[wp,hk,ul,wn,u5 hk,Yz];rw[za (by
   rw[pu];intro e;exact h (e▸zh hk)),o5]
theorem contains_eq(l:List Int)(x:Int)(hl:l.length<=1000000):E4 l x=some (decide (x∈l)):=by
 obtain⟨r,h1,h2⟩:=MA l x hl;unfold E4;rw[h1,Yz];congr 1;exact zbm.2 h2
section
variable{s:b6}(hR:wh (sO s))
include hR
open Classical in
theorem Ih (hF:FB s) {l:List Int} (hl:LB l) (hlen:l.length<=1000000):jG s l=some (GX s l):=by
 obtain⟨m,h1,h2⟩:=BM hR hF hl hlen;unfold jG W6 iT;rw[h1,Yz];simp only[jn,gz hR,Yz];have h24:=K9 hR;rw[U7 (lv s) (λacc x=>if decide (rY s l x) then acc ++ [x] else acc) id (λk acc=>acc.length<=k) (by omega) (by simp) (λk hk acc hb=>?_) (λb _=>?_)]
 .simp only[Yz,id];rw[foldl_filter];rfl
 .simp only[wp,hk,ul,wn,u5 hk,Yz];by_cases q:rY s l (lv s)[k]
  .rw[zb ((h2 _).2 q),zb (by simpa using q),K5 (by omega) (by simp;omega),Yz,o5];exact⟨rfl,by simp;omega⟩
  .rw[za (λk=>q ((h2 _).1 k)),za (by simpa using q),o5];exact⟨rfl,by omega⟩
 .simp only[zbe,zbo,zC,t8];rfl
open Classical in
theorem Qq (hF:FB s) {l:List Int} (hl:LB l) (hlen:l.length<=1000000):nj s l=some (lst s l):=by
 obtain⟨m,h1,h2⟩:=BM hR hF hl hlen;unfold nj W7 iU;rw[h1,Yz];simp only[jn,gz hR,Yz];have h24:=K9 hR;rw[U7 (lv s) (λacc x=>if decide (¬rY s l x) then acc ++ [x] else acc) id (λk acc=>acc.length<=k) (by omega) (by simp) (λk hk acc hb=>?_) (λb _=>?_)]
 .simp only[Yz,id];rw[foldl_filter];rfl
 .simp only[wp,hk,ul,wn,u5 hk,Yz];by_cases q:rY s l (lv s)[k]
  .have e:(z8 m (lv s)[k]).getD false=true:=(h2 _).2 q;rw[za (by rw[e];decide),za (by simpa using q),o5];exact⟨rfl,by omega⟩
  .have e:(z8 m (lv s)[k]).getD false=false:=by
    have:¬Mk m (lv s)[k]:=λk=>q ((h2 _).1 k);simpa[Mk] using this
   rw[zb (by rw[e];decide),zb (by simpa using q),K5 (by omega) (by simp;omega),Yz,o5];exact⟨rfl,by simp;omega⟩
 .simp only[zbe,zbo,zC,t8];rfl
end
abbrev Tb:=List g6
abbrev eN(p:g6):I4:=⟨p.State,p.Key,p.Val⟩
def pt(t:Tb)(j:Nat):g6:=t.getD j ⟨0,0,0⟩
theorem lN{t:Tb}{j:Nat}(h:j<t.length):pt t j=t[j]:=by unfold pt;rw[zd,zc h];rfl
theorem Ep{t:Tb}{j:Nat}(h:j<t.length):ix t (j:Int)=some (pt t j):=by rw[u5 h,lN h]
theorem yy{t:Tb}{i:Nat}(h:i<t.length)(p:g6)(j:Nat):pt (t.set i p) j=if j=i then p else pt t j:=by
 unfold pt;rw[zd,zd,List.getElem?_set];by_cases e:i=j
 .subst e;simp[h]
 .rw[za e,za (za0 e)]
def hm(n:Nat)(k:Int):Nat:=(w9 ((w9 (5*k))+1) % (n:Int)).toNat
theorem Sf{n:Nat}(h:1<=n)(k:Int):hm n k<n:=by
 unfold hm;have h1:=Int.emod_nonneg (w9 ((w9 (5*k))+1)) (show (n:Int)≠0 by omega);have h2:=Int.emod_lt_of_pos (w9 ((w9 (5*k))+1)) (show (0:Int)<n by omega);omega
theorem Io{n:Nat}(h:1<=n)(h2:n<=1000)(k:Int):dR n k=some (hm n k:Int):=by
 unfold dR hm;rw[za (by simp;omega)];generalize w9 ((w9 (5*k))+1)=a;have hp:=Int.emod_nonneg a (show (n:Int)≠0 by omega);have hl:=Int.emod_lt_of_pos a (show (0:Int)<n by omega);unfold rem;rw[za (by omega),Yz,Int.toNat_of_nonneg hp];rw[Int.tmod_eq_emod];split;·rw[show a % (n:Int)-((0:Nat):Int)=a % n by simp,za (by simp;omega)]
 .have:((n:Int).natAbs:Int)=n:=by simp
  rw[this];rw[zb (by simp;omega),T5 (by omega) (by omega)];congr 1;omega
def pos(n:Nat)(k:Int)(d:Nat):Nat:=(hm n k+d) % n
theorem rJ{n:Nat}(h:1<=n)(k:Int)(d:Nat):pos n k d<n:=Nat.mod_lt _ h
theorem SC{n:Nat}(h:1<=n)(h8:n<=8):n=1\/n=2\/n=3\/n=4\/n=5\/n=6\/n=7\/n=8:=by omega
theorem Na{n m i:Nat}(h:1<=n)(h8:n<=8)(hm:m<n)(hi:i<n):∃d,d<n/\(m+d) % n=i:=by
 refine⟨(i+n-m) % n,Nat.mod_lt _ h,?_⟩;rcases SC h h8 with rfl | rfl | rfl | rfl | rfl | rfl | rfl | rfl <;> omega
theorem QB{n m d d':Nat}(h:1<=n)(h8:n<=8)(hd:d<n)(hd':d'<n)(e:(m+d) % n=(m+d') % n):d=d':=by
 rcases SC h h8 with rfl | rfl | rfl | rfl | rfl | rfl | rfl | rfl <;> omega
theorem EP{n:Nat}(h:1<=n)(h8:n<=8)(k:Int){i:Nat}(hi:i<n):∃d,d<n/\pos n k d=i:=Na h h8 (Sf h k) hi
theorem QX{n:Nat}(h:1<=n)(h8:n<=8){k:Int}{d d':Nat}(hd:d<n)(hd':d'<n)(e:pos n k d=pos n k d'):d=d':=QB h h8 hd hd' e
structure HR (t:Tb):Prop where
 l1:1<=t.length
 l8:t.length<=8
 st:∀i,i<t.length->((pt t i).State=0\/(pt t i).State=1\/(pt t i).State=2)/\((pt t i).State≠1->(pt t i).Key=0/\(pt t i).Val=0)
 uq:∀i j,i<t.length->j<t.length->(pt t i).State=1->(pt t j).State=1->(pt t i).Key=(pt t j).Key->i=j
 rd:∀i,i<t.length->(pt t i).State=1->∀d,d<t.length->(∀d',d'<=d->pos t.length (pt t i).Key d'≠i)->(pt t (pos t.length (pt t i).Key d)).State≠0
def Fk(t:Tb)(k:Int)(i:Nat):Prop:=i<t.length/\(pt t i).State=1/\(pt t i).Key=k
instance(t:Tb)(k:Int)(i:Nat):Decidable (Fk t k i):=by unfold Fk;infer_instance
theorem step_eq{n:Nat}(h:1<=n)(h2:n<=1000)(k:Int){d:Nat}(hd:d<n):rem (w9 ((hm n k:Int)+d)) n=some ((pos n k d:Nat):Int):=by
 have:=Sf h k;rw[T5 (by omega) (by omega),Dh (by omega) (by omega)];unfold pos;simp[Int.natCast_emod]
theorem Bh{t:Tb}(h1:1<=t.length)(h8:t.length<=8)(k:Int) :
  (∃d,d<t.length/\(∀j,j<d->(pt t (pos t.length k j)).State≠0/\¬Fk t k (pos t.length k j))/\Fk t k (pos t.length k d)/\aT t k=some ((pos t.length k d:Nat):Int)) \/
  (∃d,d<=t.length/\(∀j,j<d->(pt t (pos t.length k j)).State≠0/\¬Fk t k (pos t.length k j))/\(d=t.length\/(pt t (pos t.length k d)).State=0)/\aT t k=some (-1)):=by
 unfold aT;simp only[jn,jb,Yz];generalize hq:(lp (S:=Int) (E:=Int ⊕ Unit) _ 0)=q;have body:∀d:Nat,d<t.length->(if (decide ((d:Int)<(t.length:Int))) then
    (dR (t.length:Int) k).bind λv14=>
    (rem (w9 (v14+d)) (t.length:Int)).bind λv15=>
    (ix t v15).bind λv16=>
    if (v16.State==0) then
     some (.inr (.inr ()))
    else
    if ((v16.State==1)&&(v16.Key==k)) then
     some (.inr (.inl v15))
    else
    some (.inl (w9 ((d:Int)+1)))
   else
   some (.inr (.inr ())):Option (Int ⊕ (Int ⊕ Unit)))=if (pt t (pos t.length k d)).State=0 then some (.inr (.inr ())) else if Fk t k (pos t.length k d) then some (.inr (.inl ((pos t.length k d:Nat):Int))) else some (.inl ((d+1:Nat):Int)):=λd hd=>by
  have hp:=rJ h1 k d;rw[zb (by simpa using hd),Io h1 (by omega),Yz,step_eq h1 (by omega) k hd,Yz,Ep hp,Yz,o5 (by omega)];by_cases a:(pt t (pos t.length k d)).State=0
  .rw[zb (by simpa using a),zb a]
  .rw[za (by simpa using a),za a];by_cases b:Fk t k (pos t.length k d)
   .rw[zb (by simp[b.2.1,b.2.2]),zb b]
   .rw[za (by simp;exact λh1 h2=>b ⟨hp,h1,h2⟩),za b]
 have key:=Bu (f:=λ(s12:Int)=>if (decide (s12<(t.length:Int))) then
    (dR (t.length:Int) k).bind λv14=>
    (rem (w9 (v14+s12)) (t.length:Int)).bind λv15=>
    (ix t v15).bind λv16=>
    if (v16.State==0) then
     some (.inr (.inr ()))
    else
    if ((v16.State==1)&&(v16.Key==k)) then
     some (.inr (.inl v15))
    else
    some (.inl (w9 (s12+1)))
   else
   some (.inr (.inr ()))) t.length (λd=>∀j,j<d->(pt t (pos t.length k j)).State≠0/\¬Fk t k (pos t.length k j))
   (λ(e:Int ⊕ Unit)=>(∃d,d<t.length/\(∀j,j<d->(pt t (pos t.length k j)).State≠0/\¬Fk t k (pos t.length k j))/\Fk t k (pos t.length k d)/\e = .inl ((pos t.length k d:Nat):Int)) \/
    (∃d,d<=t.length/\(∀j,j<d->(pt t (pos t.length k j)).State≠0/\¬Fk t k (pos t.length k j))/\(d=t.length\/(pt t (pos t.length k d)).State=0)/\e = .inr ())) (by omega) (λj hj=>by omega)
   (λd hd hP=>by
    rw[body d hd];by_cases a:(pt t (pos t.length k d)).State=0
    .rw[zb a];exact .inr ⟨_,rfl,.inr ⟨d,by omega,hP,.inr a,rfl⟩⟩
    .rw[za a];by_cases b:Fk t k (pos t.length k d)
     .rw[zb b];exact .inr ⟨_,rfl,.inl ⟨d,hd,hP,b,rfl⟩⟩
     .rw[za b];refine .inl ⟨rfl,λj hj=>?_⟩;rcases zE j d with q | q
      .exact hP j q
      .have:j=d:=by omega
       subst this;exact⟨a,b⟩)
   (λhP=>⟨.inr (),by simp,.inr ⟨t.length,zG _,hP,.inl rfl,rfl⟩⟩)
 obtain⟨e,he,hQ⟩:=key;rw[he] at hq;subst hq;rcases hQ with ⟨d,a1,a2,a3,rfl⟩ | ⟨d,a1,a2,a3,rfl⟩;·exact .inl ⟨d,a1,a2,a3,rfl⟩
 .exact .inr ⟨d,a1,a2,a3,rfl⟩
theorem sL{t:Tb}(hR:HR t){k:Int}{i:Nat}(hi:Fk t k i):aT t k=some (i:Int):=by
 obtain⟨di,hdi,hpi⟩:=EP hR.l1 hR.l8 k hi.1;have road:∀d,d<di->(pt t (pos t.length k d)).State≠0:=λd hd=>by
  have:=hR.rd i hi.1 hi.2.1 d (by omega) (λd' hd' e=>by
   rw[hi.2.2] at e;have:=QX hR.l1 hR.l8 (by omega) hdi (e.trans hpi.symm);omega)
  rwa [hi.2.2] at this
 rcases Bh hR.l1 hR.l8 k with ⟨d,a1,a2,a3,a4⟩ | ⟨d,a1,a2,a3,a4⟩;·rw[a4,hR.uq _ i (rJ hR.l1 k d) hi.1 a3.2.1 hi.2.1 (by rw[a3.2.2,hi.2.2])]
 .exfalso;rcases zE di d with q | q
  .exact (a2 di q).2 (by rw[hpi];exact hi)
  .rcases a3 with rfl | a3
   .omega
   .rcases zE d di with q' | q'
    .exact road d q' a3
    .have:d=di:=by omega
     subst this;rw[hpi,hi.2.1] at a3;cases a3
theorem sK{t:Tb}(h1:1<=t.length)(h8:t.length<=8){k:Int}(hi:∀i,¬Fk t k i):aT t k=some (-1):=by
 rcases Bh h1 h8 k with ⟨d,a1,a2,a3,a4⟩ | ⟨d,a1,a2,a3,a4⟩;·exact absurd a3 (hi _)
 .exact a4
theorem Bi(t:Tb)(k:Int):(∃i,Fk t k i)\/∀i,¬Fk t k i:=by
 by_cases h:∃i,Fk t k i
 .exact .inl h
 .exact .inr λi hi=>h ⟨i,hi⟩
theorem An{t:Tb}{i:Nat}(h8:t.length<=1000)(hi:i<t.length)(p:g6):dS t (i:Int) p=some (t.set i p):=by
 unfold dS E9;rw[dm (by omega) (by omega),Yz,u5 hi,Yz,zP]
inductive xo (t:Tb) (k v:Int):Tb × Int->Prop
 | old (i:Nat) (hi:Fk t k i):xo t k v (t.set i ⟨1,k,v⟩,0)
 | new (d:Nat) (hn:∀i,¬Fk t k i) (hd:d<t.length) (hb:∀j,j<d->(pt t (pos t.length k j)).State=1) (hf:(pt t (pos t.length k d)).State≠1):xo t k v (t.set (pos t.length k d) ⟨1,k,v⟩,0)
 | full (hn:∀i,¬Fk t k i) (ha:∀i,i<t.length->(pt t i).State=1):xo t k v (t,8)
theorem NI{t:Tb}(hR:HR t)(k v:Int):∃r,oQ t k v=some r/\xo t k v r:=by
 have h1:=hR.l1;have h8:=hR.l8;unfold oQ;rcases Bi t k with ⟨i,hi⟩ | hn
 .rw[sL hR hi,Yz,zb (by simp),An (by omega) hi.1];exact⟨_,rfl,.old i hi⟩
 .rw[sK h1 h8 hn,Yz,za (by decide)];simp only[jn,jb,Yz];have key:=Bu (f:=λ(s15:Int)=>
   if (decide (s15<(t.length:Int))) then
    (dR (t.length:Int) k).bind λv17=>
    (rem (w9 (v17+s15)) (t.length:Int)).bind λv18=>
    (ix t v18).bind λv19=>
    if (v19.State != 1) then
     (dS t v18 (⟨1,k,v⟩:g6)).bind λv20=>
     some (Sum.inr (.inl (v20,(0:Int))))
    else
    some (.inl (w9 (s15+1)))
   else
   some (.inr (.inr ()))) t.length (λd=>∀j,j<d->(pt t (pos t.length k j)).State=1)
   (λ(e:(Tb × Int) ⊕ Unit)=>(∃r,e = .inl r/\xo t k v r)\/(e = .inr ()/\xo t k v (t,8))) (by omega) (λj hj=>by omega)
   (λd hd hP=>by
    have hp:=rJ h1 k d;rw[zb (by simpa using hd),Io h1 (by omega),Yz,step_eq h1 (by omega) k hd,Yz,Ep hp,Yz];by_cases a:(pt t (pos t.length k d)).State=1
    .rw[za (by simpa using a),o5 (by omega)];refine .inl ⟨rfl,λj hj=>?_⟩;rcases zE j d with q | q
     .exact hP j q
     .have:j=d:=by omega
      subst this;exact a
    .rw[zb (by simpa using a),An (by omega) hp,Yz];exact .inr ⟨_,rfl,.inl ⟨_,rfl,.new d hn hd hP a⟩⟩)
   (λhP=>⟨.inr (),by simp,.inr ⟨rfl,.full hn λi hi=>by
    obtain⟨d,hd,rfl⟩:=EP h1 h8 k hi;exact hP d hd⟩⟩)
  obtain⟨e,he,hQ⟩:=key;rw[he,Yz];rcases hQ with ⟨r,rfl,hr⟩ | ⟨rfl,hr⟩;·exact⟨r,rfl,hr⟩
  .exact⟨_,rfl,hr⟩
theorem Mo{t:Tb}(hR:HR t){k:Int}{i:Nat}(hi:Fk t k i):Y6 t k=some ((pt t i).Val,0):=by
 unfold Y6;rw[sL hR hi,Yz,za (by simp),Ep hi.1,Yz]
theorem Mn{t:Tb}(hR:HR t){k:Int}(hi:∀i,¬Fk t k i):Y6 t k=some (0,9):=by
 unfold Y6;rw[sK hR.l1 hR.l8 hi,Yz,zb (by decide)]
theorem sF{t:Tb}(hR:HR t){k:Int}{i:Nat}(hi:Fk t k i):aS t k=some (t.set i ⟨2,0,0⟩,(pt t i).Val,0):=by
 have:=hR.l8;unfold aS;rw[sL hR hi,Yz,za (by simp),An (by omega) hi.1,Yz,Ep hi.1,Yz]
theorem sD{t:Tb}(hR:HR t){k:Int}(hi:∀i,¬Fk t k i):aS t k=some (t,0,9):=by
 unfold aS;rw[sK hR.l1 hR.l8 hi,Yz,zb (by decide)]
theorem HR.set{t:Tb}(hR:HR t){i:Nat}(hi:i<t.length){p:g6}(h0:p.State=1\/p=⟨2,0,0⟩)
  (hu:p.State=1->∀j,j≠i->¬Fk t p.Key j)(hr:p.State=1->∀d,d<t.length->(∀d',d'<=d->pos t.length p.Key d'≠i)->(pt t (pos t.length p.Key d)).State≠0):HR (t.set i p):=by
 have hnz:p.State≠0:=by
  rcases h0 with h | rfl
  .omega
  .simp
 refine⟨by simpa using hR.l1,by simpa using hR.l8,λj hj=>?_,λj j' hj hj' s1 s2 hk=>?_,λj hj s1 d hd hne=>?_⟩ <;> simp only[zap] at *
 .rw[yy hi];split
  .rcases h0 with h | rfl
   .exact⟨.inr (.inl h),λq=>absurd h q⟩
   .exact⟨.inr (.inr rfl),λ_=>⟨rfl,rfl⟩⟩
  .exact hR.st j hj
 .rw[yy hi] at s1 s2 hk;rw[yy hi] at hk;by_cases e1:j=i <;> by_cases e2:j'=i
  .rw[e1,e2]
  .rw[zb e1] at s1 hk;rw[za e2] at s2 hk;exact absurd ⟨hj',s2,hk.symm⟩ (hu s1 j' e2)
  .rw[za e1] at s1 hk;rw[zb e2] at s2 hk;exact absurd ⟨hj,s1,hk⟩ (hu s2 j e1)
  .rw[za e1] at s1 hk;rw[za e2] at s2 hk;exact hR.uq j j' hj hj' s1 s2 hk
 .simp only[yy hi] at s1 hne |-;by_cases e1:j=i
  .simp only[zb e1] at s1 hne |-;split;·exact hnz
   .exact hr s1 d hd (by rw[<-e1];exact hne)
  .simp only[za e1] at s1 hne |-;split;·exact hnz
   .exact hR.rd j hj s1 d hd hne
theorem yz{t:Tb}(hR:HR t){k v:Int}{r:Tb × Int}(h:xo t k v r):HR r.1:=by
 cases h with
 | old i hi=>
  refine hR.set hi.1 (.inl rfl) (λ_ j hj q=>hj (hR.uq j i q.1 hi.1 q.2.1 hi.2.1 (q.2.2.trans hi.2.2.symm))) λ_ d hd hne=>?_;have:=hR.rd i hi.1 hi.2.1 d hd (by rw[hi.2.2];exact hne);rwa [hi.2.2] at this
 | new d hn hd hb hf=>
  refine hR.set (rJ hR.l1 k d) (.inl rfl) (λ_ j _=>hn j) λ_ d' hd' hne=>?_;rcases zE d' d with q | q
  .have:=hb d' q;simp only;omega
  .exact absurd rfl (hne d q)
 | full hn ha=>exact hR
theorem oC{t:Tb}(hR:HR t){i:Nat}(hi:i<t.length):HR (t.set i ⟨2,0,0⟩):=hR.set hi (.inr rfl) (λq=>by cases q) λq=>by cases q
theorem Xk{t:Tb}{j:Nat}(h:j<t.length):ix (t.map eN) (j:Int)=some (eN (pt t j)):=by rw[tp,Ep h];rfl
theorem NP{t:Tb}(h8:t.length<=1000){k:Int}{i:Nat}(hi:Fk t k i)(hf:∀j,j<i->¬Fk t k j):lS (t.map eN) k=some (i:Int):=by
 unfold lS;simp only[jn];refine fU t.length (λj=>j<=i) (by omega) (zV _) (λj hj hP=>?_) (λhP=>by have:=hi.1;omega);rw[zb (by simpa using hj),Xk hj,Yz];by_cases e:j=i
 .subst e;exact .inr ⟨.inl (j:Int),by rw[zb (by simp[eN,hi.2.1,hi.2.2])],rfl⟩
 .have:=hf j (by omega);refine .inl ⟨by rw[za (by simp[eN];exact λh1 h2=>this ⟨hj,h1,h2⟩),o5 (by omega)],by omega⟩
theorem NO{t:Tb}(h8:t.length<=1000){k:Int}(hf:∀j,¬Fk t k j):lS (t.map eN) k=some (-1):=by
 unfold lS;simp only[jn];refine fU t.length (λj=>True) (by omega) trivial (λj hj hP=>?_) (λhP=>⟨.inr (),by simp,rfl⟩);rw[zb (by simpa using hj),Xk hj,Yz];refine .inl ⟨by rw[za (by simp[eN];exact λh1 h2=>hf j ⟨hj,h1,h2⟩),o5 (by omega)],trivial⟩
theorem Mg{t:Tb}{k:Int}(h:∃i,Fk t k i):∃i,Fk t k i/\∀j,j<i->¬Fk t k j:=by
 obtain⟨i,h1,h2⟩:=dz h;exact⟨i,h1,λj hj q=>by have:=h2 j q;omega⟩
theorem KN{t:Tb}{i:Nat}(h8:t.length<=1000)(hi:i<t.length)(p:g6):yD (t.map eN) (i:Int) (eN p)=some ((t.set i p).map eN):=by
 unfold yD;rw[dm (by omega) (by simp;omega),Yz,Xk hi,Yz,zP,zco]
def Has(t:Tb)(k v:Int):Prop:=∃i,Fk t k i/\(pt t i).Val=v
theorem TI{t:Tb}{k:Int}:(∀v,¬Has t k v)↔∀i,¬Fk t k i:=by
 constructor;·intro h i hi;exact h _ ⟨i,hi,rfl⟩
 .rintro h v ⟨i,hi,_⟩;exact h i hi
theorem TJ(t:Tb)(k:Int):(∃v,Has t k v)\/∀v,¬Has t k v:=by
 by_cases h:∃v,Has t k v
 .exact .inl h
 .exact .inr λv hv=>h ⟨v,hv⟩
theorem Has.fn{t:Tb}(hR:HR t){k v v':Int}(h:Has t k v)(h':Has t k v'):v=v':=by
 obtain⟨i,a,rfl⟩:=h;obtain⟨j,b,rfl⟩:=h';rw[hR.uq i j a.1 b.1 a.2.1 b.2.1 (a.2.2.trans b.2.2.symm)]
theorem Ij{t:Tb}(hR:HR t){k v:Int}(h:Has t k v):Y6 t k=some (v,0):=by
 obtain⟨i,a,rfl⟩:=h;exact Mo hR a
theorem Kf{t:Tb}(hR:HR t){k:Int}(h:∀v,¬Has t k v):Y6 t k=some (0,9):=Mn hR (TI.1 h)
theorem Cz{t:Tb}{i:Nat}(hi:i<t.length){k v:Int}(p:g6)(h:∀j,j≠i->Fk t p.Key j->p.State≠1)(k' v':Int) :
  Has (t.set i p) k' v'↔(p.State=1/\p.Key=k'/\p.Val=v')\/∃j,j≠i/\Fk t k' j/\(pt t j).Val=v':=by
 unfold Has Fk;simp only[zap,yy hi];constructor
 .rintro⟨j,⟨h1,h2,h3⟩,h4⟩;by_cases e:j=i
  .rw[zb e] at h2 h3 h4;exact .inl ⟨h2,h3,h4⟩
  .rw[za e] at h2 h3 h4;exact .inr ⟨j,e,⟨h1,h2,h3⟩,h4⟩
 .rintro (⟨h1,h2,h3⟩ | ⟨j,e,⟨h1,h2,h3⟩,h4⟩);·exact⟨i,by simp[hi,h1,h2,h3]⟩
  .exact⟨j,by simp[e,h1,h2,h3,h4]⟩
theorem xb{t:Tb}(hR:HR t){k v:Int}{r:Tb × Int}(h:xo t k v r)(h0:r.2=0)(k' v':Int):Has r.1 k' v'↔(k'=k/\v'=v)\/(k'≠k/\Has t k' v'):=by
 cases h with
 | old i hi=>
  rw[Cz (k:=k) (v:=v) hi.1 _ (λj hj q=>absurd (hR.uq j i q.1 hi.1 q.2.1 hi.2.1 (q.2.2.trans hi.2.2.symm)) hj)];constructor
  .rintro (⟨_,rfl,rfl⟩ | ⟨j,e,h1,h2⟩);·exact .inl ⟨rfl,rfl⟩
   .refine .inr ⟨λq=>?_,j,h1,h2⟩;subst q;exact e (hR.uq j i h1.1 hi.1 h1.2.1 hi.2.1 (h1.2.2.trans hi.2.2.symm))
  .rintro (⟨rfl,rfl⟩ | ⟨e,j,h1,h2⟩);·exact .inl ⟨rfl,rfl,rfl⟩
   .refine .inr ⟨j,λq=>?_,h1,h2⟩;subst q;exact e (h1.2.2.symm.trans hi.2.2)
 | new d hn hd hb hf=>
  rw[Cz (k:=k) (v:=v) (rJ hR.l1 k d) _ (λj hj q=>absurd q (hn j))];constructor
  .rintro (⟨_,rfl,rfl⟩ | ⟨j,e,h1,h2⟩);·exact .inl ⟨rfl,rfl⟩
   .refine .inr ⟨λq=>?_,j,h1,h2⟩;subst q;exact hn j h1
  .rintro (⟨rfl,rfl⟩ | ⟨e,j,h1,h2⟩);·exact .inl ⟨rfl,rfl,rfl⟩
   .refine .inr ⟨j,λq=>?_,h1,h2⟩;subst q;exact hf h1.2.1
 | full hn ha=>cases h0
theorem sC{t:Tb}(hR:HR t){k:Int}{i:Nat}(hi:Fk t k i)(k' v':Int):Has (t.set i ⟨2,0,0⟩) k' v'↔k'≠k/\Has t k' v':=by
 rw[Cz (k:=k) (v:=0) hi.1 _ (λj hj q=>by simp)];constructor
 .rintro (⟨h,_⟩ | ⟨j,e,h1,h2⟩);·cases h
  .refine⟨λq=>?_,j,h1,h2⟩;subst q;exact e (hR.uq j i h1.1 hi.1 h1.2.1 hi.2.1 (h1.2.2.trans hi.2.2.symm))
 .rintro⟨e,j,h1,h2⟩;refine .inr ⟨j,λq=>?_,h1,h2⟩;subst q;exact e (h1.2.2.symm.trans hi.2.2)
def keys(t:Tb):List Int:=(t.filter (·.State==1)).map (·.Key)
theorem Gw{α β:Type}(p:α->Bool)(f:α->β)(l:List α)(k:Nat)(h:k<l.length):((l.take (k+1)).filter p).map f=((l.take k).filter p).map f++(if p l[k] then [f l[k]] else []):=by
 rw[zx h,zbb,mt];congr 1;simp only[or,List.filter_nil];split <;> rfl
theorem keys_eq{t:Tb}(h:t.length<=1000):lA t=some (keys t):=by
 unfold lA keys;simp only[jn];refine ca t.length (λk l=>l=((t.take k).filter (·.State==1)).map (·.Key)) (by omega) (by simp) ?_ (λl hl=>⟨_,by simp;rfl,by rw[hl,zU]⟩);rintro k l hk rfl;left;rw[Gw _ _ _ _ hk];rw[zb (by simpa using hk),u5 hk,Yz,o5 (by omega)];have hle:(List.map (·.Key) (List.filter (·.State==1) (List.take k t))).length<=1000:=by
  rw[zl];exact zO (zB ..) (by simp;omega)
 by_cases c:(t[k].State==1)=true
 .rw[zb c,zb c,K5 (by omega) (by simp only[zH,zaf];omega),Yz];exact⟨_,rfl,rfl⟩
 .rw[za c,za c];exact⟨_,rfl,by simp⟩
theorem NN{t:Tb}(hR:HR t)(k:Int):lS (t.map eN) k=aT t k:=by
 have h8:=hR.l8;rcases Bi t k with ⟨i,hi⟩ | hn
 .rw[sL hR hi];obtain⟨f,hf1,hf2⟩:=Mg ⟨i,hi⟩;rw[NP (by omega) hf1 hf2,hR.uq f i hf1.1 hi.1 hf1.2.1 hi.2.1 (hf1.2.2.trans hi.2.2.symm)]
 .rw[sK hR.l1 hR.l8 hn,NO (by omega) hn]
theorem US{t:Tb}(hR:HR t)(k:Int):tS (t.map eN) k=(aS t k).map λr=>(r.1.map eN,r.2):=by
 have h8:=hR.l8;rcases Bi t k with ⟨i,hi⟩ | hn
 .rw[sF hR hi];unfold tS;rw[NN hR,sL hR hi,Yz,za (by simp)];have:=KN (t:=t) (by omega) hi.1 ⟨2,0,0⟩;dsimp only[eN] at this;rw[this,Yz,Xk hi.1];rfl
 .rw[sD hR hn];unfold tS;rw[NN hR,sK hR.l1 hR.l8 hn];rfl
theorem EU{t:Tb}{k v:Int}{r:Tb × Int}(h:xo t k v r):r.1.length=t.length:=by cases h <;> simp
theorem jz(t:Tb):(keys t).length=t.countP (·.State==1):=by
 unfold keys;rw[zl,zbv]
theorem tq{t:Tb}{i:Nat}(h:i<t.length)(p:g6):(keys (t.set i p)).length+(if (pt t i).State=1 then 1 else 0)=(keys t).length+if p.State=1 then 1 else 0:=by
 rw[jz,jz,List.countP_set h,lN h];simp only[pu];have:(if t[i].State=1 then 1 else 0)<=t.countP λc=>c.State==1:=by
  split
  .rename_i e;exact zbw.2 ⟨t[i],zh h,by simpa using e⟩
  .exact zV _
 omega
theorem Ki{t:Tb}(h:∀i,i<t.length->(pt t i).State=1):(keys t).length=t.length:=by
 rw[jz,List.countP_eq_length];intro a ha;obtain⟨i,hi,rfl⟩:=wt ha;have:=h i hi;rw[lN hi] at this;simpa using this
theorem Qk{t:Tb}{i:Nat}(hi:i<t.length)(h:(pt t i).State≠1):(keys t).length<t.length:=by
 have h1:(keys t).length<=t.length:=by rw[jz];exact zci
 rcases zE (keys t).length t.length with q | q
 .exact q
 .exfalso;have e:(keys t).length=t.length:=by omega
  rw[jz,List.countP_eq_length] at e;have:=e t[i] (zh hi);rw[lN hi] at h;exact h (by simpa using this)
structure TM {V:Type} (φ:V->Int->Prop) (t:Tb) (m:List (Int × V)):Prop where
 R:HR t
 nd:(m.map (·.1)).Nodup
 len:(keys t).length=m.length
 has:∀k,(∀v,Has t k v->∃u,z8 m k=some u/\φ u v)/\((z8 m k).isSome=true->∃v,Has t k v)
theorem TM.some{V:Type}{φ:V->Int->Prop}{t:Tb}{m:List (Int × V)}(h:TM φ t m)(k:Int):(∃v u,Has t k v/\z8 m k=some u/\φ u v)\/(z8 m k=none/\∀v,¬Has t k v):=by
 rcases TJ t k with ⟨v,hv⟩ | hn
 .obtain⟨u,h1,h2⟩:=(h.has k).1 v hv;exact .inl ⟨v,u,hv,h1,h2⟩
 .refine .inr ⟨?_,hn⟩;cases hq:z8 m k with
  | none=>rfl
  | some u=>
   obtain⟨v,hv⟩:=(h.has k).2 (by rw[hq];rfl);exact absurd hv (hn v)
theorem TM.put{V:Type}{φ:V->Int->Prop}{t:Tb}{m:List (Int × V)}(h:TM φ t m)(k v:Int)(u:V)(hφ:φ u v):∃r,oQ t k v = .some r/\r.1.length=t.length/\((r.2=0/\TM φ r.1 (p8 m k u)/\((z8 m k).isSome=true\/m.length<t.length))\/(r=(t,8)/\(z8 m k)=none/\m.length=t.length)):=by
 obtain⟨r,hr,hp⟩:=NI h.R k v;refine⟨r,hr,EU hp,?_⟩;have hRr:=yz h.R hp;by_cases h0:r.2=0
 .left;have hh:=xb h.R hp h0;have hmem:∀k',(∀w,Has r.1 k' w->∃x,z8 (p8 m k u) k' = .some x/\φ x w)/\((z8 (p8 m k u) k').isSome=true->∃w,Has r.1 k' w):=λk'=>by
   rw[pU];by_cases e:k'=k
   .subst e;rw[zb rfl];refine⟨λw hw=>?_,λ_=>⟨v,(hh _ _).2 (.inl ⟨rfl,rfl⟩)⟩⟩;rcases (hh _ _).1 hw with ⟨_,rfl⟩ | ⟨q,_⟩;·exact⟨u,rfl,hφ⟩
    .exact absurd rfl q
   .rw[za e];refine⟨λw hw=>?_,λq=>?_⟩
    .rcases (hh _ _).1 hw with ⟨q,_⟩ | ⟨_,q⟩;·exact absurd q e
     .exact (h.has k').1 w q
    .obtain⟨w,hw⟩:=(h.has k').2 q;exact⟨w,(hh _ _).2 (.inr ⟨e,hw⟩)⟩
  have hlen:(keys r.1).length=(p8 m k u).length/\((z8 m k).isSome=true\/m.length<t.length):=by
   rw[Nb];cases hp with
   | old i hi=>
    have h1:(z8 m k).isSome=true:=by
     obtain⟨x,h1,_⟩:=(h.has k).1 _ ⟨i,hi,rfl⟩;rw[h1];rfl
    have:=tq hi.1 ⟨1,k,v⟩;rw[zb hi.2.1,zb rfl,h.len] at this;rw[zb h1];exact⟨by simp only;omega,.inl h1⟩
   | new d hn hd hb hf=>
    have h1:(z8 m k)=none:=by
     rcases h.some k with ⟨w,x,hw,_⟩ | ⟨q,_⟩
     .obtain⟨i,hi,_⟩:=hw;exact absurd hi (hn i)
     .exact q
    have hlt:=rJ h.R.l1 k d;have:=tq hlt ⟨1,k,v⟩;rw[za hf,zb rfl,h.len] at this;rw[h1];have h2:=Qk hlt hf;rw[h.len] at h2;exact⟨by simpa using this,.inr h2⟩
   | full hn ha=>cases h0
  exact⟨h0,⟨hRr,GI h.nd k u,hlen.1,hmem⟩,hlen.2⟩
 .right;cases hp with
  | old i hi=>exact absurd rfl h0
  | new d hn hd hb hf=>exact absurd rfl h0
  | full hn ha=>
   refine⟨rfl,?_,?_⟩
   .rcases h.some k with ⟨w,x,hw,_⟩ | ⟨q,_⟩
    .obtain⟨i,hi,_⟩:=hw;exact absurd hi (hn i)
    .exact q
   .rw[<-h.len,Ki ha]
theorem TM.drop{V:Type}{φ:V->Int->Prop}{t:Tb}{m:List (Int × V)}(h:TM φ t m)(k:Int):(∃r v u,aS t k = .some (r,v,0)/\r.length=t.length/\z8 m k = .some u/\φ u v/\TM φ r (uU m k))\/(aS t k = .some (t,0,9)/\z8 m k=none/\uU m k=m):=by
 rcases Bi t k with ⟨i,hi⟩ | hn
 .left;obtain⟨u,h1,h2⟩:=(h.has k).1 _ ⟨i,hi,rfl⟩;refine⟨_,_,u,sF h.R hi,by simp,h1,h2,oC h.R hi.1,(MV m k).nodup h.nd,?_,λk'=>?_⟩
  .have:=tq hi.1 ⟨2,0,0⟩;rw[zb hi.2.1,za (by decide),h.len] at this;rw[MU,h1];simp only[Option.isSome_some,wn];omega
  .have hh:=sC h.R hi;rw[Kr h.nd];by_cases e:k'=k
   .subst e;rw[zb rfl];exact⟨λw hw=>absurd rfl ((hh _ _).1 hw).1,λq=>by cases q⟩
   .rw[za e];refine⟨λw hw=>(h.has k').1 w ((hh _ _).1 hw).2,λq=>?_⟩;obtain⟨w,hw⟩:=(h.has k').2 q;exact⟨w,(hh _ _).2 ⟨e,hw⟩⟩
 .right;have h1:z8 m k=none:=by
   rcases h.some k with ⟨w,x,hw,_⟩ | ⟨q,_⟩
   .obtain⟨i,hi,_⟩:=hw;exact absurd hi (hn i)
   .exact q
  refine⟨sD h.R hn,h1,?_⟩;have:∀(l:List (Int × V)),z8 l k=none->uU l k=l:=by
   intro l;induction l with
   | nil=>intro _;rfl
   | cons p l ih=>
    intro q;unfold z8 at q;unfold uU;by_cases e:k=p.1
    .rw[zb (by simpa using e)] at q;cases q
    .rw[za (by simpa using e)] at q;rw[za (by simpa using e),ih q]
  exact this m h1
theorem Uj{n:Nat}(h1:1<=n)(h8:n<=8):sY (n:Int)=some (List.replicate n ⟨0,0,0⟩):=by
 unfold sY;rw[za (by simp;omega),ky (by omega) (by omega)];rfl
theorem vj{n j:Nat}:pt (List.replicate n ⟨0,0,0⟩) j=⟨0,0,0⟩:=by
 unfold pt;rw[zd,List.getElem?_replicate];split <;> rfl
theorem Vm{V:Type}(φ:V->Int->Prop){n:Nat}(h1:1<=n)(h8:n<=8):TM φ (List.replicate n ⟨0,0,0⟩) []:=by
 refine⟨⟨by simpa using h1,by simpa using h8,λi hi=>?_,λi j hi hj s=>?_,λi hi s=>?_⟩,by simp,?_,λk=>⟨λv hv=>?_,λq=>by cases q⟩⟩;·rw[vj];exact⟨.inl rfl,λ_=>⟨rfl,rfl⟩⟩
 .rw[vj] at s;cases s
 .rw[vj] at s;cases s
 .rw[jz,List.countP_replicate];rfl
 .obtain⟨i,hi,_⟩:=hv;have:=hi.2.1;rw[vj] at this;cases this
def jE(t:Tb):List k7:=(t.filter (·.State==1)).map λp=>⟨p.Key,p.Val⟩
theorem yg(t:Tb):keys t=(jE t).map (·.Key):=by
 unfold keys jE;rw[za2];rfl
theorem iS(t:Tb):(jE t).length=(keys t).length:=by rw[yg,zl]
theorem rK{t:Tb}(h:t.length<=8):(jE t).length<=8:=by
 rw[iS,jz];exact zO zci h
theorem cg{t:Tb}{p:k7}:p∈jE t↔Has t p.Key p.Val:=by
 unfold jE Has;rw[zq];constructor
 .rintro⟨q,hq,rfl⟩;obtain⟨h1,h2⟩:=zk.1 hq;obtain⟨i,hi,rfl⟩:=wt h1;refine⟨i,⟨hi,?_,?_⟩,?_⟩ <;> rw[lN hi]
  simpa using h2
 .rintro⟨i,⟨hi,h1,h2⟩,h3⟩;rw[lN hi] at h1 h2 h3;refine⟨t[i],zk.2 ⟨zh hi,by simpa using h1⟩,?_⟩;cases p;simp at h2 h3 |-;exact⟨h2,h3⟩
theorem IT{t:Tb}(hR:HR t){j:Nat}(h:j<(jE t).length):Y6 t (jE t)[j].Key=some ((jE t)[j].Val,0):=Ij hR (cg.1 (zh h))
theorem RV{E R:Type}{x:Option E}{r:E}{κ:E->Option R}{y:Option R}(h:x=some r)(hy:κ r=y):((x.bind λe=>some e).bind κ)=y:=by rw[h];exact hy
theorem NC{t:Tb}(hR:HR t):ki t=some (jE t):=by
 have h8:=hR.l8;have hp:=rK h8;unfold ki B3 dO gy;simp only[jn,Yz];rw[keys_eq (by omega),Yz];refine RV (qh (jA (jE t).length (λk l=>l=(jE t).take k) (λe=>e=jE t) (by omega) (by simp) ?_ ?_)) rfl
 .rintro k l hk rfl;refine .inl ⟨_,?_,rfl⟩;dsimp only;rw[zb (by rw[<-iS];simpa using hk),u5 (by rw[<-iS];exact hk),Yz];have e:(keys t)[k]'(by rw[<-iS];exact hk)=(jE t)[k].Key:=by simp[yg]
  rw[e,IT hR hk,Yz,zb (by trivial),K5 (by omega) (by simp;omega),Yz,o5 (by omega),zx hk]
 .rintro l rfl;exact⟨_,by rw[<-iS];simp;rfl,by simp⟩
def own(t:Tb)(h:Int):Nat:=(jE t).countP λp=>(h != 0)&&(p.Val==h)
theorem Nx{t:Tb}(hR:HR t)(h:Int):kh t h=some (own t h:Int):=by
 have h8:=hR.l8;have hp:=rK h8;unfold kh B2 dO gx;simp only[jn,Yz];rw[keys_eq (by omega),Yz];refine RV (r:=(jE t).filter λp=>(h != 0)&&(p.Val==h)) (qh (jA (jE t).length (λk l=>l=((jE t).take k).filter λp=>(h != 0)&&(p.Val==h)) (λe=>e=(jE t).filter λp=>(h != 0)&&(p.Val==h)) (by omega) (by simp) ?_ ?_)) (by unfold own;rw[zbv])
 .rintro k l hk rfl;refine .inl ⟨((jE t).take (k+1)).filter λp=>(h != 0)&&(p.Val==h),?_,rfl⟩;dsimp only;rw[zb (by rw[<-iS];simpa using hk),u5 (by rw[<-iS];exact hk),Yz];have e:(keys t)[k]'(by rw[<-iS];exact hk)=(jE t)[k].Key:=by simp[yg]
  have hle:(((jE t).take k).filter λp=>(h != 0)&&(p.Val==h)).length<=8:=zO (zB ..) (by simp;omega);rw[e,IT hR hk,Yz,o5 (by omega),zx hk,zbb,or,List.filter_nil];by_cases c:((h != 0)&&((jE t)[k].Val==h))=true
  .rw[zb c,zb c,K5 (by omega) (by simp only[zH,zaf];omega),Yz]
  .rw[za c,za c,zau]
 .rintro l rfl;exact⟨_,by rw[<-iS];simp;rfl,by simp⟩
theorem dK{t:Tb}(hR:HR t)(k v:Int):∃r,U3 t k v=some r/\HR r.1/\r.1.length=t.length /\
  ((k=0/\r=(t,0,2))\/(k≠0/\v=0/\((∃i,Fk t k i/\r=(t.set i ⟨2,0,0⟩,(pt t i).Val,0))\/((∀i,¬Fk t k i)/\r=(t,0,0)))) \/
   (k≠0/\v≠0/\((∃i,Fk t k i/\r=(t.set i ⟨1,k,v⟩,(pt t i).Val,0))\/(∃d,(∀i,¬Fk t k i)/\d<t.length/\(pt t d).State≠1/\xo t k v (t.set d ⟨1,k,v⟩,0)/\r=(t.set d ⟨1,k,v⟩,0,0))\/((∀i,¬Fk t k i)/\(∀i,i<t.length->(pt t i).State=1)/\r=(t,0,8))))):=by
 unfold U3;by_cases hk:k=0
 .rw[zb (by simpa using hk)];exact⟨_,rfl,hR,rfl,.inl ⟨hk,rfl⟩⟩
 .rw[za (by simpa using hk)];obtain⟨g,hg,hgv⟩:∃g,Y6 t k=some g/\((∃i,Fk t k i/\g=((pt t i).Val,0))\/((∀i,¬Fk t k i)/\g=(0,9))):=by
   rcases Bi t k with ⟨i,hi⟩ | hn;·exact⟨_,Mo hR hi,.inl ⟨i,hi,rfl⟩⟩
   .exact⟨_,Mn hR hn,.inr ⟨hn,rfl⟩⟩
  rw[hg,Yz];by_cases hv:v=0
  .rw[zb (by simpa using hv)];rcases hgv with ⟨i,hi,rfl⟩ | ⟨hn,rfl⟩
   .rw[sF hR hi,Yz];exact⟨_,rfl,oC hR hi.1,by simp,.inr (.inl ⟨hk,hv,.inl ⟨i,hi,rfl⟩⟩)⟩
   .rw[sD hR hn,Yz];exact⟨_,rfl,hR,rfl,.inr (.inl ⟨hk,hv,.inr ⟨hn,rfl⟩⟩)⟩
  .rw[za (by simpa using hv)];obtain⟨r,hr,hp⟩:=NI hR k v;rw[hr,Yz];have hRr:=yz hR hp;have hl:=EU hp;have hp':=hp;cases hp with
   | old i hi=>
    rcases hgv with ⟨j,hj,rfl⟩ | ⟨hn,rfl⟩
    .rw[hR.uq j i hj.1 hi.1 hj.2.1 hi.2.1 (hj.2.2.trans hi.2.2.symm)];exact⟨_,rfl,hRr,hl,.inr (.inr ⟨hk,hv,.inl ⟨i,hi,rfl⟩⟩)⟩
    .exact absurd hi (hn i)
   | new d hn hd hb hf=>
    rcases hgv with ⟨j,hj,rfl⟩ | ⟨_,rfl⟩;·exact absurd hj (hn j)
    .exact⟨_,rfl,hRr,hl,.inr (.inr ⟨hk,hv,.inr (.inl ⟨_,hn,rJ hR.l1 k d,hf,hp',rfl⟩)⟩)⟩
   | full hn ha=>exact⟨_,rfl,hR,rfl,.inr (.inr ⟨hk,hv,.inr (.inr ⟨hn,ha,rfl⟩)⟩)⟩
theorem BD(t:Tb)(h:Int):own t h=t.countP λp=>(p.State==1)&&((h != 0)&&(p.Val==h)):=by
 unfold own jE;rw[List.countP_map,List.countP_filter];congr 1;funext p
 simp[Bool.and_comm]
theorem IS{t:Tb}{i:Nat}(hi:i<t.length)(p:g6)(h:Int):own (t.set i p) h+(if (((pt t i).State==1)&&((h != 0)&&((pt t i).Val==h)))=true then 1 else 0)=own t h+if ((p.State==1)&&((h != 0)&&(p.Val==h)))=true then 1 else 0:=by
 rw[BD,BD,List.countP_set hi,lN hi];have:(if ((t[i].State==1)&&((h != 0)&&(t[i].Val==h)))=true then 1 else 0)<=t.countP λp=>(p.State==1)&&((h != 0)&&(p.Val==h)):=by
  split
  .rename_i e;exact zbw.2 ⟨t[i],zh hi,e⟩
  .exact zV _
 omega
theorem Nw{t:Tb}(h8:t.length<=8)(h:Int):own t h<=8:=zO zci (rK h8)
theorem wa{t:Tb}(hR:HR t)(ks:List Int)(hks:ks.length<=1000):∃a had,aR t ks=some (a,had)/\HR a/\a.length=t.length/\had.length<=ks.length/\pg (t.map eN) ks=some (a.map eN,had) /\
  (∀k v,Has a k v↔k∉ks/\Has t k v)/\(keys a).length+had.length=(keys t).length/\(∀k v,k∈ks->Has t k v->v∈had)/\∀y,own a y+Q0 had y=own t y:=by
 have key:∀n,n<=ks.length->∃a had,HR a/\a.length=t.length/\had.length<=n/\(∀k v,Has a k v↔k∉ks.take n/\Has t k v)/\(keys a).length+had.length=(keys t).length/\(∀k v,k∈ks.take n->Has t k v->v∈had)/\(∀y,own a y+Q0 had y=own t y) /\
   ∃f:Nat->Tb × List Int,f 0=(t,[])/\f n=(a,had)/\∀j,(hj:j<n)->HR (f j).1/\(f j).2.length<=j/\((∃i,∃hjk:j<ks.length,Fk (f j).1 ks[j] i/\f (j+1)=((f j).1.set i ⟨2,0,0⟩,(f j).2 ++ [(pt (f j).1 i).Val]))\/((∀i,∀hjk:j<ks.length,¬Fk (f j).1 ks[j] i)/\f (j+1)=f j)):=by
  intro n;induction n with
  | zero=>exact λ_=>⟨t,[],hR,rfl,by simp,by simp,by simp,by simp,λy=>by unfold Q0;split <;> simp,λ_=>(t,[]),rfl,rfl,λj hj=>by omega⟩
  | succ n ih=>
   intro hn;obtain⟨a,had,h1,h2,h3,h4,h5,h6,h7,f,f0,fn,fs⟩:=ih (by omega);have hlt:n<ks.length:=by omega
   have htk:∀k,k∈ks.take (n+1)↔k∈ks.take n\/k=ks[n]:=λk=>by
    rw[zx hlt,zu,zp]
   rcases Bi a ks[n] with ⟨i,hi⟩ | hno
   .have hd:=sC h1 hi;refine⟨a.set i ⟨2,0,0⟩,had ++ [(pt a i).Val],oC h1 hi.1,by simpa using h2,by simp;omega,λk v=>?_,?_,λk v hk hv=>?_,λy=>?_,λj=>if j=n+1 then (a.set i ⟨2,0,0⟩,had ++ [(pt a i).Val]) else f j,by simp[f0],by simp,λj hj=>?_⟩
    .rw[hd,h4,htk];constructor;·rintro⟨q1,q2,q3⟩;exact⟨λq=>q.elim q2 q1,q3⟩
     .rintro⟨q1,q2⟩;exact⟨λq=>q1 (.inr q),λq=>q1 (.inl q),q2⟩
    .have:=tq hi.1 ⟨2,0,0⟩;rw[zb hi.2.1,za (by decide)] at this;simp only[zL,zH,zaf];omega
    .rw[zu];rcases (htk k).1 hk with q | q
     .exact .inl (h6 k v q hv)
     .subst q;by_cases q':ks[n]∈ks.take n
      .exact .inl (h6 _ v q' hv)
      .have:=(h4 _ _).2 ⟨q',hv⟩;rw[this.fn h1 ⟨i,hi,rfl⟩];exact .inr (by simp)
    .have:=IS hi.1 ⟨2,0,0⟩ y;have h7':=h7 y;rw[F9];have e:Q0 [(pt a i).Val] y=if (((pt a i).State==1)&&((y != 0)&&((pt a i).Val==y)))=true then 1 else 0:=by
      rw[hi.2.1];unfold Q0;by_cases y0:y=0
      .simp[y0]
      .by_cases e:(pt a i).Val=y
       .simp[y0,e]
       .simp[y0,e]
     rw[e];rw[za (show ¬((((2:Int)==1)&&((y != 0)&&((0:Int)==y)))=true) by simp)] at this;omega
    .rcases zE j n with q | q
     .have:=fs j q;dsimp only;rw[za (by omega),za (by omega)];exact this
     .have:j=n:=by omega
      subst this;dsimp only;rw[za (by omega),zb rfl,fn];exact⟨h1,h3,.inl ⟨i,hlt,hi,rfl⟩⟩
   .refine⟨a,had,h1,h2,by omega,λk v=>?_,h5,λk v hk hv=>?_,h7,λj=>if j=n+1 then (a,had) else f j,by simp[f0],by simp,λj hj=>?_⟩
    .rw[h4,htk];constructor
     .rintro⟨q1,q2⟩;refine⟨λq=>q.elim q1 λq=>?_,q2⟩;subst q;obtain⟨i,hi,_⟩:=(h4 _ _).2 ⟨q1,q2⟩;exact hno i hi
     .rintro⟨q1,q2⟩;exact⟨λq=>q1 (.inl q),q2⟩
    .rcases (htk k).1 hk with q | q
     .exact h6 k v q hv
     .subst q;by_cases q':ks[n]∈ks.take n
      .exact h6 _ v q' hv
      .obtain⟨i,hi,_⟩:=(h4 _ _).2 ⟨q',hv⟩;exact absurd hi (hno i)
    .rcases zE j n with q | q
     .have:=fs j q;dsimp only;rw[za (by omega),za (by omega)];exact this
     .have:j=n:=by omega
      subst this;dsimp only;rw[za (by omega),zb rfl,fn];exact⟨h1,h3,.inr ⟨λi _=>hno i,rfl⟩⟩
 obtain⟨a,had,h1,h2,h3,h4,h5,h6,h7,f,f0,fn,fs⟩:=key ks.length (zG _);rw[zU] at h4 h6;refine⟨a,had,?_,h1,h2,h3,?_,h4,h5,h6,h7⟩
 .unfold aR;simp only[jn];refine lC (λj=>((f j).1,(j:Int),(f j).2)) (by rw[f0];rfl) ks.length (λ_=>True) (by omega) trivial (λj hj _=>?_) (λ_=>⟨(a,had),by dsimp only;rw[za (by simp),fn],rfl⟩);obtain⟨g1,g2,g3⟩:=fs j hj;left;refine⟨?_,trivial⟩;dsimp only;rw[zb (by simpa using hj),u5 hj,Yz,o5 (by omega)];rcases g3 with ⟨i,_,hi,e⟩ | ⟨hno,e⟩
  .rw[sF g1 hi,Yz,e];dsimp only;rw[zb (by decide),K5 (by omega) (by simp;omega),Yz]
  .rw[sD g1 (λi=>hno i hj),Yz,e];dsimp only;rw[za (by decide)]
 .unfold pg;simp only[jn];refine lC (λj=>((f j).1.map eN,(j:Int),(f j).2)) (by rw[f0];rfl) ks.length (λ_=>True) (by omega) trivial (λj hj _=>?_) (λ_=>⟨(a.map eN,had),by dsimp only;rw[za (by simp),fn],rfl⟩);obtain⟨g1,g2,g3⟩:=fs j hj;left;refine⟨?_,trivial⟩;dsimp only;rw[zb (by simpa using hj),u5 hj,Yz,o5 (by omega),US g1];rcases g3 with ⟨i,_,hi,e⟩ | ⟨hno,e⟩
  .rw[sF g1 hi,un,Yz,e];dsimp only;rw[zb (by decide),K5 (by omega) (by simp;omega),Yz]
  .rw[sD g1 (λi=>hno i hj),un,Yz,e];dsimp only;rw[za (by decide)]
inductive bb (s:b6) (t:Tb) (l:List Int):Int->Prop
 | base {h:Int}:h∈l->h∈lv s->bb s t l h
 | step {a b:Int}:bb s t l a->b∈outs s a->b∈lv s->bb s t l b
 | pair {k v:Int}:Has t k v->bb s t l k->v∈lv s->bb s t l v
open Classical in
noncomputable def Kb (s:b6) (t:Tb) (l:List Int):List Int:=(lv s).filter λh=>decide (bb s t l h)
open Classical in
noncomputable def Vw (s:b6) (t:Tb) (l:List Int):List Int:=(lv s).filter λh=>decide (¬bb s t l h)
noncomputable def DM(s:b6)(t:Tb)(l:List Int):List Int:=((jE t).filter λp=>decide (p.Key∈l/\p.Key∈lv s/\p.Val∈lv s)).map (·.Val)
def TB(t:Tb):Prop:=∀p∈t,p.Key<=9223372036854775807/\p.Val<=9223372036854775807
def Jx(s:b6)(t:Tb)(l:List Int):Prop:=∀k v,Has t k v->k∈l->k∈lv s->v∈lv s->v∈l
theorem TB.has{t:Tb}(h:TB t){k v:Int}(q:Has t k v):k<=9223372036854775807/\v<=9223372036854775807:=by
 obtain⟨i,⟨h1,_,h2⟩,h3⟩:=q;rw[lN h1] at h2 h3;have:=h _ (zh h1);rw[h2,h3] at this;exact this
theorem bb.live{s:b6}{t:Tb}{l:List Int}{h:Int}(q:bb s t l h):h∈lv s:=by cases q <;> assumption
open Classical in
theorem sP {s:b6} {t:Tb} {l:List Int} {h:Int}:h∈Kb s t l↔bb s t l h:=by
 unfold Kb;rw[zk];exact⟨λq=>zbi q.2,λq=>⟨q.live,zD q⟩⟩
theorem Ig{s:b6}(hR:wh (sO s))(t:Tb)(l:List Int):(Kb s t l).length<=24:=zO (zB ..) (K9 hR)
theorem Tx{s:b6}(hR:wh (sO s))(t:Tb)(l:List Int):LB (Kb s t l):=λx hx=>by have:=oZ hR (sP.1 hx).live;omega
theorem UO{s:b6}(hR:wh (sO s))(l:List Int):LB (GX s l):=λx hx=>by have:=oZ hR (fq.1 hx).live;omega
theorem Tw(s:b6)(t:Tb)(l:List Int):Cl s (Kb s t l):=λa ha b hb hl=>sP.2 (.step (sP.1 ha) hb hl)
theorem bb.least{s:b6}{t:Tb}{l m:List Int}(hc:Cl s m)(hp:Jx s t m)(hl:∀x∈l,x∈lv s->x∈m){h:Int}(q:bb s t l h):h∈m:=by
 induction q with
 | base h1 h2=>exact hl _ h1 h2
 | step _ h1 h2 ih=>exact hc _ ih _ h1 h2
 | pair h1 h2 h3 ih=>exact hp _ _ h1 ih h2.live h3
theorem bb.mono{s:b6}{t u:Tb}{l m:List Int}(ht:∀k v,Has t k v->Has u k v)(hl:∀x∈l,x∈lv s->bb s u m x){h:Int}(q:bb s t l h):bb s u m h:=by
 induction q with
 | base h1 h2=>exact hl _ h1 h2
 | step _ h1 h2 ih=>exact .step ih h1 h2
 | pair h1 _ h3 ih=>exact .pair (ht _ _ h1) ih h3
theorem rY.XL{s:b6}(t:Tb){l:List Int}{h:Int}(q:rY s l h):bb s t l h:=by
 induction q with
 | base h1 h2=>exact .base h1 h2
 | step _ h1 h2 ih=>exact .step ih h1 h2
theorem tQ{s:b6}{t:Tb}{l:List Int}{v:Int}:v∈DM s t l↔∃k,Has t k v/\k∈l/\k∈lv s/\v∈lv s:=by
 unfold DM;rw[zq];constructor
 .rintro⟨p,hp,rfl⟩;obtain⟨h1,h2⟩:=zk.1 hp;exact⟨p.Key,cg.1 h1,zbi h2⟩
 .rintro⟨k,h1,h2⟩;exact⟨⟨k,v⟩,zk.2 ⟨cg.2 h1,zD h2⟩,rfl⟩
theorem GO{s:b6}{t:Tb}{l:List Int}:(∀v∈DM s t l,v∈l)↔Jx s t l:=by
 constructor;·exact λh k v h1 h2 h3 h4=>h v (tQ.2 ⟨k,h1,h2,h3,h4⟩)
 .intro h v hv;obtain⟨k,h1,h2,h3,h4⟩:=tQ.1 hv;exact h k v h1 h2 h3 h4
theorem IN{s:b6}{t:Tb}(hT:HR t)(l:List Int):(DM s t l).length<=8:=by
 unfold DM;rw[zl];exact zO (zB ..) (rK hT.l8)
theorem UA{s:b6}(hR:wh (sO s))(t:Tb)(l:List Int):LB (DM s t l):=λx hx=>by
 obtain⟨_,_,_,_,h⟩:=tQ.1 hx;have:=oZ hR h;omega
noncomputable def T8(s:b6)(t:Tb)(l:List Int):Nat->List Int
 | 0=>GX s l
 | k+1=>GX s (T8 s t l k++DM s t (T8 s t l k))
section
variable{s:b6}{t:Tb}{l:List Int}
theorem KI(k:Nat):T8 s t l (k+1)=GX s (T8 s t l k++DM s t (T8 s t l k)):=rfl
theorem tZ(k:Nat):∃m,T8 s t l k=GX s m:=by
 cases k with
 | zero=>exact⟨_,rfl⟩
 | succ k=>exact⟨_,rfl⟩
theorem Rn(k:Nat):Cl s (T8 s t l k):=by
 obtain⟨m,e⟩:=tZ (s:=s) (t:=t) (l:=l) k;rw[e];exact UN s m
theorem KG(k:Nat){x:Int}(h:x∈T8 s t l k):x∈lv s:=by
 obtain⟨m,e⟩:=tZ (s:=s) (t:=t) (l:=l) k;rw[e] at h;exact (fq.1 h).live
theorem Fc(k:Nat){x:Int}(h:x∈T8 s t l k):x∈T8 s t l (k+1):=fq.2 (.base (zu.2 (.inl h)) (KG k h))
theorem KF(k:Nat):∀x∈l,x∈lv s->x∈T8 s t l k:=by
 induction k with
 | zero=>exact λx h1 h2=>fq.2 (.base h1 h2)
 | succ k ih=>exact λx h1 h2=>Fc k (ih x h1 h2)
theorem NT(k:Nat):∀x∈T8 s t l k,bb s t l x:=by
 induction k with
 | zero=>exact λx h=>(fq.1 h).XL t
 | succ k ih=>
  intro x h;have:=fq.1 h;induction this with
  | base h1 h2=>
   rcases zu.1 h1 with q | q
   .exact ih _ q
   .obtain⟨k',q1,q2,q3,q4⟩:=tQ.1 q;exact .pair q1 (ih _ q2) q4
  | step h0 h1 h2 ih2=>exact .step (ih2 (fq.2 h0)) h1 h2
theorem KH{k:Nat}(h:Jx s t (T8 s t l k)):T8 s t l k=Kb s t l:=by
 obtain⟨m,e⟩:=tZ (s:=s) (t:=t) (l:=l) k;have hm:∀x,rY s m x↔bb s t l x:=λx=>by
  rw[<-fq,<-e];exact⟨NT k x,λq=>q.least (Rn k) h (KF k)⟩
 rw[e];unfold GX Kb;exact pm λx _=>zbm.2 (hm x)
theorem BG{k:Nat}(h:¬Jx s t (T8 s t l k)):((jE t).filter λp=>decide (p.Val∈T8 s t l k)).length<((jE t).filter λp=>decide (p.Val∈T8 s t l (k+1))).length:=by
 obtain⟨v,hv,hn⟩:∃v,v∈DM s t (T8 s t l k)/\v∉T8 s t l k:=qr λq=>h (GO.1 λv hv=>qr λq2=>q ⟨v,hv,q2⟩);obtain⟨k',h1,h2,h3,h4⟩:=tQ.1 hv;refine filter_lt (λp _ hp=>?_) ⟨k',v⟩ (cg.2 h1) ?_ ?_
 .rw[zF] at hp |-;exact Fc k hp
 .rw[zF];exact fq.2 (.base (zu.2 (.inr hv)) h4)
 .exact zY hn
theorem tY(s:b6)(t:Tb)(l:List Int):∃n,n<=(jE t).length/\Jx s t (T8 s t l n)/\∀j,j<n->¬Jx s t (T8 s t l j):=by
 have key:∀k,(∃j,j<=k/\Jx s t (T8 s t l j))\/k<((jE t).filter λp=>decide (p.Val∈T8 s t l (k+1))).length:=by
  intro k;induction k with
  | zero=>
   by_cases h:Jx s t (T8 s t l 0)
   .exact .inl ⟨0,zG _,h⟩
   .have:=BG h;exact .inr (by omega)
  | succ k ih=>
   rcases ih with ⟨j,h1,h2⟩ | ih;·exact .inl ⟨j,by omega,h2⟩
   .by_cases h:Jx s t (T8 s t l (k+1))
    .exact .inl ⟨k+1,zG _,h⟩
    .have:=BG h;exact .inr (by omega)
 obtain⟨j,h1,h2⟩:∃j,j<=(jE t).length/\Jx s t (T8 s t l j):=by
  rcases key (jE t).length with q | q
  .exact q
  .have:=zB (λp:k7=>decide (p.Val∈T8 s t l ((jE t).length+1))) (jE t);omega
 obtain⟨n,hn,hmin⟩:=dz (p:=λj=>Jx s t (T8 s t l j)) ⟨j,h2⟩;exact⟨n,zO (hmin j h2) h1,hn,λi hi q=>by have:=hmin i q;omega⟩
end
noncomputable def VA(s:b6)(t:Tb)(l:List Int):Nat:=Classical.choose (tY s t l)
theorem UX(s:b6)(t:Tb)(l:List Int):VA s t l<=(jE t).length:=(zax (tY s t l)).1
theorem NR(s:b6)(t:Tb)(l:List Int):Jx s t (T8 s t l (VA s t l)):=(zax (tY s t l)).2.1
theorem Rm(s:b6)(t:Tb)(l:List Int){j:Nat}(h:j<VA s t l):¬Jx s t (T8 s t l j):=(zax (tY s t l)).2.2 j h
section
variable{s:b6}(hR:wh (sO s)){t:Tb}(hT:HR t)(hTB:TB t)
include hR hT hTB
omit hT hTB in
theorem Bt {h:Int} (hh:h<=9223372036854775807):jw h s=some (decide (h∈lv s)):=by
 obtain⟨e,h1,h2⟩:=il hR hh;unfold jw;rw[h1,Yz];congr 1;rw[za8,pu,zF];exact h2
theorem IP{l:List Int}(hl:l.length<=1000000):sN s t l=some (DM s t l):=by
 unfold sN;simp only[jn,NC hT,Yz];have h8:=rK hT.l8;rw[U7 ((jE t)) (λb p=>b++(if decide (p.Key∈l/\p.Key∈lv s/\p.Val∈lv s) then [p.Val] else [])) id (λk b=>b.length<=k) (by omega) (by simp) (λk hk b hb=>?_) (λb _=>?_)]
 .simp only[Yz,id];rw[rv];congr 1;unfold DM;rw[zcg];generalize jE t=P;induction P with
  | nil=>rfl
  | cons p P ih=>
   rw[zbg,or,ih];by_cases q:p.Key∈l/\p.Key∈lv s/\p.Val∈lv s
   .simp[q]
   .simp[q]
 .have hb':=hTB.has (cg.1 (zh hk));simp only[wp,hk,ul,wn,u5 hk,Yz,contains_eq _ _ hl];rw[Bt hR hb'.1,Bt hR hb'.2];by_cases q1:(jE t)[k].Key∈l
  .rw[zD q1];simp only[q9,iI,Yz,zbc];by_cases q2:(jE t)[k].Key∈lv s
   .rw[zD q2];simp only[q9,iI,Yz,zbc];by_cases q3:(jE t)[k].Val∈lv s
    .rw[zb (by simpa using q3),K5 (by omega) (by simp;omega),Yz,o5,zb (by simp[q1,q2,q3])];exact⟨rfl,by simp;omega⟩
    .rw[za (by simpa using q3),o5,za (by simp[q3]),zau];exact⟨rfl,by omega⟩
   .rw[zY q2];simp only[show ((false==true):Bool)=false from rfl,IL,Yz,Bool.false_and,zC,t8];rw[o5,za (by simp[q2]),zau];exact⟨rfl,by omega⟩
  .rw[zY q1];simp only[show ((false==true):Bool)=false from rfl,IL,Yz,Bool.false_and,zC,t8];rw[o5,za (by simp[q1]),zau];exact⟨rfl,by omega⟩
 .simp only[zbe,zbo,zC,t8];rfl
theorem Mw(hF:FB s){l:List Int}(hl:LB l)(hlen:l.length<=1000000):pR s t l=some (Kb s t l,(VA s t l:Int)):=by
 unfold pR;rw[Ih hR hF hl hlen,Yz];simp only[jn];have hn:=UX s t l;have h8:=rK hT.l8;have hstep:∀k,∃m,T8 s t l k=GX s m:=tZ;refine lC (p:=λk=>(T8 s t l k,(k:Int))) rfl (VA s t l) (λ_=>True) (by omega) trivial (λk hk _=>.inl ⟨?_,trivial⟩) (λ_=>?_)
 .obtain⟨m,hm⟩:=hstep k;have hlk:(T8 s t l k).length<=24:=by rw[hm];exact Rg hR m
  have hlb:LB (T8 s t l k):=by rw[hm];exact UO hR m
  have hno:=Rm s t l hk;simp only;rw[IP hR hT hTB (by omega),Yz];have ho:=IN (s:=s) hT (T8 s t l k);obtain⟨j,⟨hj,hjn⟩,hmin⟩:=dz (p:=λj=>∃hj:j<(DM s t (T8 s t l k)).length,(DM s t (T8 s t l k))[j]∉T8 s t l k) (by
   refine qr λq=>hno (GO.1 λv hv=>qr λq2=>?_);obtain⟨j,hj,e⟩:=List.mem_iff_getElem.1 hv;exact q ⟨j,hj,by rw[e];exact q2⟩)
  refine fU (DM s t (T8 s t l k)).length (λi=>i<=j) (by omega) (zV _) (λi hi hP=>?_) (λhP=>by omega);simp only[wp,hi,ul,wn,u5 hi,Yz];rw[contains_eq _ _ (by omega),Yz];rcases zE i j with q | q
  .refine .inl ⟨?_,q⟩;have:(DM s t (T8 s t l k))[i]∈T8 s t l k:=qr λq2=>by have:=hmin i ⟨hi,q2⟩;omega
   rw[za (by simp[this]),o5]
  .have:i=j:=by omega
   subst this;refine .inr ⟨.inl (T8 s t l (k+1),((k+1:Nat):Int)),?_,rfl⟩;rw[zb (by simp[hjn]),K5 (by omega) (by omega),Yz,Ih hR hF (λx hx=>by
    rcases zu.1 hx with q | q
    .exact UA hR t _ x q
    .exact hlb x q) (by simp;omega),Yz,o5,KI]
   rw[KE (l:=DM s t (T8 s t l k)++T8 s t l k) (m:=T8 s t l k++DM s t (T8 s t l k)) λx=>⟨λq=>q.mono λy hy hyl=>.base (zu.2 (zu.1 hy).symm) hyl,λq=>q.mono λy hy hyl=>.base (zu.2 (zu.1 hy).symm) hyl⟩]
 .have hst:=NR s t l;have hfr:=KH hst;refine⟨(Kb s t l,(VA s t l:Int)),?_,rfl⟩;simp only;rw[hfr] at hst |-;have hfl:=Ig hR t l;rw[IP hR hT hTB (by omega),Yz];have ho:=IN (s:=s) hT (Kb s t l);refine fU (DM s t (Kb s t l)).length (λ_=>True) (by omega) trivial (λi hi _=>.inl ⟨?_,trivial⟩) (λ_=>⟨.inr (),by simp,rfl⟩);have:=GO.2 hst _ (zh hi);simp only[wp,hi,ul,wn,u5 hi,Yz];rw[contains_eq _ _ (by omega),Yz,za (by simp[this]),o5]
theorem Mc(hF:FB s){l:List Int}(hl:LB l)(hlen:l.length<=1000000):sM s t l=some (Kb s t l):=by
 unfold sM;rw[Mw hR hT hTB hF hl hlen];rfl
omit hT hTB hR in
theorem Rh {l:List Int} {x:Int}:rY s (Kb s t l) x↔bb s t l x:=by
 constructor
 .intro q;exact sP.1 (rY.least (Tw s t l) (λx h _=>h) q)
 .exact λq=>.base (sP.2 q) q.live
theorem Mi(hF:FB s){l:List Int}(hl:LB l)(hlen:l.length<=1000000):oI s t l=some (Vw s t l):=by
 unfold oI;rw[Mc hR hT hTB hF hl hlen,Yz,Qq hR hF (Tx hR t l) (by have:=Ig hR t l;omega),Yz];congr 1;unfold lst Vw;exact pm λx _=>zbm.2 (not_congr Rh)
end
section
variable(s:b6)(hF:FB s)(t:Tb)(hTB:TB t)
include hF hTB
end
def ce(s:b6)(i:Nat):c9:=s.S.b7.getD i ⟨0,0,z0⟩
theorem O3{s:b6}{i:Nat}(h:i<s.S.b7.length):ce s i=s.S.b7[i]:=by
 unfold ce;rw[zd,zc h];rfl
theorem Ir{s:b6}{i:Nat}(h:i<s.S.b7.length):ix s.S.b7 (i:Int)=some (ce s i):=by rw[u5 h,O3 h]
def Th(c:c9):Prop:=c.State=1\/c.State=2
instance(c:c9):Decidable (Th c):=by unfold Th;infer_instance
structure As (s:b6) (o:n9):Prop where
 s1:1<=o.Serial
 s2:o.Serial<=s.Serial
 st:0<=o.Strong
 wk:0<=o.Weak
 p1 : -1<=o.Prog
 p2:o.Prog<=5
 fl:o.Fields.length<=4
structure SR (s:b6):Prop where
 len:s.S.b7.length<=24
 l0:0<=s.S.Last
 l9:s.S.Last<=9
 aH:0<=s.Serial
 cell:∀i,i<s.S.b7.length->0<=(ce s i).State/\(ce s i).State<=3/\0<=(ce s i).Gen/\(ce s i).Gen<=s.S.Last
 no:∀i,i<s.S.b7.length->¬Th (ce s i)->Jw (oo (ce s i).Val)
 ok:∀i,i<s.S.b7.length->Th (ce s i)->As s (ce s i).Val
 dif:∀i j,i<s.S.b7.length->j<s.S.b7.length->Th (ce s i)->Th (ce s j)->(ce s i).Val.Serial=(ce s j).Val.Serial->i=j
theorem A2{s:b6}:wh (sO s)↔SR s:=by
 constructor
 .intro h;refine⟨pn h,h.l0,h.l9,h.aH,λi hi=>?_,λi hi hn=>?_,λi hi ht=>?_,λi j hi hj a b e=>?_⟩;·rw[O3 hi];exact Dm h i hi
  .rw[O3 hi] at hn |-;have:=h.no i (by rw[kX];exact hi);simp only[sO,t7] at this;exact this hn
  .rw[O3 hi] at ht |-;obtain⟨a,b,c,d,e,f,g⟩:=NW h i hi ht;exact⟨a,b,c,d,e,f,g⟩
  .rw[O3 hi] at a e;rw[O3 hj] at b e;exact NV h hi hj a b e
 .intro h;refine⟨by rw[kX];exact h.len,h.l0,h.l9,h.aH,λi hi=>?_,λi hi hn=>?_,λi hi ht=>?_,λi hi k hk a b=>?_⟩
  .rw[kX] at hi;have:=h.cell i hi;rw[O3 hi] at this;simpa[sO,cO] using this
  .rw[kX] at hi;have:=h.no i hi;rw[O3 hi] at this;simp only[sO,t7] at hn |-;exact this hn
  .rw[kX] at hi;have:=h.ok i hi;rw[O3 hi] at this;simp only[sO,t7] at ht |-;obtain⟨a,b,c,d,e,f,g⟩:=this ht;exact⟨a,b,c,d,e,f,g⟩
  .rw[kX] at hi;have hk':k<s.S.b7.length:=by omega
   have:=h.dif i k hi hk';rw[O3 hi,O3 hk'] at this;simp only[sO,t7,cO,oo] at a b |-;intro e;have:=this a b e.symm;omega
def At(s:b6)(h:Int)(i:Nat):Prop:=i<s.S.b7.length/\(ce s i).State=1/\h=1+(i:Int)+32*(ce s i).Gen
def T9(s:b6)(h:Int)(i:Nat):Prop:=i<s.S.b7.length/\Th (ce s i)/\h=1+(i:Int)+32*(ce s i).Gen
theorem At.d{s:b6}{h:Int}{i:Nat}(q:At s h i):T9 s h i:=⟨q.1,.inl q.2.1,q.2.2⟩
theorem T9.one{s:b6}(hR:SR s){h:Int}{i j:Nat}(q:T9 s h i)(q':T9 s h j):i=j:=by
 obtain⟨a1,_,a2⟩:=q;obtain⟨b1,_,b2⟩:=q';have:=hR.len;omega
theorem T9.KJ{s:b6}(hR:SR s){h:Int}{i:Nat}(q:T9 s h i):1<=h/\h<=320:=by
 obtain⟨a1,_,a2⟩:=q;have:=hR.len;have:=hR.cell i a1;have:=hR.l9;omega
theorem EE{s:b6}{h:Int}:h∈cX 0 s.S.b7↔∃i,At s h i:=by
 rw[oU];constructor
 .rintro⟨i,hi,h1,h2⟩;refine⟨i,hi,by rw[O3 hi];exact h1,?_⟩;rw[O3 hi,h2,zak]
 .rintro⟨i,hi,h1,h2⟩;rw[O3 hi] at h1 h2;exact⟨i,hi,h1,by rw[h2,zak]⟩
theorem gR{s:b6}(hR:SR s){h:Int}:h∈lv s↔∃i,At s h i:=by rw[CH (A2.2 hR),EE]
theorem ru{s:b6}(hR:SR s){h:Int}{i:Nat}:wc s.S h i↔T9 s h i:=by
 constructor
 .rintro⟨hi,h1,h2,h3,h4⟩;unfold BT at h1;refine⟨hi,by rw[O3 hi];exact h4,?_⟩;rw[O3 hi];omega
 .rintro⟨hi,h1,h2⟩;have l:=hR.len;have l9:=hR.l9;have c:=hR.cell i hi;rw[O3 hi] at h1 h2 c;exact⟨hi,by unfold BT;omega,by omega,by omega,h1⟩
theorem F1{s:b6}(hR:SR s){h:Int}{i:Nat}(q:At s h i):ob s h=(ce s i).Val:=by
 obtain⟨j,hj,h1,h2,_,e⟩:=CG (A2.2 hR) ((gR hR).2 ⟨i,q⟩);have:j=i:=T9.one hR ⟨hj,by rw[O3 hj];exact .inl h1,by rw[O3 hj];exact h2⟩ q.d;subst this;rw[e,O3 hj]
theorem HP{s:b6}(hR:SR s){h:Int}{i:Nat}(q:At s h i):sk s.S.b7 h=(ce s i).Val.Serial:=by
 have:=hR.len;have hi:=q.1;rw[q.2.2,Fl hi (by omega),O3 hi]
theorem wU{s:b6}(hR:SR s){h:Int}{i:Nat}(q:T9 s h i):A1 s.S h=some ((i:Int),0):=uL ((ru hR).2 q)
theorem xx{s:b6}(hR:SR s){h:Int}(hh:h<=9223372036854775807)(q:∀i,¬T9 s h i):A1 s.S h=some (-1,if h=0 then 2 else 3):=Bg hh λi hi=>q i ((ru hR).1 hi)
theorem MN{s s':b6}(hR:SR s)(hR':SR s')(P:Int->Bool)(hm:∀h,(∃i,At s' h i)↔(∃i,At s h i)/\P h=true)(hk:∀h i j,At s' h i->At s h j->(ce s' i).Val.Serial=(ce s j).Val.Serial):lv s'=(lv s).filter P:=by
 have hk':∀h∈lv s,P h=true->sk s'.S.b7 h=sk s.S.b7 h:=λh hh hp=>by
  obtain⟨j,hj⟩:=(gR hR).1 hh;obtain⟨i,hi⟩:=(hm h).2 ⟨⟨j,hj⟩,hp⟩;rw[HP hR' hi,HP hR hj,hk h i j hi hj]
 refine Wo (A2.2 hR') ?_ ?_
 .rw[List.perm_ext_iff_of_nodup ((tA (A2.2 hR)).filter _) (mS 0 _ (by have:=hR'.len;omega))];intro h;rw[zk,gR hR,EE,hm h]
 .refine ((mV (A2.2 hR)).2.2.filter P).imp_of_mem λ{a b} ha hb hab=>?_;rw[zk] at ha hb;rw[hk' a ha.1 ha.2,hk' b hb.1 hb.2];exact hab
theorem Qw{s s':b6}(hR:SR s)(hR':SR s')(hl:s'.S.b7.length=s.S.b7.length)(h1:∀i,i<s.S.b7.length->((ce s' i).State=1↔(ce s i).State=1)/\(ce s' i).Gen=(ce s i).Gen/\(ce s' i).Val.Serial=(ce s i).Val.Serial):lv s'=lv s:=by
 have ha:∀h i,At s' h i↔At s h i:=λh i=>by
  unfold At;rw[hl];constructor
  .rintro⟨a,b,c⟩;obtain⟨x,y,z⟩:=h1 i a;exact⟨a,x.1 b,by rw[<-y];exact c⟩
  .rintro⟨a,b,c⟩;obtain⟨x,y,z⟩:=h1 i a;exact⟨a,x.2 b,by rw[y];exact c⟩
 rw[MN hR hR' (λ_=>true) (λh=>by simp only[and_true];exact⟨λ⟨i,q⟩=>⟨i,(ha h i).1 q⟩,λ⟨i,q⟩=>⟨i,(ha h i).2 q⟩⟩) (λh i j q q'=>by
  have:=T9.one hR ((ha h i).1 q).d q'.d;subst this;exact (h1 i q'.1).2.2)]
 simp
def fL(s:b6)(i:Nat)(o:n9):b6:=⟨⟨s.S.b7.set i ⟨(ce s i).State,(ce s i).Gen,o⟩,s.S.Last⟩,s.Serial⟩
theorem J2(s:b6)(i:Nat)(o:n9):(fL s i o).S.b7.length=s.S.b7.length:=by simp[fL]
theorem xX{α:Type}{l:List α}{i:Nat}(hi:i<l.length)(c d:α)(j:Nat):(l.set i c).getD j d=if j=i then c else l.getD j d:=by
 rw[zd,zd,List.getElem?_set];by_cases h:j=i
 .subst h;rw[zb rfl,zb hi,zb rfl];rfl
 .rw[za (za0 h),za h]
theorem mG{s:b6}{i:Nat}(hi:i<s.S.b7.length)(o:n9)(j:Nat):ce (fL s i o) j=if j=i then ⟨(ce s i).State,(ce s i).Gen,o⟩ else ce s j:=xX hi _ _ j
theorem Ab{s:b6}{i:Nat}(hi:i<s.S.b7.length)(o:n9)(j:Nat):(ce (fL s i o) j).State=(ce s j).State/\(ce (fL s i o) j).Gen=(ce s j).Gen:=by
 rw[mG hi];split;·rename_i q;subst q;exact⟨rfl,rfl⟩
 .exact⟨rfl,rfl⟩
theorem wP{s:b6}{i:Nat}(hi:i<s.S.b7.length)(o:n9){h:Int}{j:Nat}:T9 (fL s i o) h j↔T9 s h j:=by
 unfold T9 Th;rw[J2,(Ab hi o j).1,(Ab hi o j).2]
theorem xy{s:b6}{i:Nat}(hi:i<s.S.b7.length)(o:n9){h:Int}{j:Nat}:At (fL s i o) h j↔At s h j:=by
 unfold At;rw[J2,(Ab hi o j).1,(Ab hi o j).2]
theorem Ob{s:b6}(hR:SR s){h:Int}{i:Nat}(q:T9 s h i)(o:n9):S9 s h o=some (fL s i o,0):=by
 obtain⟨hi,e⟩:=Oc (v:=o) hR.len ((ru hR).2 q);unfold S9;rw[e];simp[fL,O3 hi]
theorem SR.put{s:b6}(hR:SR s){i:Nat}(hi:i<s.S.b7.length)(ht:Th (ce s i)){o:n9}(hs:o.Serial=(ce s i).Val.Serial)(ho:As s o):SR (fL s i o):=by
 have hst:=Ab hi o;have hse:∀j,(ce (fL s i o) j).Val.Serial=(ce s j).Val.Serial:=λj=>by
  rw[mG hi];split;·rename_i q;subst q;exact hs
  .rfl
 refine⟨by rw[J2];exact hR.len,hR.l0,hR.l9,hR.aH,λj hj=>?_,λj hj hn=>?_,λj hj hn=>?_,λj k hj hk a b e=>?_⟩
 .rw[J2] at hj;rw[(hst j).1,(hst j).2];exact hR.cell j hj
 .rw[J2] at hj;unfold Th at hn;rw[(hst j).1] at hn;rw[mG hi];split;·rename_i q;subst q;exact absurd ht hn
  .exact hR.no j hj hn
 .rw[J2] at hj;unfold Th at hn;rw[(hst j).1] at hn;rw[mG hi];split;·exact⟨ho.s1,ho.s2,ho.st,ho.wk,ho.p1,ho.p2,ho.fl⟩
  .have:=hR.ok j hj hn;exact⟨this.s1,this.s2,this.st,this.wk,this.p1,this.p2,this.fl⟩
 .rw[J2] at hj hk;unfold Th at a b;rw[(hst j).1] at a;rw[(hst k).1] at b;rw[hse,hse] at e;exact hR.dif j k hj hk a b e
theorem MM{s:b6}(hR:SR s){i:Nat}(hi:i<s.S.b7.length){o:n9}(hs:o.Serial=(ce s i).Val.Serial)(hR':SR (fL s i o)):lv (fL s i o)=lv s:=by
 refine Qw hR hR' (J2 ..) λj hj=>?_;rw[mG hi];split;·rename_i q;subst q;exact⟨Iff.rfl,rfl,hs⟩
 .exact⟨Iff.rfl,rfl,rfl⟩
theorem Uu{s:b6}(hR:SR s){h:Int}{i:Nat}(q:At s h i){o:n9}(hR':SR (fL s i o)){k:Int}(hk:k<=9223372036854775807):ob (fL s i o) k=if k=h then o else ob s k:=by
 by_cases e:k=h
 .subst e;rw[zb rfl,F1 hR' ((xy q.1 o).2 q),mG q.1,zb rfl]
 .rw[za e];by_cases hl:∃j,At s k j
  .obtain⟨j,hj⟩:=hl;rw[F1 hR' ((xy q.1 o).2 hj),F1 hR hj,mG q.1,za];intro e2;subst e2;exact e (hj.2.2.trans q.2.2.symm)
  .rw[vK (A2.2 hR) hk (λq2=>hl ((gR hR).1 q2)),vK (A2.2 hR') hk λq2=>hl (by
    obtain⟨j,hj⟩:=(gR hR').1 q2;exact⟨j,(xy q.1 o).1 hj⟩)]
def D7(h:Int):Nat:=((h-1) % 32).toNat
theorem T9.D7{s:b6}(hR:SR s){h:Int}{i:Nat}(q:T9 s h i):D7 h=i:=by
 obtain⟨a,_,c⟩:=q;have:=hR.len;unfold Sh.D7;omega
def cU(s:b6)(h:Int)(o:n9):b6:=fL s (D7 h) o
theorem o6{s:b6}(hR:SR s){h:Int}(hh:h∈lv s):At s h (D7 h):=by
 obtain⟨i,hi⟩:=(gR hR).1 hh;rw[hi.d.D7 hR];exact hi
theorem J9{s:b6}(hR:SR s){h:Int}(hh:h∈lv s):As s (ob s h):=by
 have q:=o6 hR hh;rw[F1 hR q];exact hR.ok _ q.1 (.inl q.2.1)
theorem H6{s:b6}(hR:SR s){h:Int}(hh:h∈lv s):1<=h/\h<=320:=(o6 hR hh).d.KJ hR
theorem eP{s:b6}(hR:SR s):(0:Int)∉lv s:=λh=>by have:=H6 hR h;omega
section
variable{s:b6}(hR:SR s){h:Int}(hh:h∈lv s){o:n9}(hs:o.Serial=(ob s h).Serial)(ho:As s o)
include hR hh hs ho
theorem bP:SR (cU s h o):=by
 have q:=o6 hR hh;exact hR.put q.1 (.inl q.2.1) (by rw[hs,F1 hR q]) ho
theorem iD:lv (cU s h o)=lv s:=by
 have q:=o6 hR hh;exact MM hR q.1 (by rw[hs,F1 hR q]) (bP hR hh hs ho)
theorem gi{k:Int}(hk:k<=9223372036854775807):ob (cU s h o) k=if k=h then o else ob s k:=Uu hR (o6 hR hh) (bP hR hh hs ho) hk
theorem xe:S9 s h o=some (cU s h o,0):=Ob hR (o6 hR hh).d o
theorem Ds{k:Int}{i:Nat}:T9 (cU s h o) k i↔T9 s k i:=wP (o6 hR hh).1 o
theorem yQ(i:Nat):ce (cU s h o) i=if i=D7 h then ⟨(ce s i).State,(ce s i).Gen,o⟩ else ce s i:=by
 unfold cU;rw[mG (o6 hR hh).1];split;·rename_i q;rw[q]
 .rfl
end
abbrev AP(o:n9)(n:Int):n9:=⟨o.Serial,n,o.Weak,o.Prog,o.Started,o.Fields⟩
structure vB (s s':b6):Prop where
 sr:SR s'
 len:s'.S.b7.length=s.S.b7.length
 last:s'.S.Last=s.S.Last
 aH:s'.Serial=s.Serial
 lv:lv s'=lv s
 ad:∀k i,T9 s' k i↔T9 s k i
 ob:∀k,k<=9223372036854775807->∃n,ob s' k=(AP (ob s k) (n))
 ce:∀i,i<s.S.b7.length->(ce s' i).State=(ce s i).State/\(ce s' i).Gen=(ce s i).Gen/\(ce s' i).Val.Weak=(ce s i).Val.Weak/\(ce s' i).Val.Fields=(ce s i).Val.Fields/\((ce s i).State≠1->ce s' i=ce s i)
theorem vB.refl{s:b6}(hR:SR s):vB s s:=⟨hR,rfl,rfl,rfl,rfl,λ_ _=>Iff.rfl,λk _=>⟨_,rfl⟩,λi _=>⟨rfl,rfl,rfl,rfl,λ_=>rfl⟩⟩
theorem vB.trans{a b c:b6}(h:vB a b)(q:vB b c):vB a c:=by
 refine⟨q.sr,q.len.trans h.len,q.last.trans h.last,q.aH.trans h.aH,q.lv.trans h.lv,λk i=>(q.ad k i).trans (h.ad k i),λk hk=>?_,λi hi=>?_⟩
 .obtain⟨n,e⟩:=h.ob k hk;obtain⟨m,f⟩:=q.ob k hk;exact⟨m,by rw[f,e]⟩
 .obtain⟨a1,a2,a3,a4,a5⟩:=h.ce i hi;obtain⟨b1,b2,b3,b4,b5⟩:=q.ce i (by rw[h.len];exact hi);refine⟨b1.trans a1,b2.trans a2,b3.trans a3,b4.trans a4,λhn=>?_⟩;rw[b5 (by rw[a1];exact hn),a5 hn]
theorem vB.outs{s s':b6}(k:vB s s'){h:Int}(hh:h<=9223372036854775807):outs s' h=outs s h:=by
 obtain⟨n,e⟩:=k.ob h hh;unfold Sh.outs;rw[e]
theorem vB.jW{s s':b6}(hR:SR s)(k:vB s s')(h:Int):jW s' h=jW s h:=by
 unfold Sh.jW;rw[k.lv];congr 1;refine zt λx hx=>?_;rw[k.outs (by have:=H6 hR hx;omega)]
theorem Qm{s:b6}(hR:SR s){h:Int}(hh:h∈lv s){n:Int}(hn:0<=n):vB s (cU s h (AP (ob s h) (n))):=by
 have ho:As s (AP (ob s h) (n)):=by
  have:=J9 hR hh;exact⟨this.s1,this.s2,hn,this.wk,this.p1,this.p2,this.fl⟩
 have q:=o6 hR hh;refine⟨bP hR hh rfl ho,J2 ..,rfl,rfl,iD hR hh rfl ho,λk i=>Ds (o:=(AP (ob s h) (n))) hR hh rfl ho,λk hk=>?_,λi hi=>?_⟩
 .rw[gi (o:=(AP (ob s h) (n))) hR hh rfl ho hk];split;·rename_i e;subst e;exact⟨n,rfl⟩
  .exact⟨_,rfl⟩
 .rw[yQ (o:=(AP (ob s h) (n))) hR hh rfl ho];split
  .rename_i e;subst e;rw[F1 hR q];exact⟨rfl,rfl,rfl,rfl,λhn=>absurd q.2.1 hn⟩
  .exact⟨rfl,rfl,rfl,rfl,λ_=>rfl⟩
def SB(s:b6):Prop:=∀c∈s.S.b7,c.Val.Strong<=9223372036854775807
theorem VX{s:b6}:FB s↔∀i,i<s.S.b7.length->∀x∈(ce s i).Val.Fields,x<=9223372036854775807:=by
 constructor
 .intro h i hi x hx;rw[O3 hi] at hx;exact h _ (zh hi) x hx
 .intro h c hc x hx;obtain⟨i,hi,rfl⟩:=wt hc;exact h i hi x (by rw[O3 hi];exact hx)
theorem WU{s:b6}:SB s↔∀i,i<s.S.b7.length->(ce s i).Val.Strong<=9223372036854775807:=by
 constructor
 .intro h i hi;rw[O3 hi];exact h _ (zh hi)
 .intro h c hc;obtain⟨i,hi,rfl⟩:=wt hc;have:=h i hi;rwa [O3 hi] at this
noncomputable def inr(s:b6)(t:Tb)(h:Int):Nat:=jW s h+own t h
noncomputable def KM(s:b6)(t:Tb)(h:Int):Int:=if h∈lv s then (ob s h).Strong-(inr s t h:Int) else 0
noncomputable def Kg(s:b6)(t:Tb):List Int:=(lv s).filter λh=>decide (0<KM s t h\/12<=(ob s h).Strong)
def RT(s:b6)(t:Tb)(l:List Int):Prop:=∀h∈lv s,(ob s h).Strong<12->KM s t h=(Q0 l h:Int)
noncomputable instance(s:b6)(t:Tb)(l:List Int):Decidable (RT s t l):=Classical.propDecidable _
section
variable{s:b6}(hR:wh (sO s)){t:Tb}(hT:HR t)
include hR hT
theorem MD(h:Int):kJ s t h=some (inr s t h:Int):=by
 unfold kJ;have h1:=MC hR h;have h2:=Nw hT.l8 h;rw[Wg hR,Yz,Nx hT,Yz,T5 (by omega) (by omega)];unfold inr;simp
theorem TS(h:Int):inr s t h<=104:=by
 have h1:=MC hR h;have h2:=Nw hT.l8 h;unfold inr;omega
omit hT in
theorem BO (hB:SB s) {h:Int} (hh:h∈lv s):0<=(ob s h).Strong/\(ob s h).Strong<=9223372036854775807:=by
 obtain⟨i,hi⟩:=(gR (A2.1 hR)).1 hh;rw[F1 (A2.1 hR) hi];refine⟨((A2.1 hR).ok i hi.1 (.inl hi.2.1)).st,?_⟩;rw[O3 hi.1];exact hB _ (zh _)
theorem Rl(hB:SB s){h:Int}(hh:h<=9223372036854775807):nD s t h=some (KM s t h):=by
 unfold nD;obtain⟨e,h1,h2⟩:=il hR hh;rw[h1,Yz];by_cases q:h∈lv s
 .have:=h2.2 q;subst this;have h3:=TS hR hT h;have h4:=BO hR hB q;rw[za (by simp),MD hR hT,Yz,T5 (by dsimp only;omega) (by dsimp only;omega)];unfold KM;rw[zb q]
 .rw[zb (by simpa using λq2=>q (h2.1 q2))];unfold KM;rw[za q]
omit hT in
theorem Wn {k:Nat} (hk:k<(lv s).length):(lv s)[k]<=9223372036854775807:=by
 have:=oZ hR (zh hk);omega
theorem Qe(hB:SB s):nB s t=some (Kg s t):=by
 unfold nB;simp only[jn];have h24:=K9 hR;rw[gz hR,Yz,U7 (lv s) (λb x=>if decide (0<KM s t x\/12<=(ob s x).Strong) then b ++ [x] else b) id (λk b=>b.length<=k) (by omega) (by simp) (λk hk b hI=>?_) (λb _=>by simp),Yz]
 .rw[foldl_filter];rfl
 .have hm:=zh hk;have hle:=Wn hR hk;simp only[wp,hk,ul,wn,u5 hk,Yz];rw[uR hR hm,Yz];unfold nC oz I1;rw[Rl hR hT hB hle,Yz,Yz];by_cases q:0<KM s t (lv s)[k]
  .rw[zD (show KM s t (lv s)[k] > 0 from q)];simp only[show ((true==false):Bool)=false from rfl,IL,Yz,Bool.true_or,wn];rw[K5 (by omega) (by simp;omega),Yz,o5,zb (zD (.inl q))];exact⟨rfl,by simp;omega⟩
  .rw[zY (show ¬KM s t (lv s)[k] > 0 from q)];simp only[q9,iI,Yz,zca];by_cases q2:12<=(ob s (lv s)[k]).Strong
   .rw[zb (zD q2),K5 (by omega) (by simp;omega),Yz,o5,zb (zD (.inr q2))];exact⟨rfl,by simp;omega⟩
   .rw[za (by simpa using q2),o5,za (by simp only[decide_eq_true_eq];exact λc=>c.elim q q2)];exact⟨rfl,by omega⟩
omit hT in
theorem Qf:(Kg s t).length<=24:=zO (zB ..) (K9 hR)
omit hR hT in
theorem pT {h:Int}:h∈Kg s t↔h∈lv s/\(0<KM s t h\/12<=(ob s h).Strong):=by
 unfold Kg;rw[zk,decide_eq_true_eq]
omit hT in
theorem TK:LB (Kg s t):=λx hx=>by have:=oZ hR (pT.1 hx).1;omega
theorem GB(hTB:TB t)(hF:FB s)(hB:SB s):dg s t=some (Vw s t (Kg s t)):=by
 unfold dg;have:=Qf hR (t:=t);rw[Qe hR hT hB,Yz,Mi hR hT hTB hF (TK hR) (by omega)];rfl
end
abbrev TQ:=k8
def VC(q:TQ)(t:g7):TQ × Int:=if q.Cap<=q.L.length then (q,4) else (⟨q.L ++ [t],q.Cap⟩,0)
def RD(q:TQ):TQ × g7 × Int:=match q.L with
 | []=>(q,⟨0,0,0⟩,10)
 | t::l=>(⟨l,q.Cap⟩,t,0)
theorem Sz{q:TQ}(t:g7)(h:q.L.length<=1000):pE q t=some (VC q t):=by
 unfold VC;unfold pE V5 L5 G8;simp only[Yz];by_cases c:q.Cap<=q.L.length
 .rw[zb (by simpa using c),zb c,Yz]
 .rw[za (by simpa using c),za c];have e:cut q.L 0 (q.L.length:Int)=some q.L:=by
   have:=uG (xs:=q.L) (i:=0) (j:=q.L.length) (zV _) (zG _);simpa using this
  rw[e,Yz,Yz,K5 (by omega) (by simp;omega),Yz,Yz]
theorem yX{q:TQ}:ba q=some (RD q):=by
 unfold RD;unfold ba cP bo L5 G8;simp only[Yz];cases hl:q.L with
 | nil=>
  have e:cut ([]:List g7) 0 0=some []:=rfl;simp[e]
 | cons t l=>
  have hm:(if (if (((t::l).length:Nat):Int)<1 then (((t::l).length:Nat):Int) else 1) > 0 then (if (((t::l).length:Nat):Int)<1 then (((t::l).length:Nat):Int) else 1) else 0)=1:=by
   rw[za (show ¬(((t::l).length:Nat):Int)<1 by simp;omega)];simp
  rw[hm];have e1:cut (t::l) 0 1=some [t]:=by
   have:=uG (xs:=t::l) (i:=0) (j:=1) (zV _) (by simp);simpa using this
  have e2:cut (t::l) 1 (((t::l).length:Nat):Int)=some l:=by
   have:=uG (xs:=t::l) (i:=1) (j:=(t::l).length) (by simp) (zG _);simpa using this
  rw[e1,e2];simp[ix]
theorem Ka{α β:Type}(p:α->Bool)(f:α->β)(l:List α)(k:Nat)(h:k<l.length):((l.take (k+1)).filter p).map f=((l.take k).filter p).map f++(if p l[k] then [f l[k]] else []):=by
 rw[zx h,zbb,mt];congr 1;simp only[or,List.filter_nil];split <;> rfl
theorem Oi{q:TQ}(h:q.L.length<=1000):gk q=some ((q.L.filter (·.Kind==1)).map (·.At)):=by
 unfold gk qj;simp only[jn,Yz];refine ca q.L.length (λk l=>l=((q.L.take k).filter (·.Kind==1)).map (·.At)) (by omega) (by simp) ?_ (λl hl=>⟨_,by simp;rfl,by rw[hl,zU]⟩);rintro k l hk rfl;left;rw[Ka _ _ _ _ hk];simp only[wp,hk,ul,wn,u5 hk,Yz];have hle:(List.map (·.At) (List.filter (·.Kind==1) (List.take k q.L))).length<=1000:=by
  rw[zl];exact zO (zB ..) (by simp;omega)
 by_cases c:(q.L[k].Kind==1)=true
 .rw[c,zb (by decide),K5 (by omega) (by simp only[zH,zaf];omega),Yz,o5];exact⟨_,rfl,rfl⟩
 .have c:(q.L[k].Kind==1)=false:=by simpa using c
  rw[c,za (by decide),o5];exact⟨_,rfl,by simp⟩
theorem xh{q:TQ}{w:Int}(h:q.L.length<=1000):aG q w=some (q.L.any λt=>t.Kind==2&&t.At==w):=by
 unfold aG qj;simp only[jn,Yz];refine fU q.L.length (λk=>(q.L.take k).any (λt=>t.Kind==2&&t.At==w)=false) (by omega) (by simp) ?_ (λhl=>⟨.inr (),by simp,by rw[zU] at hl;rw[hl]⟩);intro k hk hP;simp only[wp,hk,ul,wn,u5 hk,Yz];rw[zx hk,List.any_append,hP,zca];by_cases c:(q.L[k].Kind==2)=true
 .rw[c,zb (by decide)];by_cases d:(q.L[k].At==w)=true
  .right;rw[d,zb rfl];refine⟨.inl true,rfl,?_⟩;simp only[zW];symm
   rw[List.any_eq_true];exact⟨_,zh hk,by rw[c,d];rfl⟩
  .have d:(q.L[k].At==w)=false:=by simpa using d
   left;rw[d,za (by decide),o5];exact⟨rfl,by simp[d]⟩
 .have c:(q.L[k].Kind==2)=false:=by simpa using c
  left;rw[c,za (by decide),o5];exact⟨rfl,by simp[c]⟩
def Yv(t:g7):EY:=⟨t.Kind,t.At,t.Prog⟩
def Yw(q:TQ):pX:=⟨q.L.map Yv,q.Cap⟩
abbrev Hp:=b9
abbrev wS(x:Hp)(s:b6):Hp:=⟨s,x.Roots,x.b7,x.T,x.Q⟩
abbrev wR(x:Hp)(l:List Int):Hp:=⟨x.S,l,x.b7,x.T,x.Q⟩
abbrev wC(x:Hp)(l:List k9):Hp:=⟨x.S,x.Roots,l,x.T,x.Q⟩
abbrev wT(x:Hp)(t:Tb):Hp:=⟨x.S,x.Roots,x.b7,t,x.Q⟩
abbrev wQ(x:Hp)(q:TQ):Hp:=⟨x.S,x.Roots,x.b7,x.T,q⟩
def jd(l:List k9)(h:Int):Nat:=l.countP λc=>(h != 0)&&(c.Target==h)
def oR(q:TQ):List Int:=(q.L.filter (·.Kind==1)).map (·.At)
def wb(q:TQ)(w:Int):Bool:=q.L.any λt=>t.Kind==2&&t.At==w
def nZ(x:Hp):List Int:=nz x.Roots++oR x.Q
noncomputable def lK(x:Hp)(h:Int):Nat:=jW x.S h+own x.T h+Q0 (nZ x) h
def H7(s:b6)(i:Nat)(c:c9):b6:=⟨⟨s.S.b7.set i c,s.S.Last⟩,s.Serial⟩
theorem V6(s:b6)(i:Nat)(c:c9):(H7 s i c).S.b7.length=s.S.b7.length:=by simp[H7]
theorem K6{s:b6}{i:Nat}(hi:i<s.S.b7.length)(c:c9)(j:Nat):ce (H7 s i c) j=if j=i then c else ce s j:=xX hi _ _ j
theorem SR.H7{s:b6}(hR:SR s){i:Nat}(hi:i<s.S.b7.length){c:c9}(h1:0<=c.State/\c.State<=3/\0<=c.Gen/\c.Gen<=s.S.Last)(h2:¬Th c->Jw (oo c.Val))(h3:Th c->As s c.Val/\Th (ce s i)/\c.Val.Serial=(ce s i).Val.Serial):SR (H7 s i c):=by
 have key:∀j,Th (ce (Sh.H7 s i c) j)->Th (ce s j)/\(ce (Sh.H7 s i c) j).Val.Serial=(ce s j).Val.Serial:=λj hj=>by
  rw[K6 hi] at hj |-;split at hj
  .rename_i e;subst e;rw[zb rfl];exact (h3 hj).2
  .rename_i e;rw[za e];exact⟨hj,rfl⟩
 refine⟨by rw[V6];exact hR.len,hR.l0,hR.l9,hR.aH,λj hj=>?_,λj hj hn=>?_,λj hj hn=>?_,λj k hj hk a b e=>?_⟩
 .rw[V6] at hj;rw[K6 hi];split;·exact h1
  .exact hR.cell j hj
 .rw[V6] at hj;rw[K6 hi] at hn |-;split at hn
  .rename_i e;rw[zb e];exact h2 hn
  .rename_i e;rw[za e];exact hR.no j hj hn
 .rw[V6] at hj;rw[K6 hi] at hn |-;split at hn
  .rename_i e;rw[zb e];have:=(h3 hn).1;exact⟨this.s1,this.s2,this.st,this.wk,this.p1,this.p2,this.fl⟩
  .rename_i e;rw[za e];have:=hR.ok j hj hn;exact⟨this.s1,this.s2,this.st,this.wk,this.p1,this.p2,this.fl⟩
 .rw[V6] at hj hk;obtain⟨a1,a2⟩:=key j a;obtain⟨b1,b2⟩:=key k b;rw[a2,b2] at e;exact hR.dif j k hj hk a1 b1 e
theorem DR{s:b6}{i:Nat}(hi:i<s.S.b7.length)(c:c9){h:Int}{j:Nat}(hj:j≠i):T9 (H7 s i c) h j↔T9 s h j:=by
 unfold T9;rw[V6,K6 hi,za hj]
theorem wV{s:b6}{i:Nat}(hi:i<s.S.b7.length)(c:c9){h:Int}{j:Nat}(hj:j≠i):At (H7 s i c) h j↔At s h j:=by
 unfold At;rw[V6,K6 hi,za hj]
theorem Iz{s:b6}(hR:SR s){i:Nat}(hi:i<s.S.b7.length){c:c9}(hc:c.State≠1)(hR':SR (H7 s i c)):lv (H7 s i c)=(lv s).filter λh=>decide (D7 h≠i):=by
 have hno:∀h,¬At (H7 s i c) h i:=λh q=>by
  have:=q.2.1;rw[K6 hi,zb rfl] at this;exact hc this
 refine MN hR hR' _ (λh=>?_) (λh j k q q'=>?_)
 .rw[zF];constructor
  .rintro⟨j,hj⟩;have hne:j≠i:=λe=>hno h (e▸hj);have:=(wV hi c hne).1 hj;exact⟨⟨j,this⟩,by rw[this.d.D7 hR];exact hne⟩
  .rintro⟨⟨j,hj⟩,hp⟩;rw[hj.d.D7 hR] at hp;exact⟨j,(wV hi c hp).2 hj⟩
 .have hne:j≠i:=λe=>hno h (e▸q);have q2:=(wV hi c hne).1 q;have:=T9.one hR q2.d q'.d;subst this;rw[K6 hi,za hne]
theorem IK{s:b6}(hR:SR s){i:Nat}(hi:i<s.S.b7.length){c:c9}(hR':SR (H7 s i c)){k:Int}(hk:k∈lv s)(hp:D7 k≠i):ob (H7 s i c) k=ob s k:=by
 have q:=o6 hR hk;rw[F1 hR' ((wV hi c hp).2 q),F1 hR q,K6 hi,za hp]
structure Kn (s s':b6):Prop where
 sr:SR s'
 len:s'.S.b7.length=s.S.b7.length
 lv:lv s'=lv s
 ad:∀k i,T9 s' k i↔T9 s k i
 ob:∀k,k∈Sh.lv s->∃n m,ob s' k=⟨(ob s k).Serial,n,m,(ob s k).Prog,(ob s k).Started,(ob s k).Fields⟩
theorem vB.kn{s s':b6}(hR:SR s)(k:vB s s'):Kn s s':=⟨k.sr,k.len,k.lv,k.ad,λh hh=>by
 obtain⟨n,e⟩:=k.ob h (by have:=H6 hR hh;omega);exact⟨n,_,e⟩⟩
theorem Kn.jW{s s':b6}(k:Kn s s')(h:Int):jW s' h=jW s h:=by
 unfold Sh.jW;rw[k.lv];congr 1;refine zt λx hx=>?_;obtain⟨n,m,e⟩:=k.ob x hx;unfold Sh.outs;rw[e]
structure jY (x:Hp):Prop where
 sr:SR x.S
 hr:HR x.T
 r6:x.Roots.length=6
 c6:x.b7.length=6
 cap:x.Q.Cap=30
 q30:x.Q.L.length<=30
 tk:∀t∈x.Q.L,0<=t.Prog/\t.Prog<=5/\((t.Kind=1/\t.At∈lv x.S/\(ob x.S t.At).Started=true)\/(t.Kind=2/\0<=t.At/\t.At<=5))
 td:x.Q.L.Pairwise λa b=>¬(a.Kind=b.Kind/\a.At=b.At)
 rt:∀h∈x.Roots,h=0\/h∈lv x.S
 fl:∀h∈lv x.S,∀v∈(ob x.S h).Fields,v=0\/v∈lv x.S
 pr:∀k v,Has x.T k v->k∈lv x.S/\v∈lv x.S
 cl:∀i (hi:i<x.b7.length),-1<=x.b7[i].Call/\x.b7[i].Call<=5/\(x.b7[i].Target=0->x.b7[i].Intact=false)/\(x.b7[i].Target≠0->∃p,T9 x.S x.b7[i].Target p)/\(x.b7[i].Intact=true->x.b7[i].Target∈lv x.S/\wb x.Q i=false)
def Wk(x:Hp):Prop:=∀i,i<x.S.S.b7.length->Th (ce x.S i)->(ce x.S i).Val.Weak=(jd x.b7 (1+(i:Int)+32*(ce x.S i).Gen):Int)/\((ce x.S i).State=2->1<=(ce x.S i).Val.Weak/\(ce x.S i).Val.Fields = []/\(ce x.S i).Val.Strong=0)
def aI(x:Hp)(L:List Int):Prop:=∀h∈lv x.S,(ob x.S h).Strong<12->(ob x.S h).Strong=((lK x h+Q0 L h:Nat):Int)
structure K0 (x:Hp):Prop where
 sh:jY x
 wk:Wk x
 fair:aI x []
theorem jY.of{x:Hp}(h:jY x){s':b6}(hS:SR s')(hl:lv s'=lv x.S)(hd:∀k i,T9 x.S k i->T9 s' k i)(hst:∀k∈lv x.S,(ob x.S k).Started=true->(ob s' k).Started=true)(hfl:∀k∈lv x.S,∀v∈(ob s' k).Fields,v=0\/v∈lv x.S):jY (wS x s'):=by
 refine⟨hS,h.hr,h.r6,h.c6,h.cap,h.q30,λt ht=>?_,h.td,λk hk=>?_,λk hk=>?_,λk v hkv=>?_,λi hi=>?_⟩
 .obtain⟨a,b,c⟩:=h.tk t ht;refine⟨a,b,?_⟩;rcases c with ⟨c1,c2,c3⟩ | c;·exact .inl ⟨c1,by rw[hl];exact c2,hst _ c2 c3⟩
  .exact .inr c
 .dsimp only;rw[hl];exact h.rt k hk
 .dsimp only at hk |-;rw[hl] at hk |-;exact hfl k hk
 .dsimp only;rw[hl];exact h.pr k v hkv
 .obtain⟨a,b,c,d,e⟩:=h.cl i hi;refine⟨a,b,c,λq=>?_,λq=>?_⟩
  .obtain⟨p,hp⟩:=d q;exact⟨p,hd _ _ hp⟩
  .dsimp only;rw[hl];exact e q
theorem jY.kn{x:Hp}(h:jY x){s':b6}(k:Kn x.S s'):jY (wS x s'):=by
 refine h.of k.sr k.lv (λj i q=>(k.ad j i).2 q) (λj hj q=>?_) (λj hj=>?_)
 .obtain⟨n,m,e⟩:=k.ob j hj;rw[e];exact q
 .obtain⟨n,m,e⟩:=k.ob j hj;rw[e];exact h.fl j hj
theorem jY.wq{x:Hp}(h:jY x){s':b6}(k:vB x.S s'):jY (wS x s'):=h.kn (k.kn h.sr)
theorem Wk.wq{x:Hp}(h:Wk x){s':b6}(k:vB x.S s'):Wk (wS x s'):=by
 intro i hi ht;dsimp only at hi ht |-;rw[k.len] at hi;obtain⟨a,b,c,d,e⟩:=k.ce i hi;unfold Th at ht;rw[a] at ht;obtain⟨f,g⟩:=h i hi ht;rw[a,b,c];refine⟨f,λq=>?_⟩;have e':=e (by omega);rw[<-c,e'];exact g q
theorem jY.roots{x:Hp}(h:jY x){l:List Int}(hl:l.length=6)(hr:∀v∈l,v=0\/v∈lv x.S):jY (wR x l):=⟨h.sr,h.hr,hl,h.c6,h.cap,h.q30,h.tk,h.td,hr,h.fl,h.pr,h.cl⟩
theorem jY.table{x:Hp}(h:jY x){t:Tb}(hr:HR t)(hp:∀k v,Has t k v->k∈lv x.S/\v∈lv x.S):jY (wT x t):=⟨h.sr,hr,h.r6,h.c6,h.cap,h.q30,h.tk,h.td,h.rt,h.fl,hp,h.cl⟩
def Y9(c:Int):Int:=if 12<=c then 12 else if c<0 then 1 else c+1
def kP(c:Int):Int:=if 12<=c then 12 else if c<1 then c else c-1
theorem E6{c:Int}(h:0<=c):0<=Y9 c:=by unfold Y9;split <;> (try split) <;> omega
theorem P2{c:Int}(h:0<=c):0<=kP c:=by unfold kP;split <;> (try split) <;> omega
noncomputable def uf(x:Hp)(h:Int)(f:Int->Int):Hp:=if h∈lv x.S then wS x (cU x.S h (AP (ob x.S h) (f (ob x.S h).Strong))) else x
noncomputable def E7(x:Hp)(h:Int):Hp:=uf x h Y9
noncomputable def aD(x:Hp)(h:Int):Hp:=uf x h kP
theorem yU(x:Hp)(h:Int)(f:Int->Int):uf x h f=wS x (uf x h f).S:=by
 unfold uf;split <;> rfl
theorem po(x:Hp)(h:Int):E7 x h=wS x (E7 x h).S:=yU x h Y9
theorem UU(x:Hp)(h:Int):aD x h=wS x (aD x h).S:=yU x h kP
section
variable{x:Hp}(hR:SR x.S)(h:Int){f:Int->Int}(hf:∀c,0<=c->0<=f c)
include hR hf
theorem H8:vB x.S (uf x h f).S:=by
 unfold uf;split
 .rename_i q;exact Qm hR q (hf _ (J9 hR q).st)
 .exact vB.refl hR
theorem vt{k:Int}(hk:k∈lv x.S):(ob (uf x h f).S k).Strong=if k=h then f (ob x.S k).Strong else (ob x.S k).Strong:=by
 unfold uf;split
 .rename_i q;dsimp only;have ho:As x.S (AP (ob x.S h) (f (ob x.S h).Strong)):=by
   have:=J9 hR q;exact⟨this.s1,this.s2,hf _ this.st,this.wk,this.p1,this.p2,this.fl⟩
  rw[gi (o:=AP (ob x.S h) (f (ob x.S h).Strong)) hR q rfl ho (by have:=H6 hR hk;omega)];split;·rename_i e;subst e;rfl
  .rfl
 .rename_i q;rw[za];intro e;subst e;exact q hk
theorem xg(k:Int):lK (uf x h f) k=lK x k:=by
 rw[yU];unfold lK nZ;dsimp only;rw[(H8 hR h hf).jW hR]
end
theorem jY.st{x:Hp}(h:jY x)(k:Int){f:Int->Int}(hf:∀c,0<=c->0<=f c):jY (uf x k f):=by
 rw[yU];exact h.wq (H8 h.sr k hf)
theorem Wk.st{x:Hp}(h:Wk x)(hR:SR x.S)(k:Int){f:Int->Int}(hf:∀c,0<=c->0<=f c):Wk (uf x k f):=by
 rw[yU];exact h.wq (H8 hR k hf)
theorem H9(h:Int):Q0 [] h=0:=by unfold Q0;split <;> rfl
theorem H2(v:Int)(L:List Int)(h:Int):Q0 (v::L) h=Q0 L h+if v=h/\h≠0 then 1 else 0:=by
 unfold Q0;by_cases h0:h=0
 .simp[h0]
 .rw[za h0,za h0,zcr];by_cases e:v=h
  .simp[e,h0]
  .simp[e]
theorem Ff{x:Hp}(hR:SR x.S){L:List Int}(hf:aI x L)(v:Int):aI (E7 x v) (v::L):=by
 intro h hh hlt;unfold E7 at hh hlt |-;rw[(H8 hR v λc=>E6).lv] at hh;rw[vt hR v (λc=>E6) hh] at hlt |-;rw[xg hR v λc=>E6,H2];have h0:h≠0:=λe=>eP hR (e▸hh);have hp:=(J9 hR hh).st;by_cases e:h=v
 .subst e;rw[zb rfl] at hlt |-;have:=hf h hh (by unfold Y9 at hlt;split at hlt <;> omega);rw[zb ⟨rfl,h0⟩];unfold Y9 at hlt |-;split at hlt;·omega
  .rename_i q;rw[za q,za (by omega)];omega
 .rw[za e] at hlt |-;rw[za (λq=>e q.1.symm)];exact hf h hh hlt
theorem tX{x:Hp}(hR:SR x.S){L:List Int}{v:Int}(hf:aI x (v::L)):aI (aD x v) L:=by
 intro h hh hlt;unfold aD at hh hlt |-;rw[(H8 hR v λc=>P2).lv] at hh;rw[vt hR v (λc=>P2) hh] at hlt |-;rw[xg hR v λc=>P2];have h0:h≠0:=λe=>eP hR (e▸hh);have hp:=(J9 hR hh).st;by_cases e:h=v
 .subst e;rw[zb rfl] at hlt |-;have:=hf h hh (by unfold kP at hlt;split at hlt <;> omega);rw[H2,zb ⟨rfl,h0⟩] at this;unfold kP at hlt |-;split at hlt;·omega
  .rename_i q;rw[za q,za (by omega)];omega
 .rw[za e] at hlt |-;have:=hf h hh hlt;rw[H2,za (λq=>e q.1.symm)] at this;exact this
theorem aI.mv{x x':Hp}{L L':List Int}(hf:aI x L)(hl:lv x'.S=lv x.S)(hs:∀h∈lv x.S,(ob x'.S h).Strong=(ob x.S h).Strong)(hn:∀h∈lv x.S,lK x' h+Q0 L' h=lK x h+Q0 L h):aI x' L':=by
 intro h hh hlt;rw[hl] at hh;rw[hs h hh] at hlt |-;rw[hf h hh hlt,hn h hh]
theorem xj:∀ {l:List Int} {r:Nat} (hr:r<l.length) (h k:Int),Q0 (l.set r h) k+Q0 [l.getD r 0] k=Q0 l k+Q0 [h] k
 | [],_,hr,_,_=>by simp at hr
 | a::l,0,_,h,k=>by
  rw[List.set_cons_zero,List.getD_cons_zero,H2 h l,H2 a l,H2 a [],H2 h [],H9];omega
 | a::l,r+1,hr,h,k=>by
  rw[List.set_cons_succ,List.getD_cons_succ,H2 a,H2 a l];have:=xj (l:=l) (r:=r) (by simpa using hr) h k;omega
theorem rT{x x1:Hp}(hx:K0 x){old new:Int}(h1:jY (E7 x new)->Wk (E7 x new)->jY x1/\Wk x1)
  (hl:lv x1.S=lv (E7 x new).S)(hs:∀h∈lv x.S,(ob x1.S h).Strong=(ob (E7 x new).S h).Strong)(hn:∀h∈lv x.S,lK x1 h+Q0 [old] h=lK x h+Q0 [new] h):K0 (aD x1 old):=by
 have l1:lv (E7 x new).S=lv x.S:=(H8 hx.sh.sr new λc=>E6).lv;have f1:aI (E7 x new) [new]:=Ff hx.sh.sr hx.fair new;obtain⟨h2,w2⟩:=h1 (hx.sh.st new λc=>E6) (hx.wk.st hx.sh.sr new λc=>E6);have f2:aI x1 [old]:=f1.mv hl (λh hh=>hs h (l1▸hh)) λh hh=>by
  rw[hn h (l1▸hh)];unfold E7;rw[xg hx.sh.sr new λc=>E6]
 exact⟨h2.st _ λc=>P2,w2.st h2.sr _ λc=>P2,tX h2.sr f2⟩
noncomputable def G2(x:Hp)(r:Nat)(h:Int):Hp:=aD (wR (E7 x h) (x.Roots.set r h)) (x.Roots.getD r 0)
theorem bO{x:Hp}(hx:K0 x){r:Nat}(hr:r<6){h:Int}(hh:h=0\/h∈lv x.S):K0 (G2 x r h):=by
 have l1:lv (E7 x h).S=lv x.S:=(H8 hx.sh.sr h λc=>E6).lv;refine rT hx (λa b=>⟨a.roots (by rw[zap];exact hx.sh.r6) (λv hv=>?_),b⟩) rfl (λ_ _=>rfl) (λk hk=>?_)
 .rw[l1];rcases zas hv with q | q
  .exact hx.sh.rt v q
  .exact q▸hh
 .have hi:=(H8 hx.sh.sr h λc=>E6).jW hx.sh.sr k;rw[po];unfold lK nZ;dsimp only;rw[show jW (E7 x h).S k=jW x.S k from hi,F9,F9,pF,pF];have:=xj (l:=x.Roots) (r:=r) (by rw[hx.sh.r6];exact hr) h k;omega
theorem Jn{α:Type}:∀ {l:List α} (hn:l.Nodup) {a:α} (ha:a∈l) (f g:α->Nat) (h:∀x∈l,x≠a->f x=g x),(l.map g).sum+f a=(l.map f).sum+g a
 | [],_,_,ha,_,_,_=>by cases ha
 | b::l,hn,a,ha,f,g,h=>by
  rw[me] at hn;rw[zR,zR,zbd,zbd];rcases zM.1 ha with e | e
  .subst e;have:l.map g=l.map f:=zt λx hx=>(h x (zn _ hx) λe=>hn.1 (e▸hx)).symm;rw[this];omega
  .have:=Jn hn.2 e f g λx hx=>h x (zn _ hx);have:=h b (zg ..) λq=>hn.1 (q▸e);omega
abbrev rq(o:n9)(l:List Int):n9:=⟨o.Serial,o.Strong,o.Weak,o.Prog,o.Started,l⟩
theorem Ip{s:b6}(hR:SR s){h:Int}(hh:h∈lv s){o:n9}(hs:o.Serial=(ob s h).Serial)(ho:As s o)(y:Int):jW (cU s h o) y+Q0 (ob s h).Fields y=jW s y+Q0 o.Fields y:=by
 have hle:=H6 hR hh;have:=Jn (tA (A2.2 hR)) hh (λx=>Q0 (outs s x) y) (λx=>Q0 (outs (cU s h o) x) y) λx hx hne=>by
  have:=H6 hR hx;unfold outs;rw[gi hR hh hs ho (by omega),za hne]
 have e:Q0 (outs (cU s h o) h) y=Q0 o.Fields y:=by
  unfold outs;rw[gi hR hh hs ho (by omega),zb rfl,pF]
 have e2:Q0 (outs s h) y=Q0 (ob s h).Fields y:=pF _ _;rw[e,e2] at this;unfold jW;rw[iD hR hh hs ho];exact this
noncomputable def bG(x:Hp)(h:Int)(k:Nat)(v:Int):Hp:=aD (wS (E7 x v) (cU (E7 x v).S h (rq (ob (E7 x v).S h) ((ob x.S h).Fields.set k v)))) ((ob x.S h).Fields.getD k 0)
theorem Cp{x:Hp}(hx:K0 x){h:Int}(hh:h∈lv x.S){k:Nat}(hk:k<(ob x.S h).Fields.length){v:Int}(hv:v=0\/v∈lv x.S):K0 (bG x h k v):=by
 have wq:=H8 hx.sh.sr v (f:=Y9) λc=>E6;have l1:lv (E7 x v).S=lv x.S:=wq.lv;have hR1:SR (E7 x v).S:=wq.sr;have hh1:h∈lv (E7 x v).S:=by rw[l1];exact hh
 have hle:=H6 hx.sh.sr hh;have hof:(ob (E7 x v).S h).Fields=(ob x.S h).Fields:=by
  obtain⟨n,e⟩:=wq.ob h (by omega);show (ob (uf x v Y9).S h).Fields=_;rw[e]
 have ho:As (E7 x v).S (rq (ob (E7 x v).S h) ((ob x.S h).Fields.set k v)):=by
  have:=J9 hR1 hh1;refine⟨this.s1,this.s2,this.st,this.wk,this.p1,this.p2,?_⟩;have h4:=this.fl;rw[hof] at h4;simpa using h4
 have hob:∀j,j∈lv x.S->ob (cU (E7 x v).S h (rq (ob (E7 x v).S h) ((ob x.S h).Fields.set k v))) j=if j=h then rq (ob (E7 x v).S h) ((ob x.S h).Fields.set k v) else ob (E7 x v).S j:=λj hj=>by
  have:=H6 hx.sh.sr hj;exact gi (o:=rq (ob (E7 x v).S h) ((ob x.S h).Fields.set k v)) hR1 hh1 rfl ho (by omega)
 refine rT hx (λa b=>⟨?_,?_⟩) (iD (o:=rq (ob (E7 x v).S h) ((ob x.S h).Fields.set k v)) hR1 hh1 rfl ho) (λj hj=>?_) (λj hj=>?_)
 .refine a.of (bP (o:=rq (ob (E7 x v).S h) ((ob x.S h).Fields.set k v)) hR1 hh1 rfl ho) (iD (o:=rq (ob (E7 x v).S h) ((ob x.S h).Fields.set k v)) hR1 hh1 rfl ho) (λj i q=>(Ds (o:=rq (ob (E7 x v).S h) ((ob x.S h).Fields.set k v)) hR1 hh1 rfl ho).2 q) (λj hj q=>?_) (λj hj u hu=>?_)
  .rw[hob j (l1▸hj)];split;·rename_i e;subst e;exact q
   .exact q
  .rw[hob j (l1▸hj)] at hu;split at hu
   .rename_i e;subst e;rcases zas hu with q | q
    .exact a.fl j hj u (by rw[hof];exact q)
    .rw[l1,q];exact hv
   .exact a.fl j hj u hu
 .intro i hi ht;dsimp only at hi ht |-;have hp:=o6 hR1 hh1;unfold cU at hi;rw[J2] at hi;have hce:=yQ (o:=rq (ob (E7 x v).S h) ((ob x.S h).Fields.set k v)) hR1 hh1 rfl ho i;rw[hce] at ht |-;split at ht
  .rename_i e;subst e;rw[zb rfl];have:=b _ hp.1 (.inl hp.2.1);dsimp only;refine⟨?_,λq=>absurd q (by rw[hp.2.1];decide)⟩;rw[<-this.1,F1 hR1 hp]
  .rename_i e;rw[za e];exact b i hi ht
 .rw[hob j hj];split;·rename_i e;subst e;rfl
  .rfl
 .have hi:=Ip (o:=rq (ob (E7 x v).S h) ((ob x.S h).Fields.set k v)) hR1 hh1 rfl ho j;have hi2:=wq.jW hx.sh.sr j;have hi2:jW (E7 x v).S j=jW x.S j:=hi2;rw[hi2,hof] at hi;dsimp only at hi;have:=xj hk v j;have hrest:E7 x v=wS x (E7 x v).S:=po x v;unfold lK nZ;dsimp only;rw[show (E7 x v).T=x.T by rw[hrest],show (E7 x v).Roots=x.Roots by rw[hrest],show (E7 x v).Q=x.Q by rw[hrest]];omega
theorem NB{t:Tb}(hT:HR t){k v:Int}{r:Tb × Int × Int}(h:U3 t k v=some r)(h0:r.2.2=0):HR r.1/\(∀y,own r.1 y+Q0 [r.2.1] y=own t y+Q0 [v] y)/\∀k' v',Has r.1 k' v'->Has t k' v'\/(k'=k/\v'=v/\v≠0):=by
 obtain⟨r',e1,e2,_,e3⟩:=dK hT k v;rw[h] at e1;cases e1;refine⟨e2,?_⟩;have hos:∀(i:Nat) (p:g6) (y:Int),i<t.length->own (t.set i p) y+(if (pt t i).State=1/\(pt t i).Val=y/\y≠0 then 1 else 0)=own t y+if p.State=1/\p.Val=y/\y≠0 then 1 else 0:=λi p y hi=>by
  have key:∀q:g6,(if ((q.State==1)&&((y != 0)&&(q.Val==y)))=true then 1 else 0:Nat)=if q.State=1/\q.Val=y/\y≠0 then 1 else 0:=λq=>by
   by_cases c:q.State=1/\q.Val=y/\y≠0
   .rw[zb c,zb (by simp[c.1,c.2.1,c.2.2])]
   .rw[za c,za (by simp only[zy,pu,bne_iff_ne,ne_eq];exact λq=>c ⟨q.1,q.2.2,q.2.1⟩)]
  have:=IS hi p y;rw[key,key] at this;exact this
 rcases e3 with ⟨_,rfl⟩ | ⟨hk,hv,⟨i,hi,rfl⟩ | ⟨hn,rfl⟩⟩ | ⟨hk,hv,⟨i,hi,rfl⟩ | ⟨d,hn,hd,hf,hp,rfl⟩ | ⟨hn,ha,rfl⟩⟩;·simp at h0
 .refine⟨λy=>?_,λk' v' q=>.inl ((sC hT hi k' v').1 q).2⟩;have:=hos i ⟨2,0,0⟩ y hi.1;rw[H2,H2,H9];subst hv;dsimp only at this |-;rw[za (show ¬((2:Int)=1/\(0:Int)=y/\y≠0) by omega)] at this;rw[za (show ¬((0:Int)=y/\y≠0) by omega)];simp only[hi.2.1,true_and] at this;omega
 .refine⟨λy=>?_,λk' v' q=>.inl q⟩;rw[hv]
 .refine⟨λy=>?_,λk' v' q=>?_⟩
  .have:=hos i ⟨1,k,v⟩ y hi.1;rw[H2,H2,H9];simp only[hi.2.1,true_and] at this;dsimp only;omega
  .rcases (xb hT (.old i hi) rfl k' v').1 q with ⟨a,b⟩ | ⟨_,b⟩;·exact .inr ⟨a,b,hv⟩
   .exact .inl b
 .refine⟨λy=>?_,λk' v' q=>?_⟩
  .have:=hos d ⟨1,k,v⟩ y hd;rw[H2,H2,H9];dsimp only;rw[za (show ¬((0:Int)=y/\y≠0) by omega)];simp only[hf,false_and,true_and,t8] at this;omega
  .rcases (xb hT hp rfl k' v').1 q with ⟨a,b⟩ | ⟨_,b⟩;·exact .inr ⟨a,b,hv⟩
   .exact .inl b
 .simp at h0
noncomputable def iJ(x:Hp)(v:Int)(t:Tb)(old:Int):Hp:=aD (wT (E7 x v) t) old
theorem EO{x:Hp}(hx:K0 x){k v:Int}(hk:k∈lv x.S)(hv:v=0\/v∈lv x.S){r:Tb × Int × Int}(h:U3 x.T k v=some r)(h0:r.2.2=0):K0 (iJ x v r.1 r.2.1):=by
 have wq:=H8 hx.sh.sr v (f:=Y9) λc=>E6;have l1:lv (E7 x v).S=lv x.S:=wq.lv;obtain⟨p1,p2,p3⟩:=NB hx.sh.hr h h0;refine rT hx (λa b=>⟨a.table p1 λk' v' q=>?_,b⟩) rfl (λ_ _=>rfl) (λj hj=>?_)
 .rw[l1];rcases p3 k' v' q with q | ⟨rfl,rfl,hne⟩
  .exact hx.sh.pr k' v' q
  .exact⟨hk,hv.resolve_left hne⟩
 .have hi2:jW (E7 x v).S j=jW x.S j:=wq.jW hx.sh.sr j;have hrest:E7 x v=wS x (E7 x v).S:=po x v;unfold lK nZ;dsimp only;rw[show (E7 x v).Roots=x.Roots by rw[hrest],show (E7 x v).Q=x.Q by rw[hrest],hi2];have:=p2 j;omega
instance(s:b6)(h:Int)(i:Nat):Decidable (T9 s h i):=by unfold T9;infer_instance
abbrev Xu(o:n9)(n:Int):n9:=⟨o.Serial,o.Strong,n,o.Prog,o.Started,o.Fields⟩
def lF(s:b6)(i:Nat)(d:Int):b6:=fL s i (Xu (ce s i).Val ((ce s i).Val.Weak+d))
def DK(s:b6)(i:Nat):b6:=H7 s i (if (ce s i).Gen=s.S.Last then ⟨3,(ce s i).Gen,z0⟩ else ⟨0,(ce s i).Gen+1,z0⟩)
def bX(s:b6)(i:Nat):Int:=1+(i:Int)+32*(ce s i).Gen
theorem wO{s:b6}{i:Nat}(hi:i<s.S.b7.length)(ht:Th (ce s i)):T9 s (bX s i) i:=⟨hi,ht,rfl⟩
theorem ta{s:b6}(hR:SR s){i:Nat}(hi:i<s.S.b7.length):1<=bX s i:=by
 have:=hR.cell i hi;unfold bX;omega
section
variable{s:b6}(hR:SR s){i:Nat}(hi:i<s.S.b7.length)(ht:Th (ce s i))
include hR hi ht
theorem uV{d:Int}(hd:0<=(ce s i).Val.Weak+d):SR (lF s i d):=by
 have:=hR.ok i hi ht;exact hR.put hi ht rfl ⟨this.s1,this.s2,this.st,hd,this.p1,this.p2,this.fl⟩
theorem eU(d:Int)(j:Nat):ce (lF s i d) j=if j=i then ⟨(ce s i).State,(ce s i).Gen,Xu (ce s i).Val ((ce s i).Val.Weak+d)⟩ else ce s j:=mG hi _ j
theorem mW{d:Int}(hd:0<=(ce s i).Val.Weak+d):Kn s (lF s i d):=by
 have hS:=uV hR hi ht hd;refine⟨hS,J2 ..,MM hR hi rfl hS,λk j=>wP hi _,λk hk=>?_⟩;have q:=o6 hR hk;rw[F1 hS ((xy hi _).2 q),F1 hR q,eU hR hi ht];split
 .rename_i e;rw[e];exact⟨_,_,rfl⟩
 .exact⟨_,_,rfl⟩
theorem mX{d:Int}(hd:0<=(ce s i).Val.Weak+d){k:Int}(hk:k∈lv s):(ob (lF s i d) k).Strong=(ob s k).Strong:=by
 have hS:=uV hR hi ht hd;have q:=o6 hR hk;rw[F1 hS ((xy hi _).2 q),F1 hR q,eU hR hi ht];split
 .rename_i e;rw[e]
 .rfl
omit ht in
theorem Cy:SR (DK s i):=by
 have hc:=hR.cell i hi;have no:Jw (oo z0):=⟨rfl,rfl,rfl,rfl,rfl,rfl⟩;unfold DK;split;·exact hR.H7 hi ⟨by simp,by simp,hc.2.2.1,hc.2.2.2⟩ (λ_=>no) (λq=>absurd q (by unfold Th;simp))
 .refine hR.H7 hi ⟨by simp,by simp,?_,?_⟩ (λ_=>no) (λq=>absurd q (by unfold Th;simp));·show 0<=(ce s i).Gen+1;omega
  .show (ce s i).Gen+1<=s.S.Last;omega
omit hR ht in
theorem Cu:∃c,(c.State=0\/c.State=3)/\DK s i=H7 s i c/\∀j,ce (DK s i) j=if j=i then c else ce s j:=by
 unfold DK;split;·exact⟨_,.inr rfl,rfl,λj=>K6 hi _ j⟩
 .exact⟨_,.inl rfl,rfl,λj=>K6 hi _ j⟩
omit ht in
theorem Cv (h2:(ce s i).State=2):lv (DK s i)=lv s:=by
 obtain⟨c,c1,c2,_⟩:=Cu (s:=s) hi;have hS:=Cy hR hi;rw[c2] at hS |-;rw[Iz hR hi (by omega) hS,zbk];intro h hh;rw[zF];intro e;have:=(o6 hR hh).2.1;rw[e] at this;omega
omit ht in
theorem Cx (h2:(ce s i).State=2) {k:Int} (hk:k∈lv s):ob (DK s i) k=ob s k:=by
 obtain⟨c,c1,c2,_⟩:=Cu (s:=s) hi;have hS:=Cy hR hi;rw[c2] at hS |-;refine IK hR hi hS hk λe=>?_;have:=(o6 hR hk).2.1;rw[e] at this;omega
omit ht in
theorem TE {k:Int} {j:Nat}:T9 (DK s i) k j↔T9 s k j/\j≠i:=by
 obtain⟨c,c1,c2,c3⟩:=Cu (s:=s) hi;by_cases e:j=i
 .subst e;constructor
  .rintro⟨_,h,_⟩;rw[c3,zb rfl] at h;unfold Th at h;omega
  .rintro⟨_,h⟩;exact absurd rfl h
 .rw[c2,DR hi c e];simp[e]
theorem Qc(h2:(ce s i).State=2)(y:Int):jW (DK s i) y=jW s y:=by
 unfold jW;rw[Cv hR hi h2];congr 1;refine zt λx hx=>?_;unfold outs;rw[Cx hR hi h2 hx]
end
def iu(x:Hp)(h:Int)(d:Int):Hp:=if T9 x.S h (D7 h) then wS x (lF x.S (D7 h) d) else x
def pG(x:Hp)(h:Int):Hp:=
 if T9 x.S h (D7 h) then
  (if (ce x.S (D7 h)).State=2/\(ce x.S (D7 h)).Val.Weak=1 then wS x (DK (lF x.S (D7 h) (-1)) (D7 h)) else wS x (lF x.S (D7 h) (-1)))
 else x
abbrev fE(h call:Int):k9:=⟨h,h != 0,call⟩
def ma(x:Hp)(w:Nat):Int:=(x.b7.getD w ⟨0,false,0⟩).Target
def cH(x:Hp)(w:Nat)(h call:Int):Hp:=pG (iu (wC x (x.b7.set w (fE h call))) h 1) (ma x w)
theorem IG{l:List k9}{w:Nat}(hw:w<l.length)(c:k9){k:Int}(hk:k≠0):jd (l.set w c) k+(if l[w].Target=k then 1 else 0)=jd l k+if c.Target=k then 1 else 0:=by
 unfold jd;rw[List.countP_set hw];have e:∀d:k9,(((k != 0)&&(d.Target==k))=true)=(d.Target=k):=λd=>by simp[hk]
 simp only[e];have:(if l[w].Target=k then 1 else 0)<=l.countP λc=>(k != 0)&&(c.Target==k):=by
  split
  .rename_i q;exact zbw.2 ⟨l[w],zh hw,by simp[q,hk]⟩
  .exact zV _
 omega
theorem tN{l:List k9}{i:Nat}(hi:i<l.length)(h0:l[i].Target≠0):0<jd l l[i].Target:=zbw.2 ⟨l[i],zh hi,by simp[h0]⟩
theorem vW{x:Hp}(hx:K0 x){w:Nat}(hw:w<6){h call:Int}(hh:h=0\/h∈lv x.S)(hc : -1<=call/\call<=5)(hq:wb x.Q w=false):K0 (cH x w h call):=by
 have hR:=hx.sh.sr;have hwl:w<x.b7.length:=by rw[hx.sh.c6];exact hw
 have htg:ma x w=x.b7[w].Target:=by
  unfold ma;rw[zd,zc hwl];rfl
 have s1:jY (wC x (x.b7.set w (fE h call))):=by
  have:=hx.sh;refine⟨this.sr,this.hr,this.r6,by simpa using this.c6,this.cap,this.q30,this.tk,this.td,this.rt,this.fl,this.pr,λi hi=>?_⟩;dsimp only at hi |-;rw[zcp];rw[zap] at hi;split
  .rename_i e;subst e;dsimp only;refine⟨hc.1,hc.2,λq=>by simp[q],λq=>?_,λq=>?_⟩;·exact⟨_,(o6 hR (hh.resolve_left q)).d⟩
   .have q:h≠0:=by simpa using q
    exact⟨hh.resolve_left q,hq⟩
  .exact this.cl i hi
 have k2:∃s2,iu (wC x (x.b7.set w (fE h call))) h 1=wS (wC x (x.b7.set w (fE h call))) s2/\Kn x.S s2/\(∀k∈lv x.S,(ob s2 k).Strong=(ob x.S k).Strong) /\
   ∀i,i<x.S.S.b7.length->(ce s2 i).State=(ce x.S i).State/\(ce s2 i).Gen=(ce x.S i).Gen/\(ce s2 i).Val.Fields=(ce x.S i).Val.Fields/\(ce s2 i).Val.Strong=(ce x.S i).Val.Strong/\(Th (ce x.S i)->(ce s2 i).Val.Weak=(ce x.S i).Val.Weak+if h=bX x.S i then 1 else 0):=by
  unfold iu;rcases hh with h0 | hh
  .have hno:¬T9 x.S h (D7 h):=λq=>by have:=q.KJ hR;omega
   rw[za hno];refine⟨x.S,rfl,(vB.refl hR).kn hR,λ_ _=>rfl,λi hi=>⟨rfl,rfl,rfl,rfl,λht=>?_⟩⟩;have:=ta hR hi;rw[za (by omega)];omega
  .have hp:=o6 hR hh;have hwk:=(hR.ok _ hp.1 (.inl hp.2.1)).wk;rw[zb hp.d];refine⟨_,rfl,mW hR hp.1 (.inl hp.2.1) (by omega),λk hk=>mX hR hp.1 (.inl hp.2.1) (by omega) hk,λi hi=>?_⟩;rw[eU hR hp.1 (.inl hp.2.1)];split
   .rename_i e;subst e;refine⟨rfl,rfl,rfl,rfl,λ_=>?_⟩;rw[zb (show h=bX x.S (D7 h) from hp.2.2)]
   .rename_i e;refine⟨rfl,rfl,rfl,rfl,λht=>?_⟩;rw[za];·omega
    .intro q;exact e (T9.one hR (q▸wO hi ht) hp.d)
 obtain⟨s2,e2,kn2,st2,ce2⟩:=k2;have hR2:=kn2.sr;have len2:=kn2.len;have hS2:jY (wS (wC x (x.b7.set w (fE h call))) s2):=s1.kn kn2;have hdl2:∀i,i<x.S.S.b7.length->bX s2 i=bX x.S i:=λi hi=>by unfold bX;rw[(ce2 i hi).2.1]
 have th2:∀i,i<x.S.S.b7.length->(Th (ce s2 i)↔Th (ce x.S i)):=λi hi=>by unfold Th;rw[(ce2 i hi).1]
 have wk2:∀i,i<x.S.S.b7.length->Th (ce x.S i)->(ce s2 i).Val.Weak=(jd (x.b7.set w (fE h call)) (bX x.S i):Int)+if ma x w=bX x.S i then 1 else 0:=λi hi ht=>by
  have h0:bX x.S i≠0:=by have:=ta hR hi;omega
  have:=IG hwl (fE h call) h0;rw[(ce2 i hi).2.2.2.2 ht,(hx.wk i hi ht).1,htg];dsimp only at this;unfold bX at this |-;by_cases a:h=1+(i:Int)+32*(ce x.S i).Gen <;> by_cases b:x.b7[w].Target=1+(i:Int)+32*(ce x.S i).Gen
  .rw[zb a,zb b] at *;omega
  .rw[zb a,za b] at *;omega
  .rw[za a,zb b] at *;omega
  .rw[za a,za b] at *;omega
 have dd2:∀i,i<x.S.S.b7.length->(ce s2 i).State=2->(ce s2 i).Val.Fields = []/\(ce s2 i).Val.Strong=0:=λi hi q=>by
  obtain⟨a,_,b,c,_⟩:=ce2 i hi;rw[a] at q;rw[b,c];exact ((hx.wk i hi (.inr q)).2 q).2
 have nms2:∀k,lK (wS (wC x (x.b7.set w (fE h call))) s2) k=lK x k:=λk=>by
  unfold lK nZ;dsimp only;rw[kn2.jW]
 have fair2:aI (wS (wC x (x.b7.set w (fE h call))) s2) []:=hx.fair.mv kn2.lv st2 λk _=>by rw[nms2]
 unfold cH;rw[e2];unfold pG;dsimp only;by_cases hold:ma x w=0
 .have hno:¬T9 s2 (ma x w) (D7 (ma x w)):=λq=>by have:=q.KJ hR2;omega
  rw[za hno];refine⟨hS2,λi hi ht=>?_,fair2⟩;dsimp only at hi ht |-;rw[len2] at hi;have ht':=(th2 i hi).1 ht;have h0:=ta hR hi;have hw2:=wk2 i hi ht';rw[za (by omega)] at hw2;rw[show (1+(i:Int)+32*(ce s2 i).Gen)=bX x.S i from hdl2 i hi];refine⟨by omega,λq=>⟨?_,dd2 i hi q⟩⟩;have q':(ce x.S i).State=2:=by rw[<-(ce2 i hi).1];exact q
  have:=((hx.wk i hi ht').2 q').1;rw[(ce2 i hi).2.2.2.2 ht'];split <;> omega
 .obtain⟨p,hp⟩:∃p,T9 x.S (ma x w) p:=by
   rw[htg] at hold |-;exact (hx.sh.cl w hwl).2.2.2.1 hold
  have hpp:=hp.D7 hR;have hp2:T9 s2 (ma x w) p:=(kn2.ad _ _).2 hp;have hth:ma x w=bX x.S p:=hp.2.2;rw[hpp,zb hp2];have hpl2:=hp2.1;have hw2:=wk2 p hp.1 hp.2.1;rw[zb hth] at hw2;have hd:0<=(ce s2 p).Val.Weak+(-1):=by omega
  have kn3:=mW hR2 hpl2 hp2.2.1 hd;have hR3:=kn3.sr;have ce3:=eU hR2 hpl2 hp2.2.1 (-1);have hS3:jY (wS (wC x (x.b7.set w (fE h call))) (lF s2 p (-1))):=hS2.kn kn3;have fair3:aI (wS (wC x (x.b7.set w (fE h call))) (lF s2 p (-1))) []:=fair2.mv kn3.lv (λk hk=>mX hR2 hpl2 hp2.2.1 hd hk) λk _=>by
   unfold lK nZ;dsimp only;rw[kn3.jW]
  have wk3:∀i,i<x.S.S.b7.length->Th (ce x.S i)->(ce (lF s2 p (-1)) i).Val.Weak=(jd (x.b7.set w (fE h call)) (bX x.S i):Int):=λi hi ht=>by
   rw[ce3];by_cases e:i=p
   .subst e;rw[zb rfl];dsimp only;omega
   .rw[za e,wk2 i hi ht,za];·omega
    .intro q;exact e (T9.one hR (q▸wO hi ht) hp)
  have cs3:∀i,(ce (lF s2 p (-1)) i).State=(ce s2 i).State/\(ce (lF s2 p (-1)) i).Gen=(ce s2 i).Gen/\(ce (lF s2 p (-1)) i).Val.Fields=(ce s2 i).Val.Fields/\(ce (lF s2 p (-1)) i).Val.Strong=(ce s2 i).Val.Strong:=λi=>by
   rw[ce3];split
   .rename_i e;subst e;exact⟨rfl,rfl,rfl,rfl⟩
   .exact⟨rfl,rfl,rfl,rfl⟩
  by_cases hg:(ce s2 p).State=2/\(ce s2 p).Val.Weak=1
  .-- the slot is given back
   rw[zb hg];have hpl3:p<(lF s2 p (-1)).S.b7.length:=by rw[kn3.len];exact hpl2
   have h23:(ce (lF s2 p (-1)) p).State=2:=by rw[(cs3 p).1];exact hg.1
   have hn0:jd (x.b7.set w (fE h call)) (ma x w)=0:=by rw[hth];omega
   have hlv:=Cv hR3 hpl3 h23;have hob:=λk hk=>Cx (k:=k) hR3 hpl3 h23 hk;obtain⟨c,c1,c2,c3⟩:=Cu (s:=lF s2 p (-1)) hpl3;refine⟨⟨Cy hR3 hpl3,hS3.hr,hS3.r6,hS3.c6,hS3.cap,hS3.q30,λt htt=>?_,hS3.td,λv hv=>?_,λv hv u hu=>?_,λk v hkv=>?_,λi hi=>?_⟩,λi hi ht=>?_,?_⟩
   .obtain⟨a,b,d⟩:=hS3.tk t htt;refine⟨a,b,?_⟩;dsimp only at d |-;rw[hlv];rcases d with ⟨d1,d2,d3⟩ | d;·exact .inl ⟨d1,d2,by rw[hob _ d2];exact d3⟩
    .exact .inr d
   .dsimp only;rw[hlv];exact hS3.rt v hv
   .dsimp only at hv hu |-;rw[hlv] at hv |-;rw[hob _ hv] at hu;exact hS3.fl v hv u hu
   .dsimp only;rw[hlv];exact hS3.pr k v hkv
   .obtain⟨a1,a2,a3,a4,a5⟩:=hS3.cl i hi;refine⟨a1,a2,a3,λq=>?_,λq=>?_⟩
    .obtain⟨j,hj⟩:=a4 q;refine⟨j,(TE hR3 hpl3).2 ⟨hj,λe=>?_⟩⟩;subst e;have e1:=(kn2.ad _ _).1 ((kn3.ad _ _).1 hj);have e2:(x.b7.set w (fE h call))[i].Target=ma x w:=e1.2.2.trans hp.2.2.symm;have:=tN hi q;dsimp only at this;rw[e2] at this;omega
    .dsimp only;rw[hlv];exact a5 q
   .dsimp only at hi ht |-;rw[show (DK (lF s2 p (-1)) p).S.b7.length=x.S.S.b7.length by rw[c2,V6,kn3.len,len2]] at hi;rw[c3] at ht |-;split at ht;·unfold Th at ht;omega
    .rename_i e;rw[za e];have ht':Th (ce x.S i):=(th2 i hi).1 (by unfold Th at ht |-;rw[(cs3 i).1] at ht;exact ht);have:=wk3 i hi ht';rw[show (1+(i:Int)+32*(ce (lF s2 p (-1)) i).Gen)=bX x.S i by rw[(cs3 i).2.1];exact hdl2 i hi];refine⟨this,λq=>?_⟩;rw[(cs3 i).1] at q;rw[(cs3 i).2.2.1,(cs3 i).2.2.2,ce3,za e];refine⟨?_,dd2 i hi q⟩;have q':(ce x.S i).State=2:=by rw[<-(ce2 i hi).1];exact q
     have:=((hx.wk i hi ht').2 q').1;rw[(ce2 i hi).2.2.2.2 ht'];split <;> omega
   .refine fair3.mv hlv (λk hk=>by rw[hob k hk]) λk _=>?_;unfold lK nZ;dsimp only;rw[Qc hR3 hpl3 (.inr h23) h23]
  .rw[za hg];refine⟨hS3,λi hi ht=>?_,fair3⟩;dsimp only at hi ht |-;rw[kn3.len,len2] at hi;have ht':Th (ce x.S i):=(th2 i hi).1 (by unfold Th at ht |-;rw[(cs3 i).1] at ht;exact ht);have:=wk3 i hi ht';rw[show (1+(i:Int)+32*(ce (lF s2 p (-1)) i).Gen)=bX x.S i by rw[(cs3 i).2.1];exact hdl2 i hi];refine⟨this,λq=>?_⟩;rw[(cs3 i).1] at q;rw[(cs3 i).2.2.1,(cs3 i).2.2.2];refine⟨?_,dd2 i hi q⟩;rw[ce3];split
   .rename_i e;subst e;dsimp only;have:(ce s2 i).Val.Weak≠1:=λq2=>hg ⟨q,q2⟩;omega
   .have q':(ce x.S i).State=2:=by rw[<-(ce2 i hi).1];exact q
    have:=((hx.wk i hi ht').2 q').1;rw[(ce2 i hi).2.2.2.2 ht'];split <;> omega
def Yy(c:k9):gY:=⟨c.Target,c.Intact,c.Call⟩
def hO(x:Hp):lT:=⟨sO x.S,x.Roots,x.b7.map Yy,x.T.map eN,Yw x.Q⟩
structure HB (x:Hp):Prop where
 sb:SB x.S
 fb:FB x.S
 rb:LB x.Roots
 cb:∀c∈x.b7,c.Target<=9223372036854775807
 tb:TB x.T
 qb:∀t∈x.Q.L,t.At<=9223372036854775807
theorem VP{R:Type}{f:Int->Option (Int ⊕ (Bool ⊕ Unit))}{κ:Bool ⊕ Unit->Option R}{Q:R->Prop}(n:Nat)(p:Nat->Prop)(hn:n<4611686018427387904)
  (hs:∀k:Nat,k<n->∃z,f (k:Int)=some z/\((p k/\z = .inl ((k+1:Nat):Int))\/(¬p k/\z = .inr (.inl false))))(he:f (n:Int)=some (.inr (.inr ())))
  (h1:(∀k,k<n->p k)->∃r,κ (.inr ())=some r/\Q r)(h0:(¬∀k,k<n->p k)->∃r,κ (.inl false)=some r/\Q r):∃r,(lp f 0).bind κ=some r/\Q r:=by
 obtain⟨e,e1,e2⟩:=Bu (f:=f) n (λk=>∀j,j<k->p j) (λe=>(e = .inr ()/\∀k,k<n->p k)\/(e = .inl false/\¬∀k,k<n->p k)) hn (λj hj=>by omega) (λk hk hP=>by
  obtain⟨z,z1,z2⟩:=hs k hk;rcases z2 with ⟨a,rfl⟩ | ⟨a,rfl⟩
  .refine .inl ⟨z1,λj hj=>?_⟩;rcases zE j k with q | q
   .exact hP j q
   .have:j=k:=by omega
    subst this;exact a
  .exact .inr ⟨_,z1,.inr ⟨rfl,λq=>a (q k hk)⟩⟩) (λhP=>⟨_,he,.inl ⟨rfl,hP⟩⟩)
 rw[e1];rcases e2 with ⟨rfl,h⟩ | ⟨rfl,h⟩;·exact h1 h
 .exact h0 h
section
variable{x:Hp}(hR:SR x.S)
include hR
theorem ME{h:Int}(hh:h<=9223372036854775807):ko x h=some (decide (h∈lv x.S)):=by
 unfold ko;obtain⟨e,h1,h2⟩:=il (A2.2 hR) hh;rw[h1,Yz];congr 1;rw[za8,pu,zF,h2]
theorem N2{h:Int}(hh:h<=9223372036854775807):N7 x h=some (decide (h=0\/h∈lv x.S)):=by
 unfold N7;by_cases q:h=0
 .subst q;simp[D4]
 .have e:(h==0)=false:=by simpa using q
  rw[e];simp only[q9,iI,zca];rw[ME hR hh,Yz];simp[q]
theorem TO{c:Int}(hc:c<=9223372036854775807):pQ c=some (Y9 c):=by
 unfold pQ jt I1 Y9;simp only[Yz];by_cases q:12<=c
 .rw[zb (by simpa using q),zb q,Yz]
 .rw[za (by simpa using q),za q,Yz];by_cases q2:c<0
  .rw[zb (show 0 > c from q2),zb q2];rfl
  .rw[za (show ¬0 > c from q2),za q2,T5 (by omega) (by omega)]
omit hR in
theorem NJ {s:b6} (hR:SR s) {h:Int} (hh:h∈lv s) {n:Int} (hn:0<=n):S9 s h (AP (ob s h) n)=some (cU s h (AP (ob s h) n),0):=by
 have:=J9 hR hh;exact xe (o:=AP (ob s h) n) hR hh rfl ⟨this.s1,this.s2,hn,this.wk,this.p1,this.p2,this.fl⟩
theorem lV{h:Int}(hh:h<=9223372036854775807)(hB:∀k∈lv x.S,(ob x.S k).Strong<=9223372036854775807):bI x h=some (E7 x h):=by
 unfold bI Y7 E7 uf;obtain⟨e,h1,h2⟩:=il (A2.2 hR) hh;rw[h1,Yz];by_cases q:h∈lv x.S
 .have e0:=h2.2 q;subst e0;rw[zb q,TO hR (hB h q)];simp only[q9,wn,Yz];have:=NJ hR q (E6 (J9 hR q).st);rw[this];rfl
 .have:(e==0)=false:=by simpa using λc=>q (h2.1 c)
  rw[this,za q];rfl
omit hR in
theorem Tp (c:Int) (h1 : -1000000<=c):eK c=some (kP c):=by
 unfold eK uF fR I1 kP;simp only[Yz];by_cases q:12<=c
 .rw[zb (by simpa using q),zb q];rfl
 .rw[za (by simpa using q),za q];by_cases q2:c<1
  .rw[zb (by simpa using q2),zb q2];rfl
  .rw[za (by simpa using q2),za q2,T5 (by omega) (by omega)];rfl
theorem gh{h:Int}(hh:h<=9223372036854775807):E2 x h=some (aD x h):=by
 unfold E2 P7 aD uf;obtain⟨e,h1,h2⟩:=il (A2.2 hR) hh;rw[h1,Yz];by_cases q:h∈lv x.S
 .have e0:=h2.2 q;subst e0;have ok:=J9 hR q;rw[zb q,Tp _ (by have:=ok.st;dsimp only;omega)];simp only[q9,wn,Yz];have:=NJ hR q (P2 ok.st);rw[this];rfl
 .have:(e==0)=false:=by simpa using λc=>q (h2.1 c)
  rw[this,za q];rfl
end
theorem KV{x:Hp}(hR:SR x.S)(hB:SB x.S):∀k∈lv x.S,(ob x.S k).Strong<=9223372036854775807:=λk hk=>(BO (A2.2 hR) hB hk).2
theorem ua(x:Hp)(h:Int):(E7 x h).Roots=x.Roots/\(E7 x h).b7=x.b7/\(E7 x h).T=x.T/\(E7 x h).Q=x.Q:=by
 rw[po];exact⟨rfl,rfl,rfl,rfl⟩
theorem jK{x:Hp}(hR:SR x.S)(h:Int):SR (E7 x h).S:=(H8 hR h λc=>E6).sr
section
variable{x:Hp}(hx:K0 x)(hS:∀k∈lv x.S,(ob x.S k).Strong<=9223372036854775807)
include hx hS
theorem tz{h:Int}(hh:h=0\/h∈lv x.S):h<=9223372036854775807:=by
 rcases hh with q | q
 .omega
 .have:=H6 hx.sh.sr q;omega
theorem Jf(k:Int){h:Int}(hh:h<=9223372036854775807):bZ x k h=some (if k<0\/5<k then (x,6) else if h=0\/h∈lv x.S then (G2 x k.toNat h,0) else (x,3)):=by
 have hR:=hx.sh.sr;have r6:=hx.sh.r6;unfold bZ;by_cases hk:k<0\/5<k
 .rw[zb hk,zb (by rw[r6];simp;omega)]
 .rw[za hk,za (by rw[r6];simp;omega),N2 hR hh,Yz];by_cases hn:h=0\/h∈lv x.S
  .rw[zb hn,zD hn,za (by simp)];obtain⟨n,rfl⟩:∃n:Nat,k=n:=⟨k.toNat,by omega⟩;have hn6:n<6:=by omega
   have hnl:n<x.Roots.length:=by omega
   have old:x.Roots[n]<=9223372036854775807:=tz hx hS (hx.sh.rt _ (zh hnl));have e1:=ua x h;have hn2:n<(E7 x h).Roots.length:=by rw[e1.1];exact hnl
   rw[u5 hnl,Yz];unfold G5 T0 y7;rw[lV hR hh hS,Yz];dsimp only;rw[dm (by omega) (by rw[e1.1];omega),Yz,u5 hn2,Yz,Yz];have hrel:=gh (x:=wR (E7 x h) (x.Roots.set n h)) (jK hR h) old;rw[zP,e1.1,show E2 ⟨(E7 x h).S,x.Roots.set n h,(E7 x h).b7,(E7 x h).T,(E7 x h).Q⟩ x.Roots[n]=_ from hrel];unfold G2;rw[zd,zc hnl];rfl
  .rw[za hn,zY hn,zb (by simp)]
omit hx hS in
theorem Xx {l:List Int} {n:Nat} (hn:n<l.length):iE l n=some (l[n],0)/\Da l n=some (l[n],0):=by
 constructor
 .unfold iE gH;rw[Yz,za (by simp;omega),u5 hn,Yz]
 .unfold Da;rw[za (by simp;omega),u5 hn,Yz]
omit hx hS in
theorem HM {l:List Int} {k:Int} (hk:¬(0<=k/\k<l.length)):iE l k=some (0,5)/\Da l k=some (0,5):=by
 constructor
 .unfold iE gH;rw[Yz,zb (by simp;omega)]
 .unfold Da;rw[zb (by simp;omega)]
theorem vG(h k:Int)(hh:h<=9223372036854775807):(∃e,e≠0/\J4 x.S h k=some (0,e)/\True) \/
  (h∈lv x.S/\∃n:Nat,k=n/\∃hn:n<(ob x.S h).Fields.length,J4 x.S h k=some ((ob x.S h).Fields[n],0)/\True):=by
 have hR:=hx.sh.sr;obtain⟨e,h1,h2⟩:=il (A2.2 hR) hh;unfold J4;rw[h1,Yz];by_cases q:h∈lv x.S
 .have:=h2.2 q;subst this;rw[za (by simp)];by_cases hk:0<=k/\k<(ob x.S h).Fields.length
  .right;obtain⟨n,rfl⟩:∃n:Nat,k=n:=⟨k.toNat,by omega⟩;have hn:n<(ob x.S h).Fields.length:=by omega
   refine⟨q,n,rfl,hn,?_,?_⟩
   .rw[(Xx hn).1];rfl
   .trivial
  .left;refine⟨5,by decide,?_,?_⟩
   .rw[(HM hk).1];rfl
   .trivial
 .left;have he:(e != 0)=true:=by simpa using λc=>q (h2.1 c)
  refine⟨e,by simpa using he,?_,?_⟩;·simp only[he,wn]
  .trivial
theorem NH{s:b6}(hR:SR s){h:Int}(hh:h∈lv s){n:Nat}(hn:n<(ob s h).Fields.length)(v:Int) :
  qi s h n v=some (cU s h (rq (ob s h) ((ob s h).Fields.set n v)),0)/\True:=by
 have ok:=J9 hR hh;have hf:=ok.fl;have hle:=H6 hR hh;have ho:As s (rq (ob s h) ((ob s h).Fields.set n v)):=⟨ok.s1,ok.s2,ok.st,ok.wk,ok.p1,ok.p2,by simpa using hf⟩;have h1:=xe (o:=rq (ob s h) ((ob s h).Fields.set n v)) hR hh rfl ho;constructor
 .unfold qi;rw[uR (A2.2 hR) hh,Yz,za (by simp)];unfold mf gH;dsimp only;rw[Yz,za (by simp;omega),ky (by omega) (by omega),Yz];have e:wX (List.replicate (ob s h).Fields.length (0:Int)) (ob s h).Fields=some (ob s h).Fields:=by
   unfold wX;rw[zb (by simp)];simp
  rw[e,Yz,u5 hn,Yz,Yz,za (by simp),zP];dsimp only;rw[show S9 s h ⟨(ob s h).Serial,(ob s h).Strong,(ob s h).Weak,(ob s h).Prog,(ob s h).Started,(ob s h).Fields.set n v⟩=_ from h1];rfl
 .trivial
theorem xK(h k v:Int)(hh:h<=9223372036854775807)(hv:v<=9223372036854775807) :
  (∃e,e≠0/\ax x h k v=some (x,e)/\True) \/
  (h∈lv x.S/\(v=0\/v∈lv x.S)/\∃n:Nat,k=n/\n<(ob x.S h).Fields.length/\ax x h k v=some (bG x h n v,0)/\True):=by
 have hR:=hx.sh.sr;unfold ax;rcases vG hx hS h k hh with ⟨e,he,f1,f2⟩ | ⟨hl,n,rfl,hn,f1,f2⟩
 .left;have he':(e != 0)=true:=by simpa using he
  refine⟨e,he,?_,?_⟩;·rw[f1,Yz,zb he']
  .trivial
 .rw[f1,Yz,za (by simp),N2 hR hv,Yz];by_cases hn2:v=0\/v∈lv x.S
  .right;refine⟨hl,hn2,n,rfl,hn,?_⟩;rw[zD hn2,za (by simp)];have wq:=H8 hR v (f:=Y9) λc=>E6;have hR1:SR (E7 x v).S:=wq.sr;have hl1:h∈lv (E7 x v).S:=by rw[show lv (E7 x v).S=lv x.S from wq.lv];exact hl
   have hof:(ob (E7 x v).S h).Fields=(ob x.S h).Fields:=by
    obtain⟨m,e⟩:=wq.ob h hh;show (ob (uf x v Y9).S h).Fields=_;rw[e]
   have hn1:n<(ob (E7 x v).S h).Fields.length:=by rw[hof];exact hn
   have old:(ob x.S h).Fields[n]<=9223372036854775807:=tz hx hS (hx.sh.fl h hl _ (zh hn));have ok:=J9 hR1 hl1;have sr2:SR (cU (E7 x v).S h (rq (ob (E7 x v).S h) ((ob (E7 x v).S h).Fields.set n v))):=bP (o:=rq (ob (E7 x v).S h) ((ob (E7 x v).S h).Fields.set n v)) hR1 hl1 rfl ⟨ok.s1,ok.s2,ok.st,ok.wk,ok.p1,ok.p2,by simpa using ok.fl⟩;obtain⟨p1,p2⟩:=NH hx hS hR1 hl1 hn1 v;have hd:(ob x.S h).Fields.getD n 0=(ob x.S h).Fields[n]:=by
    rw[zd,zc hn];rfl
   constructor
   .unfold G0 cL;rw[lV hR hv hS,Yz];dsimp only;rw[p1,Yz,Yz];have hrel:=gh (x:=wS (E7 x v) (cU (E7 x v).S h (rq (ob (E7 x v).S h) ((ob (E7 x v).S h).Fields.set n v)))) sr2 old;rw[show E2 ⟨cU (E7 x v).S h (rq (ob (E7 x v).S h) ((ob (E7 x v).S h).Fields.set n v)),(E7 x v).Roots,(E7 x v).b7,(E7 x v).T,(E7 x v).Q⟩ (ob x.S h).Fields[n]=_ from hrel];unfold bG;rw[hd,hof];rfl
   .trivial
  .left;refine⟨3,by decide,?_,?_⟩;·rw[zY hn2,zb (by simp)]
   .trivial
theorem QV(k v:Int)(hk:k<=9223372036854775807)(hv:v<=9223372036854775807) :
  (∃e,e≠0/\bY x k v=some (x,e)/\True) \/
  (k∈lv x.S/\(v=0\/v∈lv x.S)/\∃r,U3 x.T k v=some r/\r.2.2=0/\bY x k v=some (iJ x v r.1 r.2.1,0)/\True):=by
 have hR:=hx.sh.sr;unfold bY;by_cases k0:k=0
 .left;subst k0;exact⟨2,by decide,by simp,trivial⟩
 .rw[za (by simpa using k0),N2 hR hk,Yz,N2 hR hv];have hkk:(k=0\/k∈lv x.S)↔k∈lv x.S:=by simp[k0]
  by_cases hl:k∈lv x.S/\(v=0\/v∈lv x.S)
  .obtain⟨hl,hn⟩:=hl;rw[zD (hkk.2 hl),zD hn];simp only[zch,q9,iI,Yz,Bool.or_self,zC,t8];obtain⟨r,r1,r2,r3,r5⟩:=dK hx.sh.hr k v;rw[r1,Yz];by_cases h0:r.2.2=0
   .right;refine⟨hl,hn,r,rfl,h0,?_⟩;have e1:(r.2.2 != 0)=false:=by simpa using h0
    have old:r.2.1<=9223372036854775807:=by
     rcases r5 with ⟨_,rfl⟩ | ⟨_,_,⟨i,hi,rfl⟩ | ⟨_,rfl⟩⟩ | ⟨_,_,⟨i,hi,rfl⟩ | ⟨d,_,_,_,_,rfl⟩ | ⟨_,_,rfl⟩⟩;·simp
     .exact tz hx hS (.inr (hx.sh.pr k _ ⟨i,hi,rfl⟩).2)
     .simp
     .exact tz hx hS (.inr (hx.sh.pr k _ ⟨i,hi,rfl⟩).2)
     .simp
     .simp
    constructor
    .rw[e1];simp only[zC,t8];unfold E0 ay;rw[lV hR hv hS,Yz,Yz];dsimp only;have hrel:=gh (x:=wT (E7 x v) r.1) (jK hR v) old;rw[show E2 ⟨(E7 x v).S,(E7 x v).Roots,(E7 x v).b7,r.1,(E7 x v).Q⟩ r.2.1=_ from hrel];rfl
    .trivial
   .left;have e1:(r.2.2 != 0)=true:=by simpa using h0
    refine⟨r.2.2,h0,by rw[zb e1],trivial⟩
  .left;refine⟨3,by decide,?_,?_⟩
   .by_cases hl2:k∈lv x.S
    .have:¬(v=0\/v∈lv x.S):=λq=>hl ⟨hl2,q⟩;rw[zD (hkk.2 hl2),zY this];rfl
    .rw[zY λq=>hl2 (hkk.1 q)];rfl
   .trivial
end
theorem Ik{s:b6}(hR:SR s){h:Int}{i:Nat}(q:T9 s h i):Q3 s.S h=some ((DK s i).S,0):=by
 have hi:=q.1;have hc:=hR.cell i hi;have l9:=hR.l9;unfold Q3 DK;rw[wU hR q,Yz,za (by simp),Ir hi,Yz];by_cases g:(ce s i).Gen=s.S.Last
 .rw[zb (by simpa using g),zb g,mh rfl hi hR.len];rfl
 .rw[za (by simpa using g),za g,mh rfl hi hR.len,T5 (by omega) (by omega)];rfl
section
variable{x:Hp}(hR:SR x.S)
include hR
theorem Bw{h d:Int}(hh:h<=9223372036854775807)(hw:T9 x.S h (D7 h) -> -1000<=(ce x.S (D7 h)).Val.Weak+d/\(ce x.S (D7 h)).Val.Weak+d<=1000):ah x h d=some (iu x h d):=by
 unfold ah iu;by_cases q:T9 x.S h (D7 h)
 .have:=hw q;rw[zb q,wU hR q,Yz];simp only[q9,wn];rw[Ir q.1,Yz,T5 (by omega) (by omega),Ob hR q,Yz];rfl
 .have hno:∀i,¬T9 x.S h i:=λi hi=>q (by rw[hi.D7 hR];exact hi);rw[za q,xx hR hh hno,Yz];have:((if h=0 then 2 else 3:Int)==0)=false:=by simpa using sH h
  simp only[this,zC,t8]
theorem Fy{h:Int}(hh:h<=9223372036854775807)(hw:T9 x.S h (D7 h)->1<=(ce x.S (D7 h)).Val.Weak/\(ce x.S (D7 h)).Val.Weak<=1000):aU x h=some (pG x h):=by
 unfold aU;rw[Bw hR hh (λq=>by have:=hw q;omega),Yz];unfold iu pG;by_cases q:T9 x.S h (D7 h)
 .have hw:=hw q;rw[zb q,zb q];have VB:=uV hR q.1 q.2.1 (d:=-1) (by omega);have q1:T9 (lF x.S (D7 h) (-1)) h (D7 h):=(wP q.1 _).2 q;dsimp only;rw[wU VB q1,Yz,za (by simp),Ir q1.1,Yz,eU hR q.1 q.2.1,zb rfl];dsimp only;by_cases c:(ce x.S (D7 h)).State=2/\(ce x.S (D7 h)).Val.Weak=1
  .rw[zb c,zb (by simp[c.1,c.2]),Ik VB q1,Yz];rfl
  .rw[za c,za (by simp only[zy,pu];omega)]
 .have hno:∀i,¬T9 x.S h i:=λi hi=>q (by rw[hi.D7 hR];exact hi);rw[za q,za q,xx hR hh hno,Yz];have:((if h=0 then 2 else 3:Int) != 0)=true:=by simpa using sH h
  simp only[this,wn]
end
theorem FH{l:List k9}(hl:l.length<=1000){n:Nat}(hn:n<l.length)(h call:Int):jO l n h call=some (l.set n (fE h call),l[n].Target,0):=by
 unfold jO jP bT;simp only[Yz];rw[za (by simp;omega),ky (by omega) (by omega),Yz];have e:wX (List.replicate l.length (⟨0,false,0⟩:k9)) l=some l:=by
  unfold wX;rw[zb (by simp)];simp
 rw[e,Yz,Yz,u5 hn,Yz,Yz,zP]
theorem Nd(l:List k9)(h:Int):jd l h<=l.length:=zci
theorem DE{x:Hp}(hx:K0 x)(k h call:Int)(hh:h<=9223372036854775807)(hc : -1<=call/\call<=5) :
  (∃e,e≠0/\R7 x k h call=some (x,e)/\True) \/
  ((h=0\/h∈lv x.S)/\∃n:Nat,k=n/\n<6/\wb x.Q n=false/\R7 x k h call=some (cH x n h call,0)/\True):=by
 have hR:=hx.sh.sr;have c6:=hx.sh.c6;have q30:=hx.sh.q30;unfold R7;by_cases hk:k<0\/5<k
 .left;have e1:((decide (k<0))||(decide (k>=(x.b7.length:Int))))=true:=by rw[c6];simp;omega
  refine⟨7,by decide,?_,?_⟩;·rw[e1];rfl
  .trivial
 .obtain⟨n,rfl⟩:∃n:Nat,k=n:=⟨k.toNat,by omega⟩;have hn6:n<6:=by omega
  have e1:((decide ((n:Int)<0))||(decide ((n:Int)>=(x.b7.length:Int))))=false:=by rw[c6];simp;omega
  rw[e1];simp only[q9,iI,zca];have hwq:aG x.Q n=some (wb x.Q n):=xh (by omega);rw[hwq,Yz,N2 hR hh,Yz];by_cases hw:wb x.Q n=true
  .left;rw[zb hw];exact⟨7,by decide,rfl,trivial⟩
  .have hw:wb x.Q n=false:=by simpa using hw
   rw[hw,za (show ¬(false=true) by decide)];by_cases hl:h=0\/h∈lv x.S
   .right;refine⟨hl,n,rfl,hn6,hw,?_⟩;have hnl:n<x.b7.length:=by omega
    rw[zD hl,za (by simp),FH (by omega) hnl,Yz];have htg:ma x n=x.b7[n].Target:=by
     unfold ma;rw[zd,zc hnl];rfl
    have wkb:∀i,i<x.S.S.b7.length->Th (ce x.S i)->0<=(ce x.S i).Val.Weak/\(ce x.S i).Val.Weak<=6:=λi hi ht=>by
     have:=(hx.wk i hi ht).1;have:=Nd x.b7 (1+(i:Int)+32*(ce x.S i).Gen);omega
    have mk1:∃s2,iu (wC x (x.b7.set n (fE h call))) h 1=wS (wC x (x.b7.set n (fE h call))) s2/\SR s2/\(∀k i,T9 s2 k i↔T9 x.S k i)/\(∀i,i<x.S.S.b7.length->Th (ce x.S i)->(ce x.S i).Val.Weak<=(ce s2 i).Val.Weak/\(ce s2 i).Val.Weak<=(ce x.S i).Val.Weak+1) /\
      (h≠0->True)/\(h=0->s2=x.S):=by
     unfold iu;by_cases h0:h=0
     .have hno:¬T9 x.S h (D7 h):=λq=>by have:=q.KJ hR;omega
      rw[za hno];exact⟨x.S,rfl,hR,λ_ _=>Iff.rfl,λi _ _=>by omega,λq=>absurd h0 q,λ_=>rfl⟩
     .have hll:=hl.resolve_left h0;have hp:=o6 hR hll;have hb:=wkb _ hp.1 (.inl hp.2.1);rw[zb hp.d];have kn:=mW hR hp.1 (.inl hp.2.1) (d:=1) (by omega);refine⟨_,rfl,kn.sr,kn.ad,λi hi ht=>?_,λ_=>trivial,λq=>absurd q h0⟩;rw[eU hR hp.1 (.inl hp.2.1)];split;·rename_i e;subst e;dsimp only;omega
      .omega
    obtain⟨s2,m1,m2,m3,m4,m5,m6⟩:=mk1;have hold:ma x n<=9223372036854775807:=by
     by_cases q:ma x n=0
     .omega
     .obtain⟨p,hp⟩:=(hx.sh.cl n hnl).2.2.2.1 (by rw[<-htg];exact q);have:=hp.KJ hR;rw[htg];omega
    have hun:T9 s2 (ma x n) (D7 (ma x n))->1<=(ce s2 (D7 (ma x n))).Val.Weak/\(ce s2 (D7 (ma x n))).Val.Weak<=1000:=λq=>by
     have q':=(m3 _ _).1 q;have r:=q'.KJ hR;have:=(hx.wk _ q'.1 q'.2.1).1;have hp:0<jd x.b7 x.b7[n].Target:=tN hnl (by rw[<-htg];omega);rw[<-htg,q'.2.2] at hp;have:=m4 _ q'.1 q'.2.1;have:=wkb _ q'.1 q'.2.1;omega
    have u1:=Fy (x:=wS (wC x (x.b7.set n (fE h call))) s2) m2 hold hun;have hwb:T9 x.S h (D7 h) -> -1000<=(ce x.S (D7 h)).Val.Weak+1/\(ce x.S (D7 h)).Val.Weak+1<=1000:=λq=>by
     have:=wkb _ q.1 q.2.1;omega
    have mm:=Bw (x:=wC x (x.b7.set n (fE h call))) (d:=1) hR hh hwb;constructor
    .dsimp only;rw[show ah ⟨x.S,x.Roots,x.b7.set n (fE h call),x.T,x.Q⟩ h 1=_ from mm,Yz,m1,<-htg,u1,Yz];unfold cH;rw[m1]
    .trivial
   .left;rw[zY hl];exact⟨3,by decide,by rw[zb (by rfl)],trivial⟩
theorem Yn{l:List Int}{n:Nat}(hn:n<l.length):iE l n=some (l[n],0):=by
 unfold iE gH;rw[Yz,za (by simp;omega),u5 hn,Yz]
section
variable{x:Hp}(hx:K0 x)(hS:∀k∈lv x.S,(ob x.S k).Strong<=9223372036854775807)
include hx hS
end
theorem Ii{α:Type}{l:List α}{i:Nat}(h:i<l.length)(d:α):l.getD i d=l[i]:=by
 rw[zd,zc h];rfl
def Yf(a b:g7):Prop:=a.Kind=b.Kind/\a.At=b.At
instance(a b:g7):Decidable (Yf a b):=by unfold Yf;infer_instance
section
variable{x:Hp}(hR:SR x.S)
include hR
omit hR in
theorem Kt (l:List k9) (hl:l.length<=1000) (h:Int):dZ l h=some (jd l h:Int):=by
 unfold dZ T6 gI;simp only[jn,Yz];have key:∃e,lp (S:=Int × (List Int)) (E:=(List Int)) (λ((s17,s18):Int × (List Int))=>
   if (decide (s17<(l.length:Int))) then
     (ix l s17).bind λv26=>
     if ((h != 0)&&(v26.Target==h)) then
      (app 8 s18 [s17]).bind λv28=>
      some (.inl (w9 (s17+1),v28))
     else
     some (.inl (w9 (s17+1),s18))
   else
   some (.inr s18)) (0,[])=some e/\e.length=jd l h:=by
  refine jA l.length (λk (acc:List Int)=>acc.length=jd (l.take k) h) (λ(e:List Int)=>e.length=jd l h) (by omega) rfl (λk acc hk hP=>?_) (λacc hP=>⟨acc,by simp,by rwa [zU] at hP⟩);left;have hle:acc.length<=k:=by
   rw[hP];exact zO (Nd _ _) (by simp;omega)
  have hst:jd (l.take (k+1)) h=jd (l.take k) h+if ((h != 0)&&(l[k].Target==h))=true then 1 else 0:=by
   unfold jd;rw[zx hk,List.countP_append,List.countP_cons,List.countP_nil];omega
  simp only[wp,hk,ul,wn,u5 hk,Yz];rw[o5];by_cases c:((h != 0)&&(l[k].Target==h))=true
  .rw[zb c,K5 (by omega) (by simp;omega),Yz];exact⟨_,rfl,by rw[hst,zb c];simp[hP]⟩
  .rw[za c];exact⟨_,rfl,by rw[hst,za c];simpa using hP⟩
 obtain⟨e,e1,e2⟩:=key;rw[show lp _ _=_ from e1,Yz,Yz,e2]
omit hR in
theorem LZ:RT x.S x.T (nZ x)↔aI x []:=by
 constructor
 .intro h k hk hlt;have:=h k hk hlt;unfold KM inr at this;rw[zb hk] at this;rw[H9];unfold lK;omega
 .intro h k hk hlt;have:=h k hk hlt;rw[H9] at this;unfold lK at this;unfold KM inr;rw[zb hk];omega
end
section
variable{x:Hp}(hx:K0 x)(hB:HB x)
include hx hB
end
def SL(x:Hp):Prop:=∀k∈lv x.S,(ob x.S k).Strong<=9223372036854775807
theorem SB.sl{x:Hp}(hR:SR x.S)(h:SB x.S):SL x:=λk hk=>KV hR h k hk
theorem We{x:Hp}(hx:K0 x)(hS:SL x):HB x:=by
 have hR:=hx.sh.sr;have bd:∀v,v=0\/v∈lv x.S->v<=9223372036854775807:=λv q=>by
  rcases q with q | q
  .omega
  .have:=H6 hR q;omega
 refine⟨WU.2 λi hi=>?_,VX.2 λi hi v hv=>?_,λv hv=>bd v (hx.sh.rt v hv),λc hc=>?_,λp hp=>?_,λt ht=>?_⟩
 .by_cases t:Th (ce x.S i)
  .rcases t with t | t
   .have q:At x.S (1+(i:Int)+32*(ce x.S i).Gen) i:=⟨hi,t,rfl⟩;have:=hS _ ((gR hR).2 ⟨i,q⟩);rwa [F1 hR q] at this
   .have:=((hx.wk i hi (.inr t)).2 t).2.2;omega
  .have:=(hR.no i hi t).2.1;simp only[oo] at this;omega
 .by_cases t:Th (ce x.S i)
  .rcases t with t | t
   .have q:At x.S (1+(i:Int)+32*(ce x.S i).Gen) i:=⟨hi,t,rfl⟩;have hm:=(gR hR).2 ⟨i,q⟩;exact bd v (hx.sh.fl _ hm v (by rw[F1 hR q];exact hv))
   .rw[((hx.wk i hi (.inr t)).2 t).2.1] at hv;cases hv
  .have:=(hR.no i hi t).2.2.2.2.2;simp only[oo] at this;rw[zZ this] at hv;cases hv
 .obtain⟨i,hi,rfl⟩:=wt hc;by_cases e:x.b7[i].Target=0
  .omega
  .obtain⟨p,hp⟩:=(hx.sh.cl i hi).2.2.2.1 e;have:=hp.KJ hR;omega
 .obtain⟨i,hi,rfl⟩:=wt hp;have e:pt x.T i=x.T[i]:=by
   unfold pt;rw[zd,zc hi];rfl
  by_cases s1:(pt x.T i).State=1
  .obtain⟨a,b⟩:=hx.sh.pr (pt x.T i).Key (pt x.T i).Val ⟨i,⟨hi,s1,rfl⟩,rfl⟩;rw[e] at a b;exact⟨bd _ (.inr a),bd _ (.inr b)⟩
  .obtain⟨a,b⟩:=(hx.sh.hr.st i hi).2 s1;rw[e] at a b;omega
 .obtain⟨_,_,q | q⟩:=hx.sh.tk t ht;·exact bd _ (.inr q.2.1)
  .omega
theorem Qi(c:Int):Y9 c<=12:=by unfold Y9;split <;> (try split) <;> omega
theorem PQ{c:Int}(h:c<=9223372036854775807):kP c<=9223372036854775807:=by unfold kP;split <;> (try split) <;> omega
theorem SL.of{x y:Hp}(h:SL x)(hl:lv y.S=lv x.S)(hs:∀k∈lv x.S,(ob y.S k).Strong=(ob x.S k).Strong):SL y:=λk hk=>by
 rw[hl] at hk;rw[hs k hk];exact h k hk
theorem SL.st{x:Hp}(h:SL x)(hR:SR x.S)(v:Int){f:Int->Int}(hf:∀c,0<=c->0<=f c)(hb:∀c,c<=9223372036854775807->f c<=9223372036854775807):SL (uf x v f):=λk hk=>by
 rw[(H8 hR v hf).lv] at hk;rw[vt hR v hf hk];split;·exact hb _ (h k hk)
 .exact h k hk
theorem SL.E7{x:Hp}(h:SL x)(hR:SR x.S)(v:Int):SL (E7 x v):=h.st hR v (λc=>E6) λc _=>by have:=Qi c;omega
theorem SL.OI{x:Hp}(h:SL x)(hR:SR x.S)(v:Int):SL (aD x v):=h.st hR v (λc=>P2) λc hc=>PQ hc
theorem NQ{x:Hp}(hR:SR x.S)(v:Int):SR (aD x v).S:=(H8 hR v λc=>P2).sr
theorem pk{x:Hp}(hR:SR x.S)(h:SL x)(r:Nat)(v:Int):SL (G2 x r v):=by
 unfold G2;exact SL.OI (x:=wR (E7 x v) (x.Roots.set r v)) (h.E7 hR v) (jK hR v) _
theorem JY{x:Hp}(hR:SR x.S)(hS:SL x){h:Int}(hh:h∈lv x.S)(k:Nat)(v:Int):SL (bG x h k v):=by
 have wq:=H8 hR v (f:=Y9) λc=>E6;have hR1:SR (E7 x v).S:=wq.sr;have hl1:h∈lv (E7 x v).S:=by rw[show lv (E7 x v).S=lv x.S from wq.lv];exact hh
 have hof:(ob (E7 x v).S h).Fields=(ob x.S h).Fields:=by
  obtain⟨m,e⟩:=wq.ob h (by have:=H6 hR hh;omega);show (ob (uf x v Y9).S h).Fields=_;rw[e]
 have ok:=J9 hR1 hl1;have ho:As (E7 x v).S (rq (ob (E7 x v).S h) ((ob x.S h).Fields.set k v)):=⟨ok.s1,ok.s2,ok.st,ok.wk,ok.p1,ok.p2,by have:=ok.fl;rw[hof] at this;simpa using this⟩;have sr2:=bP (o:=rq (ob (E7 x v).S h) ((ob x.S h).Fields.set k v)) hR1 hl1 rfl ho;unfold bG;refine SL.OI (x:=wS (E7 x v) (cU (E7 x v).S h (rq (ob (E7 x v).S h) ((ob x.S h).Fields.set k v)))) ?_ sr2 _;refine (hS.E7 hR v).of (iD hR1 hl1 rfl ho) λj hj=>?_;dsimp only;rw[gi (o:=rq (ob (E7 x v).S h) ((ob x.S h).Fields.set k v)) hR1 hl1 rfl ho (by have:=H6 hR1 hj;omega)];split;·rename_i e;rw[e]
 .rfl
theorem Ny{x:Hp}(hR:SR x.S)(hS:SL x)(v:Int)(t:Tb)(old:Int):SL (iJ x v t old):=by
 unfold iJ;exact SL.OI (x:=wT (E7 x v) t) (hS.E7 hR v) (jK hR v) _
theorem Ug{x:Hp}(hR:SR x.S)(hS:SL x)(h:Int){d:Int}(hd:T9 x.S h (D7 h)->0<=(ce x.S (D7 h)).Val.Weak+d):SL (iu x h d):=by
 unfold iu;split
 .rename_i q;exact hS.of (mW hR q.1 q.2.1 (hd q)).lv λk hk=>mX hR q.1 q.2.1 (hd q) hk
 .exact hS
theorem Jr{x:Hp}(hR:SR x.S)(hS:SL x)(h:Int)(hd:T9 x.S h (D7 h)->1<=(ce x.S (D7 h)).Val.Weak):SL (pG x h):=by
 unfold pG;split
 .rename_i q;have hd:=hd q;have kn:=mW (d:=-1) hR q.1 q.2.1 (by omega);have s1:SL (wS x (lF x.S (D7 h) (-1))):=hS.of kn.lv λk hk=>mX hR q.1 q.2.1 (by omega) hk;split
  .rename_i c;have hi1:D7 h<(lF x.S (D7 h) (-1)).S.b7.length:=by rw[kn.len];exact q.1
   have hce:ce (lF x.S (D7 h) (-1)) (D7 h)=⟨(ce x.S (D7 h)).State,(ce x.S (D7 h)).Gen,Xu (ce x.S (D7 h)).Val ((ce x.S (D7 h)).Val.Weak + -1)⟩:=by
    rw[eU hR q.1 q.2.1,zb rfl]
   have h2:(ce (lF x.S (D7 h) (-1)) (D7 h)).State=2:=by rw[hce];exact c.1
   exact s1.of (Cv kn.sr hi1 h2) λk hk=>by
    dsimp only;rw[Cx kn.sr hi1 h2 hk]
  .exact s1
 .exact hS
theorem FE{x:Hp}(hx:K0 x)(hS:SL x){n:Nat}(hn:n<6)(h call:Int):SL (cH x n h call):=by
 have hR:=hx.sh.sr;have hnl:n<x.b7.length:=by have:=hx.sh.c6;omega
 have ok:∀k i,T9 x.S k i->0<=(ce x.S i).Val.Weak:=λk i q=>(hR.ok i q.1 q.2.1).wk;have tw:∀i,T9 x.S (ma x n) i->1<=(ce x.S i).Val.Weak:=λi q=>by
  have htg:ma x n=x.b7[n].Target:=by
   unfold ma;rw[zd,zc hnl];rfl
  have r:=q.KJ hR;have p:=tN hnl (by rw[<-htg];omega);rw[<-htg,q.2.2] at p;have:=(hx.wk i q.1 q.2.1).1;omega
 unfold cH;have s1:SL (iu (wC x (x.b7.set n (fE h call))) h 1):=Ug (x:=wC x (x.b7.set n (fE h call))) hR hS h λq=>by
  have:=ok _ _ q;dsimp only;omega
 by_cases q:T9 x.S h (D7 h)
 .have e:iu (wC x (x.b7.set n (fE h call))) h 1=wS (wC x (x.b7.set n (fE h call))) (lF x.S (D7 h) 1):=by
   unfold iu;rw[zb q]
  have hd:=ok _ _ q;have kn:=mW (d:=1) hR q.1 q.2.1 (by omega);rw[e] at s1 |-;refine Jr kn.sr s1 _ λq2=>?_;dsimp only at q2 |-;have q3:=(kn.ad _ _).1 q2;have:=tw _ q3;rw[eU hR q.1 q.2.1];split
  .rename_i e2;rw[e2] at this;show 1<=(ce x.S (D7 h)).Val.Weak+1;omega
  .exact this
 .have e:iu (wC x (x.b7.set n (fE h call))) h 1=wC x (x.b7.set n (fE h call)):=by
   unfold iu;rw[za q]
  rw[e] at s1 |-;exact Jr (x:=wC x (x.b7.set n (fE h call))) hR s1 _ λq2=>tw _ q2
section
variable{x:Hp}(hx:K0 x)(hS:SL x)
include hx hS
end
def RU(x:Hp):Prop:=Sm x.S/\x.Roots.length<=20/\x.b7.length<=20/\x.T.length<=20/\x.Q.L.length<=60
instance(x:Hp):Decidable (RU x):=by unfold RU;infer_instance
def Qg:Hp:=⟨⟨⟨[],0⟩,0⟩,[],[],[],⟨[],0⟩⟩
theorem yV(x:Hp)(h:Int)(f:Int->Int):(uf x h f).Roots=x.Roots/\(uf x h f).b7=x.b7/\(uf x h f).T=x.T/\(uf x h f).Q=x.Q:=by
 unfold uf;split <;> exact⟨rfl,rfl,rfl,rfl⟩
theorem jJ(x:Hp)(r:Nat)(h:Int):(G2 x r h).Roots=x.Roots.set r h/\(G2 x r h).b7=x.b7/\(G2 x r h).T=x.T/\(G2 x r h).Q=x.Q:=by
 obtain⟨a,b,c,d⟩:=yV (wR (E7 x h) (x.Roots.set r h)) (x.Roots.getD r 0) kP;obtain⟨a',b',c',d'⟩:=yV x h Y9;exact⟨a,b.trans b',c.trans c',d.trans d'⟩
section
variable{x:Hp}(hB:HB x)
include hB
end
abbrev JU(o:n9):n9:=⟨o.Serial,0,o.Weak,o.Prog,o.Started,[]⟩
def FK(s:b6)(i:Nat):c9:=
 if (ce s i).Val.Weak=0 then (if (ce s i).Gen=s.S.Last then ⟨3,(ce s i).Gen,z0⟩ else ⟨0,(ce s i).Gen+1,z0⟩) else ⟨2,(ce s i).Gen,JU (ce s i).Val⟩
def wo(s:b6)(d:Int):b6:=H7 s (D7 d) (FK s (D7 d))
def oi(s:b6)(ds:List Int):b6:=ds.foldl wo s
theorem TC(s:b6)(i:Nat):(FK s i).State≠1:=by
 unfold FK;split;·split <;> simp
 .simp
theorem GQ{s:b6}(hR:SR s){a b:Int}(ha:a∈lv s)(hb:b∈lv s)(h:a≠b):D7 a≠D7 b:=λe=>by
 have h1:=o6 hR ha;have h2:=o6 hR hb;rw[e] at h1;exact h (h1.2.2.trans h2.2.2.symm)
section
variable{s:b6}(hR:SR s){d:Int}(hd:d∈lv s)
include hR hd
theorem Ct:SR (wo s d):=by
 have q:=o6 hR hd;have hc:=hR.cell _ q.1;have ho:=hR.ok _ q.1 (.inl q.2.1);have no:Jw (oo z0):=⟨rfl,rfl,rfl,rfl,rfl,rfl⟩;unfold wo FK;split
 .split;·exact hR.H7 q.1 ⟨by simp,by simp,hc.2.2.1,hc.2.2.2⟩ (λ_=>no) (λq=>absurd q (by unfold Th;simp))
  .refine hR.H7 q.1 ⟨by simp,by simp,?_,?_⟩ (λ_=>no) (λq=>absurd q (by unfold Th;simp));·show 0<=(ce s (D7 d)).Gen+1;omega
   .show (ce s (D7 d)).Gen+1<=s.S.Last;omega
 .exact hR.H7 q.1 ⟨by simp,by simp,hc.2.2.1,hc.2.2.2⟩ (λq=>absurd (.inr rfl) q) (λ_=>⟨⟨ho.s1,ho.s2,zae _,ho.wk,ho.p1,ho.p2,zV _⟩,.inl q.2.1,rfl⟩)
theorem Mq(j:Nat):ce (wo s d) j=if j=D7 d then FK s (D7 d) else ce s j:=K6 (o6 hR hd).1 _ j
theorem Mr:lv (wo s d)=(lv s).filter λh=>decide (h≠d):=by
 have hS:=Ct hR hd;unfold wo at hS |-;have hc:=TC s (D7 d);rw[Iz hR (o6 hR hd).1 hc hS];refine pm λh hh=>zbm.2 ⟨λq e=>q (by rw[e]),λq=>GQ hR hh hd q⟩
theorem Ms{k:Int}(hk:k∈lv s)(hne:k≠d):ob (wo s d) k=ob s k:=by
 have hS:=Ct hR hd;unfold wo at hS |-;exact IK hR (o6 hR hd).1 hS hk (GQ hR hk hd hne)
end
structure Gn (s s':b6) (ds:List Int):Prop where
 sr:SR s'
 len:s'.S.b7.length=s.S.b7.length
 last:s'.S.Last=s.S.Last
 aH:s'.Serial=s.Serial
 lv:lv s'=(lv s).filter λh=>decide (h∉ds)
 ob:∀k∈Sh.lv s,k∉ds->ob s' k=ob s k
 ce:∀j,ce s' j=if j∈ds.map D7 then FK s j else ce s j
theorem eH:∀(ds:List Int) {s:b6} (hR:SR s),ds.Nodup->(∀d∈ds,d∈lv s)->Gn s (oi s ds) ds
 | [],s,hR,_,_=>⟨hR,rfl,rfl,rfl,(zbk.2 (λa _=>by simp)).symm,λ_ _ _=>rfl,λj=>by simp[oi]⟩
 | d::ds,s,hR,hn,hm=>by
  rw[me] at hn;have hd:=hm d (zg ..);have hlv:=Mr hR hd;have hm':∀e∈ds,e∈lv (wo s d):=λe he=>by
   rw[hlv,zk,zF];exact⟨hm e (zn _ he),λq=>hn.1 (q▸he)⟩
  have ih:=eH ds (Ct hR hd) hn.2 hm';refine⟨ih.sr,ih.len.trans (V6 ..),ih.last,ih.aH,?_,λk hk hne=>?_,λj=>?_⟩
  .show lv (oi (wo s d) ds)=_;rw[ih.lv,hlv,zan];refine pm λh hh=>?_;rw[za8];simp only[zy,zF,zM,not_or];exact⟨λq=>⟨q.2,q.1⟩,λq=>⟨q.2,q.1⟩⟩
  .show ob (oi (wo s d) ds) k=_;rw[zM,not_or] at hne;rw[ih.ob k (by rw[hlv,zk,zF];exact⟨hk,hne.1⟩) hne.2,Ms hR hd hk hne.1]
  .show ce (oi (wo s d) ds) j=_;have hg:∀e∈ds,D7 e≠D7 d:=λe he=>GQ hR (hm e (zn _ he)) hd λq=>hn.1 (q▸he);rw[ih.ce];by_cases h1:j∈ds.map D7
   .obtain⟨e,he,rfl⟩:=zq.1 h1;rw[zb h1,zb (by rw[zR];exact zn _ h1)];unfold FK;rw[Mq hR hd,za (hg e he)];rfl
   .rw[za h1,Mq hR hd,zR];by_cases h2:j=D7 d
    .subst h2;rw[zb rfl,zb (zg ..)]
    .rw[za h2,za];rw[zM];exact λq=>q.elim h2 h1
theorem BP{α:Type}(p:α->Bool)(f:α->Nat):∀l:List α,(l.map f).sum=((l.filter p).map f).sum+((l.filter λx => !p x).map f).sum
 | []=>rfl
 | x::l=>by
  rw[zR,zbd,BP p f l,or,or];cases p x <;> simp <;> omega
theorem Ft(f:Int->List Int)(y:Int):∀l:List Int,Q0 (l.flatMap f) y=(l.map λx=>Q0 (f x) y).sum
 | []=>H9 y
 | x::l=>by rw[zbg,F9,Ft f y l,zR,zbd]
theorem Gn.jW{s s':b6}{ds:List Int}(hR:SR s)(hn:ds.Nodup)(hm:∀d∈ds,d∈Sh.lv s)(g:Gn s s' ds)(y:Int):jW s' y+Q0 (ds.flatMap (outs s)) y=jW s y:=by
 unfold Sh.jW;rw[g.lv,BP (λh=>decide (h∉ds)) (λx=>Q0 (outs s x) y) (Sh.lv s),Ft];have h1:((Sh.lv s).filter λh=>decide (h∉ds)).map (λx=>Q0 (outs s' x) y)=((Sh.lv s).filter λh=>decide (h∉ds)).map λx=>Q0 (outs s x) y:=zt λx hx=>by
  rw[zk,zF] at hx;unfold Sh.outs;rw[g.ob x hx.1 hx.2]
 have h2:((Sh.lv s).filter λx => !decide (x∉ds)).Perm ds:=by
  rw[List.perm_ext_iff_of_nodup ((tA (A2.2 hR)).filter _) hn];intro a;rw[zk];simp only[decide_not,Bool.not_not,zF];exact⟨λq=>q.2,λq=>⟨hm a q,q⟩⟩
 rw[h1,(h2.map λx=>Q0 (outs s x) y).sum_nat]
theorem EJ{L:List g7}(hd:L.Pairwise λa b=>¬(a.Kind=b.Kind/\a.At=b.At))(k:Int):((L.filter (·.Kind==k)).map (·.At)).Nodup:=by
 unfold List.Nodup;rw[zbt];refine (hd.filter _).imp_of_mem λ{a b} ha hb h e=>?_;rw[zk,pu] at ha hb;exact h ⟨ha.2.trans hb.2.symm,e⟩
theorem Aa{L:List g7}{m:List Int}(hd:L.Pairwise λa b=>¬(a.Kind=b.Kind/\a.At=b.At))(h:∀t∈L,(t.Kind=1/\t.At∈m)\/(t.Kind=2/\0<=t.At/\t.At<=5)):L.length<=m.length+6:=by
 have h1:L.length=(L.filter (·.Kind==1)).length+(L.filter (·.Kind==2)).length:=by
  rw[sJ (λt:g7=>t.Kind==1) L];congr 2;refine pm λt ht=>?_;rcases h t ht with q | q
  .simp[q.1]
  .simp[q.1]
 have h2:=Z3 (EJ hd 1) (m:=m) λa ha=>by
  obtain⟨t,ht,rfl⟩:=zq.1 ha;rw[zk,pu] at ht;rcases h t ht.1 with q | q
  .exact q.2
  .omega
 have h3:=Z3 (EJ hd 2) (m:=[0,1,2,3,4,5]) λa ha=>by
  obtain⟨t,ht,rfl⟩:=zq.1 ha;rw[zk,pu] at ht;rcases h t ht.1 with q | q
  .omega
  .simp only[zM,zcl,or_false];omega
 rw[zl] at h2 h3;simp only[zH,zaf] at h3;omega
theorem gJ{q:TQ}{w:Int}:wb q w=true↔∃t∈q.L,t.Kind=2/\t.At=w:=by
 unfold wb;rw[List.any_eq_true];simp
theorem lE{q:TQ}{h:Int}:h∈oR q↔∃t∈q.L,t.Kind=1/\t.At=h:=by
 unfold oR;rw[zq];simp only[zk,pu];exact⟨λ⟨t,⟨a,b⟩,c⟩=>⟨t,a,b,c⟩,λ⟨t,a,b,c⟩=>⟨t,⟨a,b⟩,c⟩⟩
abbrev cz:k9:=⟨0,false,0⟩
def iO(ds:List Int)(c:k9):Bool:=c.Intact&&c.Target != 0&&decide (c.Target∈ds)
def ra(ds:List Int)(c:k9):k9:=if iO ds c then ⟨c.Target,false,c.Call⟩ else c
def lk(l:List k9)(ds:List Int):List k9:=l.map (ra ds)
def cls(l:List k9)(ds:List Int):List Nat:=(List.range l.length).filter λw=>iO ds (l.getD w cz)&&decide (0<=(l.getD w cz).Call)
def jr(l:List k9)(ds:List Int):List g7:=(cls l ds).map λ(w:Nat)=>⟨2,(w:Int),(l.getD w cz).Call⟩
theorem ow(ds:List Int)(c:k9):(ra ds c).Target=c.Target/\(ra ds c).Call=c.Call/\((ra ds c).Intact=true↔c.Intact=true/\iO ds c=false):=by
 unfold ra;cases h:iO ds c
 .rw[za (by simp)];simp
 .rw[zb rfl];simp
theorem CN(l:List k9)(ds:List Int)(h:Int):jd (lk l ds) h=jd l h:=by
 unfold jd lk;rw[List.countP_map];congr 1;funext c
 simp only[Function.comp_apply,(ow ds c).1]
theorem gB{l:List k9}{ds:List Int}{t:g7}:t∈jr l ds↔∃w,∃hw:w<l.length,t=⟨2,(w:Int),l[w].Call⟩/\iO ds l[w]=true/\0<=l[w].Call:=by
 unfold jr cls;rw[zq];constructor
 .rintro⟨w,hw,rfl⟩;rw[zk,za6] at hw;obtain⟨h1,h2⟩:=hw;have e:l.getD w cz=l[w]:=by rw[zd,zc h1];rfl
  rw[e] at h2 |-;rw[zy,zF] at h2;exact⟨w,h1,rfl,h2.1,h2.2⟩
 .rintro⟨w,hw,rfl,h2,h3⟩;have e:l.getD w cz=l[w]:=by rw[zd,zc hw];rfl
  refine⟨w,?_,by rw[e]⟩;rw[zk,za6,e,zy,zF];exact⟨hw,h2,h3⟩
theorem Bc(l:List k9)(ds:List Int):(jr l ds).Pairwise λa b=>¬(a.Kind=b.Kind/\a.At=b.At):=by
 unfold jr cls;rw[zbt];refine (zb6 _ (List.nodup_range (n:=l.length))).imp λ{a b} h=>?_;rintro⟨_,e⟩;dsimp only at e;omega
def jo(x:Hp)(ds:List Int)(t:Tb):Hp:=⟨oi x.S ds,x.Roots,lk x.b7 ds,t,⟨x.Q.L++jr x.b7 ds,x.Q.Cap⟩⟩
theorem yb(q:TQ)(l:List g7)(c:Int)(h:∀t∈l,t.Kind≠1):oR ⟨q.L++l,c⟩=oR q:=by
 unfold oR;dsimp only;rw[zbb];have:l.filter (λt=>t.Kind==1) = []:=by
  rw[List.filter_eq_nil_iff];intro t ht;simpa using h t ht
 rw[this,zau]
theorem JO{x:Hp}(hx:K0 x){ds:List Int}(hn:ds.Nodup)(hm:∀d∈ds,d∈lv x.S)
  (ho:∀d∈ds,d∉nZ x)(hf:∀h∈lv x.S,h∉ds->∀v∈(ob x.S h).Fields,v∉ds)(hp:∀k v,Has x.T k v->k∉ds->v∉ds)
  {t:Tb}{vals:List Int}(ht:HR t)(h1:∀k v,Has t k v↔k∉ds/\Has x.T k v)(h2:∀y,own t y+Q0 vals y=own x.T y) :
  jY (jo x ds t)/\Wk (jo x ds t)/\aI (jo x ds t) (ds.flatMap (outs x.S)++vals):=by
 have hS:=hx.sh;have hR:=hS.sr;have g:=eH ds hR hn hm;have hlv:∀h,h∈lv (oi x.S ds)↔h∈lv x.S/\h∉ds:=λh=>by rw[g.lv,zk,zF]
 have hlen:(lv x.S).length<=24:=K9 (A2.2 hR);have hcl:∀w (hw:w<x.b7.length),iO ds x.b7[w]=true->x.b7[w].Intact=true:=λw hw q=>by
  unfold iO at q;rw[zy,zy] at q;exact q.1.1
 have htd:(x.Q.L++jr x.b7 ds).Pairwise λa b=>¬(a.Kind=b.Kind/\a.At=b.At):=by
  rw[zar];refine⟨hS.td,Bc ..,λa ha b hb q=>?_⟩;obtain⟨w,hw,rfl,hh,_⟩:=gB.1 hb;have:=((hS.cl w hw).2.2.2.2 (hcl w hw hh)).2;rw[zbj] at this;exact this (gJ.2 ⟨a,ha,q.1,q.2⟩)
 have htk:∀t∈x.Q.L++jr x.b7 ds,0<=t.Prog/\t.Prog<=5/\((t.Kind=1/\t.At∈lv (oi x.S ds)/\(ob (oi x.S ds) t.At).Started=true)\/(t.Kind=2/\0<=t.At/\t.At<=5)):=λt htt=>by
  rcases zu.1 htt with q | q
  .obtain⟨a,b,c⟩:=hS.tk t q;refine⟨a,b,?_⟩;rcases c with ⟨c1,c2,c3⟩ | c
   .have hnd:t.At∉ds:=λhd=>ho _ hd (zu.2 (.inr (lE.2 ⟨t,q,c1,rfl⟩)));exact .inl ⟨c1,(hlv _).2 ⟨c2,hnd⟩,by rw[g.ob _ c2 hnd];exact c3⟩
   .exact .inr c
  .obtain⟨w,hw,rfl,hh,hc⟩:=gB.1 q;have c6:=hS.c6;have:=(hS.cl w hw).2.1;exact⟨hc,this,.inr ⟨rfl,by dsimp only;omega,by dsimp only;omega⟩⟩
 have hq30:(x.Q.L++jr x.b7 ds).length<=30:=by
  have:=Aa (m:=lv x.S) htd λt htt=>by
   rcases (htk t htt).2.2 with q | q
   .exact .inl ⟨q.1,((hlv _).1 q.2.1).1⟩
   .exact .inr q
  omega
 have hwts:∀i:Nat,wb x.Q i=false->(∀hi:i<x.b7.length,iO ds x.b7[i]=false)->wb ⟨x.Q.L++jr x.b7 ds,x.Q.Cap⟩ i=false:=λi q1 q2=>by
  rw[zbj] at q1 |-;intro q;obtain⟨t,ht,a,b⟩:=gJ.1 q;rcases zu.1 ht with c | c
  .exact q1 (gJ.2 ⟨t,c,a,b⟩)
  .obtain⟨w,hw,rfl,hh,_⟩:=gB.1 c;dsimp only at b;have:w=i:=by omega
   subst this;rw[q2 hw] at hh;cases hh
 refine⟨⟨g.sr,ht,hS.r6,?_,hS.cap,hq30,htk,htd,λh hh=>?_,λh hh v hv=>?_,λk v hkv=>?_,λi hi=>?_⟩,λi hi hti=>?_,λh hh hlt=>?_⟩
 .unfold jo lk;rw[zl];exact hS.c6
 .rcases hS.rt h hh with q | q
  .exact .inl q
  .have h0:h≠0:=λe=>eP hR (e▸q);exact .inr ((hlv h).2 ⟨q,λhd=>ho h hd (zu.2 (.inl (fZ.2 ⟨hh,h0⟩)))⟩)
 .obtain⟨a,b⟩:=(hlv h).1 hh;have hv':v∈(ob x.S h).Fields:=by
   have e:=g.ob h a b;unfold jo at hv;rwa [e] at hv
  rcases hS.fl h a v hv' with q | q
  .exact .inl q
  .exact .inr ((hlv v).2 ⟨q,hf h a b v hv'⟩)
 .obtain⟨a,b⟩:=(h1 k v).1 hkv;obtain⟨c,d⟩:=hS.pr k v b;exact⟨(hlv k).2 ⟨c,a⟩,(hlv v).2 ⟨d,hp k v b a⟩⟩
 .have hi':i<x.b7.length:=by
   unfold jo lk at hi;simpa using hi
  have e:(jo x ds t).b7[i]=ra ds x.b7[i]:=t7 _;obtain⟨a1,a2,a3,a4,a5⟩:=hS.cl i hi';obtain⟨b1,b2,b3⟩:=ow ds x.b7[i];rw[e,b1,b2];refine⟨a1,a2,λq=>?_,λq=>?_,λq=>?_⟩
  .rw[zbj];intro q2;rw[a3 q] at b3;exact absurd (b3.1 q2).1 (by decide)
  .obtain⟨p,hp1,hp2,hp3⟩:=a4 q;refine⟨p,by show p<(oi x.S ds).S.b7.length;rw[g.len];exact hp1,?_⟩;show Th (ce (oi x.S ds) p)/\_=1+(p:Int)+32*(ce (oi x.S ds) p).Gen;rw[g.ce];split
   .have hw:=(hx.wk p hp1 hp2).1;have:=tN hi' q;rw[hp3] at this;unfold FK;rw[za (by omega)];exact⟨.inr rfl,hp3⟩
   .exact⟨hp2,hp3⟩
  .obtain⟨c1,c2⟩:=b3.1 q;obtain⟨d1,d2⟩:=a5 c1;have h0:x.b7[i].Target≠0:=λe=>eP hR (e▸d1);refine⟨(hlv _).2 ⟨d1,λhd=>?_⟩,hwts i d2 λ_=>c2⟩;have:iO ds x.b7[i]=true:=by
    unfold iO;simp[c1,h0,hd]
   rw[this] at c2;cases c2
 .have hi':i<x.S.S.b7.length:=by
   have:=g.len;have hi:i<(oi x.S ds).S.b7.length:=hi;omega
  show (ce (oi x.S ds) i).Val.Weak=(jd (lk x.b7 ds) (1+(i:Int)+32*(ce (oi x.S ds) i).Gen):Int)/\((ce (oi x.S ds) i).State=2->_);have hti':Th (ce (oi x.S ds) i):=hti;show _/\((ce (oi x.S ds) i).State=2->1<=(ce (oi x.S ds) i).Val.Weak/\(ce (oi x.S ds) i).Val.Fields = []/\(ce (oi x.S ds) i).Val.Strong=0);rw[CN];rw[g.ce] at hti' |-;split
  .rename_i q;rw[zb q] at hti';obtain⟨d,hd,rfl⟩:=zq.1 q;have hp:=o6 hR (hm d hd);have hw:=(hx.wk _ hi' (.inl hp.2.1)).1;unfold FK at hti' |-;split at hti'
   .exfalso;unfold Th at hti';split at hti' <;> simp at hti'
   .rename_i q2;rw[za q2];have:=(hR.ok _ hi' (.inl hp.2.1)).wk;exact⟨hw,λ_=>⟨by dsimp only;omega,rfl,rfl⟩⟩
  .rename_i q;rw[za q] at hti';exact hx.wk i hi' hti'
 .obtain⟨a,b⟩:=(hlv h).1 hh;have e:=g.ob h a b;have e':ob (jo x ds t).S h=ob x.S h:=e;rw[e'] at hlt |-;have hf:=hx.fair h a hlt;rw[H9] at hf;rw[hf];have i1:=g.jW hR hn hm h;have i2:=h2 h;have i3:oR ⟨x.Q.L++jr x.b7 ds,x.Q.Cap⟩=oR x.Q:=yb _ _ _ λt ht=>by
   obtain⟨w,_,rfl,_⟩:=gB.1 ht;simp
  unfold lK nZ jo;dsimp only;rw[i3,F9 (ds.flatMap (outs x.S)),F9];omega
theorem yH:∀(l:List Int) {x:Hp},jY x->Wk x->aI x l->K0 (l.foldl aD x)
 | [],x,h1,h2,h3=>⟨h1,h2,h3⟩
 | v::l,x,h1,h2,h3=>yH l (h1.st v λc=>P2) (h2.st h1.sr v λc=>P2) (tX h1.sr h3)
abbrev fA(o:n9):n9:=⟨o.Serial,o.Strong,o.Weak,o.Prog,true,o.Fields⟩
abbrev Aw(x:Hp)(h:Int):g7:=⟨1,h,(ob x.S h).Prog⟩
noncomputable def gF(x:Hp)(h:Int):Hp:=E7 ⟨cU x.S h (fA (ob x.S h)),x.Roots,x.b7,x.T,⟨x.Q.L ++ [Aw x h],x.Q.Cap⟩⟩ h
theorem vk{x:Hp}(hx:K0 x){h:Int}(hh:h∈lv x.S)(hp:0<=(ob x.S h).Prog)(hs:(ob x.S h).Started=false):K0 (gF x h):=by
 have hS:=hx.sh;have hR:=hS.sr;have oko:=J9 hR hh;have ho:As x.S (fA (ob x.S h)):=⟨oko.s1,oko.s2,oko.st,oko.wk,oko.p1,oko.p2,oko.fl⟩;have r1:=bP (o:=fA (ob x.S h)) hR hh rfl ho;have l1:=iD (o:=fA (ob x.S h)) hR hh rfl ho;have o1:∀j,j∈lv x.S->ob (cU x.S h (fA (ob x.S h))) j=if j=h then fA (ob x.S h) else ob x.S j:=λj hj=>by
  have:=H6 hR hj;exact gi (o:=fA (ob x.S h)) hR hh rfl ho (by omega)
 have hlen:(lv x.S).length<=24:=K9 (A2.2 hR);have s1:jY (wS x (cU x.S h (fA (ob x.S h)))):=hS.of r1 l1 (λk i q=>(Ds (o:=fA (ob x.S h)) hR hh rfl ho).2 q) (λk hk q=>by
  rw[o1 k hk];split;·rfl
  .exact q) λk hk v hv=>by
  rw[o1 k hk] at hv;split at hv;·rename_i e;subst e;exact hS.fl k hk v hv
  .exact hS.fl k hk v hv
 have w1:Wk (wS x (cU x.S h (fA (ob x.S h)))):=λi hi ht=>by
  have eN:=o6 hR hh;have hc:=yQ (o:=fA (ob x.S h)) hR hh rfl ho i;dsimp only at hi ht |-;rw[hc] at ht |-;have hi':i<x.S.S.b7.length:=by unfold cU at hi;rwa [J2] at hi
  split at ht
  .rename_i e;subst e;rw[zb rfl];dsimp only;have:=hx.wk _ hi' (.inl eN.2.1);rw[F1 hR eN];exact⟨this.1,λq=>absurd q (by rw[eN.2.1];decide)⟩
  .rename_i e;rw[za e];exact hx.wk i hi' ht
 have htd:(x.Q.L ++ [Aw x h]).Pairwise λa b=>¬(a.Kind=b.Kind/\a.At=b.At):=by
  rw[zar];refine⟨hS.td,by simp,λa ha b hb q=>?_⟩;rw[zp] at hb;subst hb;dsimp only at q;rcases (hS.tk a ha).2.2 with c | c
  .rw[q.2,hs] at c;exact absurd c.2.2 (by decide)
  .omega
 have htk:∀t∈x.Q.L ++ [Aw x h],0<=t.Prog/\t.Prog<=5/\((t.Kind=1/\t.At∈lv (cU x.S h (fA (ob x.S h)))/\(ob (cU x.S h (fA (ob x.S h))) t.At).Started=true)\/(t.Kind=2/\0<=t.At/\t.At<=5)):=λt ht=>by
  rcases zu.1 ht with q | q
  .exact s1.tk t q
  .rw[zp] at q;subst q;refine⟨hp,oko.p2,.inl ⟨rfl,by rw[l1];exact hh,?_⟩⟩;dsimp only;rw[o1 h hh,zb rfl]
 have hq30:(x.Q.L ++ [Aw x h]).length<=30:=by
  have:=Aa (m:=lv x.S) htd λt ht=>by
   rcases (htk t ht).2.2 with q | q
   .exact .inl ⟨q.1,by rw[<-l1];exact q.2.1⟩
   .exact .inr q
  omega
 have s2:jY ⟨cU x.S h (fA (ob x.S h)),x.Roots,x.b7,x.T,⟨x.Q.L ++ [Aw x h],x.Q.Cap⟩⟩:=by
  refine⟨s1.sr,s1.hr,s1.r6,s1.c6,s1.cap,hq30,htk,htd,s1.rt,s1.fl,s1.pr,λi hi=>?_⟩;obtain⟨a,b,c,d,e⟩:=s1.cl i hi;refine⟨a,b,c,d,λq=>⟨(e q).1,?_⟩⟩;have:=(e q).2;rw[zbj] at this |-;intro q2;obtain⟨t,ht,k1,k2⟩:=gJ.1 q2;rcases zu.1 ht with q3 | q3
  .exact this (gJ.2 ⟨t,q3,k1,k2⟩)
  .rw[zp] at q3;subst q3;dsimp only at k1;omega
 have w2:Wk ⟨cU x.S h (fA (ob x.S h)),x.Roots,x.b7,x.T,⟨x.Q.L ++ [Aw x h],x.Q.Cap⟩⟩:=w1;refine⟨s2.st h λc=>E6,w2.st s2.sr h λc=>E6,λk hk hlt=>?_⟩;have hk':k∈lv x.S:=by
  have:lv (gF x h).S=lv x.S:=(H8 s2.sr h λc=>E6).lv.trans l1;rw[<-this];exact hk
 have hst:(ob (gF x h).S k).Strong=if k=h then Y9 (ob x.S k).Strong else (ob x.S k).Strong:=by
  have:=vt (x:=⟨cU x.S h (fA (ob x.S h)),x.Roots,x.b7,x.T,⟨x.Q.L ++ [Aw x h],x.Q.Cap⟩⟩) s2.sr h (f:=Y9) (λc=>E6) (k:=k) (by rw[<-l1] at hk';exact hk');refine zct this ?_;dsimp only;rw[o1 k hk'];by_cases e:k=h
  .subst e;rw[zb rfl,zb rfl,zb rfl]
  .rw[za e,za e,za e]
 have hnm:lK (gF x h) k=lK x k+if k=h then 1 else 0:=by
  have:=xg (x:=⟨cU x.S h (fA (ob x.S h)),x.Roots,x.b7,x.T,⟨x.Q.L ++ [Aw x h],x.Q.Cap⟩⟩) s2.sr h (f:=Y9) (λc=>E6) k;refine zct this ?_;have hi:=Ip (o:=fA (ob x.S h)) hR hh rfl ho k;dsimp only at hi;have h0:k≠0:=λe=>eP hR (e▸hk');unfold lK nZ oR;dsimp only;rw[zbb,mt,F9,F9,F9];have:Q0 (List.map (·.At) (List.filter (λt:g7=>t.Kind==1) [Aw x h])) k=if k=h then 1 else 0:=by
   show Q0 [h] k=_;rw[H2,H9];by_cases e:k=h
   .rw[zb ⟨e.symm,h0⟩,zb e]
   .rw[za (λq=>e q.1.symm),za e]
  rw[this];omega
 rw[hst] at hlt |-;rw[hnm,H9];have hpos:=(J9 hR hk').st;by_cases e:k=h
 .rw[zb e] at hlt |-;rw[zb e];have:=hx.fair k hk' (by unfold Y9 at hlt;split at hlt <;> omega);rw[H9] at this;unfold Y9 at hlt |-;split at hlt;·omega
  .rename_i q;rw[za q,za (by omega)];omega
 .rw[za e] at hlt |-;rw[za e];have:=hx.fair k hk' hlt;rw[H9] at this;exact this
end Go.Sh
