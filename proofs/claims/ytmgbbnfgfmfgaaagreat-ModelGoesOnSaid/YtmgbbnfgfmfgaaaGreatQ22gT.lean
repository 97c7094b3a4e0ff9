/- A part. -/
import Derived.Test.YtmgbbnfgfmfgaaaGreatQ22gSh
import Derived.Test.YtmgbbnfgfmfgaaaGreatQ22gSh1
set_option linter.unusedVariables false
set_option linter.unusedSimpArgs false
set_option linter.unusedSectionVars false
namespace Go.Sh
def CH(h:Int):Prop:=1<=h/\(h-1) % 32<24/\(h-1) / 32<=9
instance(h:Int):Decidable (CH h):=by unfold CH;infer_instance
theorem Od{h:Int}(q:CH h):1<=h/\h<=320:=by unfold CH at q;omega
theorem pn{i g:Int}(h1:0<=i)(h2:i<24)(h3:0<=g)(h4:g<=9):eG i g=some (1+i+32*g):=by
 unfold eG;rw[za (by simp;omega)];rw[show x4 (i*1)=i by rw[qR];omega,show x4 (1+i)=1+i by rw[qR];omega,show x4 (g*32)=32*g by rw[qR];omega,show x4 (1+i+32*g)=1+i+32*g by rw[qR];omega]
theorem og{h:Int}(hh:h<=9223372036854775807):fg h=some (if CH h then ((h-1) % 32,(h-1) / 32,true) else (-1,-1,false)):=by
 unfold fg;split
 .rename_i q;rw[za (by unfold CH;simp at q;omega)]
 .rename_i q;have q:1<=h:=by simpa using q
  rw[V3 (n:=h-1),Ea (by omega) (by omega),a0A,Ku (by omega) (by omega) (by omega),a0A,Ku (by omega) (by omega) (by omega),a0A,Int.ediv_one];split
  .rename_i q2;rw[za (by unfold CH;simp at q2;omega)]
  .rename_i q2;rw[zb (by unfold CH;simp at q2;omega)]
theorem pq{h:Int}(hh:h<=9223372036854775807):ib h=some (if CH h then (h-1) % 32 else -1):=by
 unfold ib;rw[og hh,a0A];split <;> rfl
theorem rv{h:Int}(hh:h<=9223372036854775807):jO h=some (if CH h then (h-1) / 32 else -1):=by
 unfold jO;rw[og hh,a0A];split <;> rfl
abbrev z0:n8:=⟨0,0,0,0,false,[]⟩
structure SlO (s:l4):Prop where
 len:s.b7.length<=24
 l0:0<=s.Last
 l9:s.Last<=9
 cell:∀i (h:i<s.b7.length),0<=s.b7[i].State/\s.b7[i].State<=3/\0<=s.b7[i].Gen/\s.b7[i].Gen<=s.Last
theorem mK{s:l4}{i:Int}{k:Nat}{c:c9}(hi:i=k)(hk:k<s.b7.length)(hl:s.b7.length<=24):E9 s i c=some ⟨s.b7.set k c,s.Last⟩:=by
 subst hi;unfold E9 y8;rw[cu (by omega) (by omega),a0A,u4 hk,a0A,zT]
theorem Eo{s:l4}(hR:SlO s)(v:n8) :
  (∃i,∃h:i<s.b7.length,s.b7[i].State=0/\(∀j (hj:j<i),s.b7[j].State≠0)/\M6 s v=some (⟨s.b7.set i ⟨1,s.b7[i].Gen,v⟩,s.Last⟩,1+i+32*s.b7[i].Gen,0)) \/
  ((∀i (h:i<s.b7.length),s.b7[i].State≠0)/\M6 s v=some (s,0,4)):=by
 have hlen:=hR.len;by_cases q:∃i,∃h:i<s.b7.length,s.b7[i].State=0
 .obtain⟨i,⟨hi,h0⟩,hmin⟩:=dT (p:=λi=>∃h:i<s.b7.length,s.b7[i].State=0) q;left;refine⟨i,hi,h0,λj hj=>λe=>by have:=hmin j ⟨by omega,e⟩;omega,?_⟩;unfold M6;simp only[jn,R3,a0A];have hc:=hR.cell i hi;refine aK s.b7.length (λk=>k<=i) (by omega) (by omega) (λk hk hP=>?_) (λhP=>by omega);rcases zF k i with g | g
  .refine .inl ⟨?_,g⟩;have:s.b7[k].State≠0:=λe=>by have:=hmin k ⟨hk,e⟩;omega
   simp only[wn,hk,ww,we,u4 hk,a0A];rw[za (by simpa using this),n9]
  .have:k=i:=by omega
   subst this;refine .inr ⟨.inl _,?_,rfl⟩;simp only[wn,hk,ww,we,u4 hk,a0A,h0,mK rfl hk hlen];rw[pn (by omega) (by omega) hc.2.2.1 (by have:=hR.l9;omega)];simp
 .right;refine⟨λi h e=>q ⟨i,h,e⟩,?_⟩;unfold M6;simp only[jn,R3,a0A];refine aK s.b7.length (λk=>True) (by omega) trivial (λk hk _=>?_) (λhP=>⟨.inr (),by simp,rfl⟩);refine .inl ⟨?_,trivial⟩;have:s.b7[k].State≠0:=λe=>q ⟨k,hk,e⟩;simp only[wn,hk,ww,we,u4 hk,a0A];rw[za (by simpa using this),n9]
def xf(s:l4)(h:Int)(i:Nat):Prop:=∃hi:i<s.b7.length,CH h/\(h-1) % 32=i/\s.b7[i].Gen=(h-1) / 32/\(s.b7[i].State=1\/s.b7[i].State=2)
theorem nj(s:l4){h:Int}(hh:h<=9223372036854775807) :
  (∃i,xf s h i/\A1 s h=some ((i:Int),0))\/((∀i,¬xf s h i)/\A1 s h=some (-1,if h=0 then 2 else 3)):=by
 unfold A1;by_cases h0:h=0
 .right;subst h0;exact⟨λi ⟨_,h1,_⟩=>by unfold CH at h1;omega,by simp⟩
 .rw[za (by simpa using h0),pq hh,a0A,za h0];by_cases hd:CH h
  .rw[zb hd];have hd':=hd;unfold CH at hd';obtain⟨k,hk⟩:∃k:Nat,(h-1) % 32=k:=⟨((h-1) % 32).toNat,by omega⟩;rw[hk];by_cases hl:k<s.b7.length
   .rw[za (by simp;omega),u4 hl,a0A,rv hh,a0A,zb hd];by_cases g:s.b7[k].Gen=(h-1) / 32/\(s.b7[k].State=1\/s.b7[k].State=2)
    .left;refine⟨k,⟨hl,hd,hk,g⟩,?_⟩;rw[za];simp;omega
    .right;refine⟨λi ⟨hi,_,h2,h3⟩=>?_,?_⟩
     .have:i=k:=by omega
      subst this;exact g h3
     .rw[zb];simp;omega
   .right;refine⟨λi ⟨hi,_,h2,h3⟩=>by omega,?_⟩;rw[zb (by simp;omega)]
  .right;refine⟨λi ⟨hi,h1,_⟩=>hd h1,?_⟩;rw[za hd,zb (by simp)]
theorem vA{s:l4}{h:Int}{i:Nat}(hf:xf s h i):A1 s h=some ((i:Int),0):=by
 have hh:=Od hf.2.1;rcases nj s (h:=h) (by omega) with ⟨j,h1,h2⟩ | ⟨h1,_⟩
 .obtain⟨_,_,e1,_⟩:=hf;obtain⟨_,_,e2,_⟩:=h1;have:i=j:=by omega
  subst this;exact h2
 .exact absurd hf (h1 i)
theorem BW{s:l4}{h:Int}(hh:h<=9223372036854775807)(hf:∀i,¬xf s h i):A1 s h=some (-1,if h=0 then 2 else 3):=by
 rcases nj s hh with ⟨j,h1,_⟩ | ⟨_,h2⟩;·exact absurd h1 (hf j)
 .exact h2
theorem tD(h:Int):(if h=0 then 2 else 3:Int)≠0:=by split <;> omega
theorem FH{s:l4}{h:Int}{i:Nat}(hf:xf s h i):∃hi:i<s.b7.length,H9 s h=some (if s.b7[i].State=2 then (z0,3) else (s.b7[i].Val,0)):=by
 refine⟨hf.1,?_⟩;unfold H9;rw[vA hf,a0A,za (by simp),u4 hf.1,a0A];split <;> rename_i q
 .rw[zb (by simpa using q)]
 .rw[za (by simpa using q)]
theorem yK{s:l4}{h:Int}(hh:h<=9223372036854775807)(hf:∀i,¬xf s h i):H9 s h=some (z0,if h=0 then 2 else 3):=by
 unfold H9;rw[BW hh hf,a0A,zb (by simpa using tD h)]
theorem PW{s:l4}{h:Int}{v:n8}{i:Nat}(hl:s.b7.length<=24)(hf:xf s h i):∃hi:i<s.b7.length,aR s h v=some (⟨s.b7.set i ⟨s.b7[i].State,s.b7[i].Gen,v⟩,s.Last⟩,0):=by
 refine⟨hf.1,?_⟩;unfold aR;rw[vA hf,a0A,za (by simp),u4 hf.1,a0A,mK rfl hf.1 hl,a0A]
def oo(o:n8):xR:=⟨o.Serial,o.Strong,o.Weak,o.Prog,o.Started,o.Fields⟩
def cO(c:c9):ml:=⟨c.State,c.Gen,oo c.Val⟩
def sO(s:b6):jB:=⟨s.S.b7.map cO,s.S.Last,s.Serial⟩
def Sm(s:b6):Prop:=s.S.b7.length<=30/\∀i (h:i<s.S.b7.length),s.S.b7[i].Val.Fields.length<=10
instance(s:b6):Decidable (Sm s):=by unfold Sm;infer_instance
def Qx(c:ml):Prop:=c.State=1\/c.State=2
instance(c:ml):Decidable (Qx c):=by unfold Qx;infer_instance
def XQ(t:jB)(o:xR):Prop:=1<=o.Serial/\o.Serial<=t.Serial/\0<=o.Strong/\0<=o.Weak /\ -1<=o.Prog/\o.Prog<=5/\o.Fields.length<=4
def KX(o:xR):Prop:=o.Serial=0/\o.Strong=0/\o.Weak=0/\o.Prog=0/\o.Started=false/\o.Fields.length=0
structure xh (t:jB):Prop where
 len:t.b7.length<=24
 l0:0<=t.Last
 l9:t.Last<=9
 bC:0<=t.Serial
 cell:∀i (h:i<t.b7.length),0<=t.b7[i].State/\t.b7[i].State<=3/\0<=t.b7[i].Gen/\t.b7[i].Gen<=t.Last
 no:∀i (h:i<t.b7.length),¬Qx t.b7[i]->KX t.b7[i].Val
 ok:∀i (h:i<t.b7.length),Qx t.b7[i]->XQ t t.b7[i].Val
 dif:∀i (h:i<t.b7.length) k (hk:k<i),Qx t.b7[i]->Qx t.b7[k]->t.b7[k].Val.Serial≠t.b7[i].Val.Serial
theorem GL{c:Int->Int->Option Int}{xs:List Int}(key:Int->Int)(hc:∀x y,∃r,c x y=some r/\(r<0↔key x<key y))(hl:xs.length<4611686018427387904) :
  ∃ys,wq c xs=some ys/\ys.Perm xs/\ys.Pairwise (λa b=>key a<=key b):=by
 have hlt:∀x y,Go.Proofs.ltOf (λx y=>(c x y).getD 0) x y=decide (key x<key y):=λx y=>by
  obtain⟨r,h1,h2⟩:=hc x y;show decide ((c x y).getD 0<0)=_;rw[h1,ul];exact zbl.2 h2
 have hO:Go.Sort.SWO (Go.Proofs.ltOf λx y=>(c x y).getD 0):=by
  refine⟨λx=>?_,λx y z=>?_,λx y z=>?_⟩;·rw[hlt];simp
  .rw[hlt,hlt,hlt];simp;omega
  .rw[hlt,hlt,hlt];simp;omega
 have hcond:(∀x y,(c x y).isSome=true)/\Go.Sort.SWO (Go.Proofs.ltOf λx y=>(c x y).getD 0)/\xs.length<4611686018427387904:=⟨λx y=>by
  obtain⟨r,h1,_⟩:=hc x y;rw[h1];rfl,hO,hl⟩
 unfold wq;rw[zb hcond];refine⟨_,rfl,?_⟩;obtain⟨⟨p1,p2,p3⟩,p4⟩:=Go.Sort.pdq_sorts (Go.Proofs.ltOf λx y=>(c x y).getD 0) hO xs.toArray 0 xs.length (Go.Lib.bitLen xs.length) true true (zX _) (by simp) (Or.inl rfl);generalize Go.Sort.pdq (Go.Proofs.ltOf λx y=>(c x y).getD 0) xs.toArray 0 xs.length (Go.Lib.bitLen xs.length) true true=d at p1 p2 p3 p4 |-;have hs:d.size=xs.length:=by simpa using p1
 refine⟨?_,?_⟩
 .have e1:d.extract 0 xs.length=d:=by rw[<-hs];exact Array.extract_size
  have e2:xs.toArray.extract 0 xs.length=xs.toArray:=by
   simp
  rw[e1,e2] at p3;simpa using p3
 .rw[za4];intro i j hi hj hij;have hi':i<d.size:=by simpa using hi
  have hj':j<d.size:=by simpa using hj
  have:=p4 i j (zX _) hij (by omega);rw[hlt,getElem!_pos d j hj',getElem!_pos d i hi'] at this;have:=of_decide_eq_false this;simp only[Array.getElem_toList];omega
def dp:Nat->List c9->List Int
 | _,[]=>[]
 | k,c::r=>(if c.State=1 then [1+(k:Int)+32*c.Gen] else [])++dp (k+1) r
theorem vD(c:c9):∀(k:Nat) (xs:List c9),dp k (xs ++ [c])=dp k xs++(if c.State=1 then [1+((k+xs.length:Nat):Int)+32*c.Gen] else [])
 | k,[]=>by simp[dp]
 | k,x::r=>by
  simp only[List.cons_append,dp,vD c (k+1) r,zai,zH];rw[show k+1+r.length=k+(r.length+1) by omega]
theorem tW:∀(k:Nat) (xs:List c9),(dp k xs).length<=xs.length
 | _,[]=>by simp[dp]
 | k,c::r=>by
  have:=tW (k+1) r;simp only[dp,zJ,zH];split <;> simp <;> omega
theorem pz{h:Int}:∀ {k:Nat} {xs:List c9},h∈dp k xs↔∃i,∃hi:i<xs.length,xs[i].State=1/\h=1+((k+i:Nat):Int)+32*xs[i].Gen
 | k,[]=>by simp[dp]
 | k,c::r=>by
  simp only[dp,zu,pz (k:=k+1) (xs:=r)];constructor
  .rintro (q | ⟨i,hi,q1,q2⟩)
   .by_cases hc:c.State=1
    .rw[zb hc] at q;exact⟨0,by simp,by simpa using hc,by simpa using q⟩
    .rw[za hc] at q;cases q
   .exact⟨i+1,by simpa using hi,by simpa using q1,by simp only[List.getElem_cons_succ];rw[q2,show k+1+i=k+(i+1) by omega]⟩
  .rintro⟨i,hi,q1,q2⟩;cases i with
   | zero=>
    left;simp only[List.getElem_cons_zero] at q1 q2;rw[zb q1];simp[q2]
   | succ i=>
    right;simp only[List.getElem_cons_succ] at q1 q2;exact⟨i,by simpa using hi,q1,by rw[q2,show k+1+i=k+(i+1) by omega]⟩
def sk(cs:List c9)(h:Int):Int:=match cs[((h-1) % 32).toNat]? with
 | some c=>c.Val.Serial
 | none=>0
theorem GK{cs:List c9}{i:Nat}{g:Int}(h:i<cs.length)(h32:cs.length<=32):sk cs (1+(i:Int)+32*g)=cs[i].Val.Serial:=by
 unfold sk;have:((1+(i:Int)+32*g-1) % 32).toNat=i:=by omega
 rw[this,zc h]
structure ZB (cs:List c9):Prop where
 len:cs.length<=24
 gen:∀i (h:i<cs.length),0<=cs[i].Gen/\cs[i].Gen<=9
theorem Cg{s:b6}(hR:ZB s.S.b7):∃l,G5 s=some l/\l.Perm (dp 0 s.S.b7)/\l.Pairwise (λa b=>sk s.S.b7 a<=sk s.S.b7 b):=by
 have hlen:=hR.len;unfold G5;simp only[jn];have hh:=tW 0 s.S.b7;have hloop:∃e:List (Int × Int) × List Int,lp (S:=Int × (List (Int × Int)) × (List Int)) (E:=((List (Int × Int)) × (List Int))) (λ((s23,s24,s25):Int × (List (Int × Int)) × (List Int))=>
   if (decide (s23<(s.S.b7.length:Int))) then
    ((ix s.S.b7 s23).bind λv35=>
     if (v35.State==1) then
      (eG s23 v35.Gen).bind λv36=>
      (app 8 s25 [v36]).bind λv37=>
      some (.inl (x4 (s23+1),(p6 s24 v36 v35.Val.Serial),v37))
     else
     some (.inl (x4 (s23+1),s24,s25)))
   else
   some (.inr (s24,s25))) (0,[],[])=some e/\e.2=dp 0 s.S.b7/\∀h∈e.2,A0 e.1 h=some (sk s.S.b7 h):=by
  refine iM (T:=List (Int × Int) × List Int) s.S.b7.length (λk e=>e.2=dp 0 (s.S.b7.take k)/\∀h∈e.2,A0 e.1 h=some (sk s.S.b7 h)) (λe:List (Int × Int) × List Int=>e.2=dp 0 s.S.b7/\∀h∈e.2,A0 e.1 h=some (sk s.S.b7 h)) (by omega) ⟨by simp[dp],by simp⟩ (λk e hk hP=>?_) (λe hP=>?_)
  .obtain⟨h1,h2⟩:=hP;obtain⟨m,l⟩:=e;simp only at h1 h2;left;have hc:=hR.gen k hk;have hl:l.length<=24:=by rw[h1];have:=tW 0 (s.S.b7.take k);simp at this;omega
   have et:s.S.b7.take (k+1)=s.S.b7.take k ++ [s.S.b7[k]]:=by rw[List.take_add_one,zc hk];rfl
   have el:(s.S.b7.take k).length=k:=by simp;omega
   by_cases q:s.S.b7[k].State=1
   .refine⟨(p6 m (1+(k:Int)+32*s.S.b7[k].Gen) s.S.b7[k].Val.Serial,l ++ [1+(k:Int)+32*s.S.b7[k].Gen]),?_,?_,?_⟩
    .simp only[wn,hk,ww,we,u4 hk,a0A,q,zW];rw[pn (by omega) (by omega) hc.1 hc.2,a0A,I6 (by omega) (by simp;omega),a0A,n9]
    .simp only;rw[et,vD,zb q,el,h1,zam]
    .intro h hh;simp only[zu,zn] at hh |-;rw[qx];rcases hh with hh | rfl
     .split;·rename_i e;rw[e,GK hk (by omega)]
      .exact h2 h hh
     .rw[zb rfl,GK hk (by omega)]
   .refine⟨(m,l),?_,?_,h2⟩
    .simp only[wn,hk,ww,we,u4 hk,a0A];rw[za (by simpa using q),n9]
    .simp only;rw[et,vD,za q,h1,zay]
  .obtain⟨h1,h2⟩:=hP;obtain⟨m,l⟩:=e;refine⟨(m,l),by simp only[zbo,zby,zD,q9],?_,h2⟩;simpa using h1
 obtain⟨⟨m,l⟩,e1,e2,e3⟩:=hloop;rw[show lp _ _=_ from e1,a0A];simp only at e2 e3 |-;subst e2;obtain⟨ys,q1,q2,q3⟩:=GL (c:=λp q=>jr p q m) (xs:=dp 0 s.S.b7) (λh=>(A0 m h).getD 0) (λx y=>by
  unfold jr iD dm;simp only[a0A,zb7,zD,q9];generalize (A0 m x).getD 0=a;generalize (A0 m y).getD 0=b;by_cases h1:a<b
  .rw[zE h1];exact⟨-1,rfl,by simp[h1]⟩
  .rw[zZ h1];by_cases h2:a > b
   .rw[zE h2];exact⟨1,rfl,by simp[h1]⟩
   .rw[zZ h2];exact⟨0,rfl,by simp[h1]⟩) (by omega)
 refine⟨ys,by rw[q1];rfl,q2,q3.imp_of_mem λ{a b} ha hb hab=>?_⟩;rw[e3 a (q2.mem_iff.1 ha),e3 b (q2.mem_iff.1 hb)] at hab;simpa using hab
theorem sI{key:Int->Int}:∀ {l m:List Int},l.Perm m->l.Pairwise (λa b=>key a<=key b)->m.Pairwise (λa b=>key a<=key b)->(∀a∈l,∀b∈l,key a=key b->a=b)->l=m
 | [],m,hp,_,_,_=>(List.nil_perm.1 hp).symm
 | a::l,[],hp,_,_,_=>by simp at hp
 | a::l,b::m,hp,h1,h2,hk=>by
  have ha:=za9.1 h1;have hb:=za9.1 h2;have e:a=b:=by
   have m1:b∈a::l:=hp.mem_iff.2 (zg ..);have m2:a∈b::m:=hp.mem_iff.1 (zg ..);rcases zM.1 m1 with q | q
   .exact q.symm
   .rcases zM.1 m2 with q' | q'
    .exact q'
    .exact hk a (zg ..) b m1 (Int.le_antisymm (ha.1 b q) (hb.1 a q'))
  subst e;rw[sI (List.perm_cons a |>.1 hp) ha.2 hb.2 λx hx y hy=>hk x (zo _ hx) y (zo _ hy)]
theorem lD(s:b6):(sO s).b7.length=s.S.b7.length:=by simp[sO]
theorem pQ{s:b6}(h:xh (sO s)):s.S.b7.length<=24:=by have:=h.len;rwa [lD] at this
theorem Ef{s:b6}(h:xh (sO s))(i:Nat)(hi:i<s.S.b7.length):0<=s.S.b7[i].State/\s.S.b7[i].State<=3/\0<=s.S.b7[i].Gen/\s.S.b7[i].Gen<=s.S.Last:=by
 have:=h.cell i (by rw[lD];exact hi);simpa[sO,cO] using this
theorem Iz{s:b6}(h:xh (sO s)):ZB s.S.b7:=⟨pQ h,λi hi=>by have:=Ef h i hi;have h9:s.S.Last<=9:=h.l9;omega⟩
theorem PM{s:b6}(h:xh (sO s))(i:Nat)(hi:i<s.S.b7.length)(ht:s.S.b7[i].State=1\/s.S.b7[i].State=2):XQ (sO s) (oo s.S.b7[i].Val):=by
 have:=h.ok i (by rw[lD];exact hi);simp only[sO,t8,cO,Qx] at this;exact this ht
theorem PL{s:b6}(h:xh (sO s)){i j:Nat}(hi:i<s.S.b7.length)(hj:j<s.S.b7.length)(a:s.S.b7[i].State=1\/s.S.b7[i].State=2)(b:s.S.b7[j].State=1\/s.S.b7[j].State=2)(e:s.S.b7[i].Val.Serial=s.S.b7[j].Val.Serial):i=j:=by
 have key:∀i (hi:i<s.S.b7.length) j (hj:j<i),(s.S.b7[i].State=1\/s.S.b7[i].State=2)->(s.S.b7[j].State=1\/s.S.b7[j].State=2)->s.S.b7[j].Val.Serial≠s.S.b7[i].Val.Serial:=λi hi j hj a b=>by
  have:=h.dif i (by rw[lD];exact hi) j hj;simp only[sO,t8,cO,Qx,oo] at this;exact this a b
 rcases Nat.lt_trichotomy i j with q | q | q
 .exact absurd e (key j hj i q b a)
 .exact q
 .exact absurd e.symm (key i hi j q a b)
theorem py{s:b6}(hR:xh (sO s)){x:Int}(hx:x∈dp 0 s.S.b7):∃i,∃hi:i<s.S.b7.length,s.S.b7[i].State=1/\x=1+(i:Int)+32*s.S.b7[i].Gen/\xf s.S x i/\sk s.S.b7 x=s.S.b7[i].Val.Serial/\y5 s x=some (s.S.b7[i].Val,0):=by
 obtain⟨i,hi,h1,h2⟩:=pz.1 hx;rw[zam] at h2;have hl:=(pQ hR);have hc:=(Iz hR).gen i hi;have hf:xf s.S x i:=⟨hi,by unfold CH;omega,by omega,by omega,.inl h1⟩;refine⟨i,hi,h1,h2,hf,by rw[h2];exact GK hi (by omega),?_⟩;obtain⟨_,e⟩:=FH hf;unfold y5;rw[e,za (by omega)];rfl
theorem NO{s:b6}{x:Int}{i:Nat}(hf:xf s.S x i)(h1:∀hi:i<s.S.b7.length,s.S.b7[i].State=1):x∈dp 0 s.S.b7:=by
 obtain⟨hi,q1,q2,q3,_⟩:=hf;refine pz.2 ⟨i,hi,h1 hi,?_⟩;unfold CH at q1;rw[zam];omega
theorem IE{s:b6}(hR:xh (sO s)){x y:Int}(hx:x∈dp 0 s.S.b7)(hy:y∈dp 0 s.S.b7)(e:sk s.S.b7 x=sk s.S.b7 y):x=y:=by
 obtain⟨i,hi,a1,a2,_,a4,_⟩:=py hR hx;obtain⟨j,hj,b1,b2,_,b4,_⟩:=py hR hy;have:=(PL hR) hi hj (.inl a1) (.inl b1) (by rw[<-a4,<-b4];exact e);subst this;rw[a2,b2]
theorem nr:∀(k:Nat) (cs:List c9),k+cs.length<=32->(dp k cs).Nodup
 | _,[],_=>zb2
 | k,c::r,h=>by
  simp only[zH] at h;unfold dp;rw[zbs];refine⟨by split <;> simp,nr (k+1) r (by omega),λa ha b hb e=>?_⟩;split at ha
  .simp only[zn] at ha;subst ha;subst e;obtain⟨i,hi,h1,h2⟩:=pz.1 hb;have:((1+(k:Int)+32*c.Gen)-1) % 32=((1+((k+1+i:Nat):Int)+32*r[i].Gen)-1) % 32:=by rw[h2]
   omega
  .cases ha
theorem JS{s:b6}(hR:xh (sO s)):∃l,G5 s=some l/\l.Perm (dp 0 s.S.b7)/\l.Pairwise (λa b=>sk s.S.b7 a<sk s.S.b7 b):=by
 obtain⟨l,h1,h2,h3⟩:=Cg (Iz hR);refine⟨l,h1,h2,?_⟩;have hn:l.Nodup:=h2.nodup_iff.2 (nr 0 _ (by have:=(pQ hR);omega));have:=List.Pairwise.and h3 hn;refine this.imp_of_mem λ{a b} ha hb ⟨q1,q2⟩=>?_;rcases Int.lt_or_eq_of_le q1 with q | q
 .exact q
 .exact absurd (IE hR (h2.mem_iff.1 ha) (h2.mem_iff.1 hb) q) q2
theorem tX:∀(k:Nat) (cs:List c9) (i:Nat) (c:c9) (hi:i<cs.length),cs[i].State≠1->c.State=1->(dp k (cs.set i c)).Perm ((1+((k+i:Nat):Int)+32*c.Gen)::dp k cs)
 | _,[],i,_,hi,_,_=>by simp at hi
 | k,d::r,0,c,hi,h1,h2=>by
  simp only[List.getElem_cons_zero] at h1;simp only[List.set_cons_zero,dp,zb h2,za h1,zcj,za7];exact List.Perm.refl _
 | k,d::r,i+1,c,hi,h1,h2=>by
  simp only[List.getElem_cons_succ] at h1;simp only[List.set_cons_succ,dp];have:=tX (k+1) r i c (by simpa using hi) h1 h2;rw[show k+1+i=k+(i+1) by omega] at this;exact (List.Perm.append_left _ this).trans List.perm_middle
theorem Xk{cs:List c9}{i:Nat}{c:c9}{x:Int}(h:((x-1) % 32).toNat≠i):sk (cs.set i c) x=sk cs x:=by
 unfold sk;rw[List.getElem?_set_ne (by omega)]
theorem Ia{s:b6}(hR:xh (sO s)){i:Nat}(hi:i<s.S.b7.length)(h0:s.S.b7[i].State=0)(o:n8)(ho:o.Serial=s.Serial+1){l:List Int}(hl:G5 s=some l) :
  G5 ⟨⟨s.S.b7.set i ⟨1,s.S.b7[i].Gen,o⟩,s.S.Last⟩,s.Serial+1⟩=some (l ++ [1+(i:Int)+32*s.S.b7[i].Gen]):=by
 obtain⟨l',e,l1,l2⟩:=JS hR;rw[hl] at e;cases e;have hlen:=pQ hR;have hsl:ZB (s.S.b7.set i ⟨1,s.S.b7[i].Gen,o⟩):=⟨by simpa using hlen,λj hj=>by
  rw[zcr];have:=(Iz hR).gen;split;·exact this i hi
  .exact this j (by simpa using hj)⟩
 obtain⟨m,m1,m2,m3⟩:=Cg (s:=⟨⟨s.S.b7.set i ⟨1,s.S.b7[i].Gen,o⟩,s.S.Last⟩,s.Serial+1⟩) hsl;have hp:=tX 0 s.S.b7 i ⟨1,s.S.b7[i].Gen,o⟩ hi (by omega) rfl;rw[zam] at hp;have hold:∀x∈l,sk (s.S.b7.set i ⟨1,s.S.b7[i].Gen,o⟩) x=sk s.S.b7 x/\sk s.S.b7 x<=s.Serial:=λx hx=>by
  obtain⟨j,hj,a1,a2,a3,a4,_⟩:=py hR (l1.mem_iff.1 hx);refine⟨Xk ?_,?_⟩
  .obtain⟨_,_,q,_⟩:=a3;intro e;have:j=i:=by omega
   subst this;omega
  .rw[a4];exact (PM hR j hj (.inl a1)).2.1
 have hnew:sk (s.S.b7.set i ⟨1,s.S.b7[i].Gen,o⟩) (1+(i:Int)+32*s.S.b7[i].Gen)=s.Serial+1:=by
  rw[GK (by simpa using hi) (by simp;omega)];simp[ho]
 rw[m1];congr 1;refine sI (key:=sk (s.S.b7.set i ⟨1,s.S.b7[i].Gen,o⟩)) ?_ m3 ?_ ?_
 .refine m2.trans (hp.trans ?_);refine List.Perm.trans (List.Perm.cons _ l1.symm) ?_;exact (List.perm_append_singleton _ _).symm
 .rw[zav];refine⟨l2.imp_of_mem λ{a b} ha hb hab=>?_,by simp,λa ha b hb=>?_⟩;·rw[(hold a ha).1,(hold b hb).1];omega
  .rw[zn] at hb;subst hb;rw[hnew,(hold a ha).1];have:=(hold a ha).2;omega
 .have hm:∀a∈m,a∈l\/a=1+(i:Int)+32*s.S.b7[i].Gen:=λa ha=>by
   have:=hp.mem_iff.1 (m2.mem_iff.1 ha);rcases zM.1 this with q | q
   .exact .inr q
   .exact .inl (l1.mem_iff.2 q)
  intro a ha b hb hab;rcases hm a ha with qa | rfl <;> rcases hm b hb with qb | rfl
  .rw[(hold a qa).1,(hold b qb).1] at hab;exact IE hR (l1.mem_iff.1 qa) (l1.mem_iff.1 qb) hab
  .rw[(hold a qa).1,hnew] at hab;have:=(hold a qa).2;omega
  .rw[(hold b qb).1,hnew] at hab;have:=(hold b qb).2;omega
  .rfl
theorem YE(n last:Int):∃a,jE n last=some a/\DU n last=some (sO a)/\xh (sO a)/\a.S.b7.length<=24/\∀i (h:i<a.S.b7.length),a.S.b7[i].Val.Fields.length<=4:=by
 unfold jE DU aQ Kv;by_cases h:0<=n/\n<=24/\0<=last/\last<=9
 .obtain⟨h1,h2,h3,h4⟩:=h;obtain⟨k,rfl⟩:∃k:Nat,n=k:=⟨n.toNat,by omega⟩;rw[za (by simp;omega),za (by simp;omega),kW (by omega) (by omega),kW (by omega) (by omega)];simp only[a0A,List.length_replicate];rw[kW (by omega) (by omega)];refine⟨_,rfl,?_,?_,by simp;omega,λi h=>by simp⟩;·simp[sO,cO,oo]
  .refine⟨by simp[sO];omega,h3,h4,by simp[sO],λi h=>?_,λi h=>?_,λi h q=>?_,λi h k hk q=>?_⟩;·simp[sO,cO];omega
   .simp[sO,cO,oo,KX]
   .exfalso;simp[sO,cO,oo,Qx] at q
   .exfalso;simp[sO,cO,oo,Qx] at q
 .rw[zb (by simp;omega),zb (by simp;omega)];simp only[a0A,zah];rw[show mk 80 ((0:Nat):Int) (⟨0,0,⟨0,0,0,0,false,[]⟩⟩:ml)=some [] from rfl];refine⟨_,rfl,rfl,⟨by simp[sO],by simp[sO],by simp[sO],by simp[sO],?_,?_,?_,?_⟩,by simp,λi h=>by simp at h⟩ <;> (intro i h;simp[sO] at h)
noncomputable def lv(s:b6):List Int:=(G5 s).getD []
def ob(s:b6)(h:Int):n8:=((y5 s h).getD (z0,0)).1
def outs(s:b6)(h:Int):List Int:=nz (ob s h).Fields
def FB(s:b6):Prop:=∀c∈s.S.b7,∀x∈c.Val.Fields,x<=9223372036854775807
section
variable{s:b6}(hR:xh (sO s))
include hR
theorem nv:G5 s=some (lv s)/\(lv s).Perm (dp 0 s.S.b7)/\(lv s).Pairwise (λa b=>sk s.S.b7 a<sk s.S.b7 b):=by
 obtain⟨l,h1,h2,h3⟩:=JS hR;have:lv s=l:=by unfold lv;rw[h1];rfl
 rw[this];exact⟨h1,h2,h3⟩
theorem gN:G5 s=some (lv s):=(nv hR).1
theorem DB{h:Int}:h∈lv s↔h∈dp 0 s.S.b7:=(nv hR).2.1.mem_iff
theorem N3:(lv s).length<=24:=by
 rw[(nv hR).2.1.length_eq];exact zN (tW 0 s.S.b7) (pQ hR)
theorem uh:(lv s).Nodup:=(nv hR).2.1.nodup_iff.2 (nr 0 _ (by have:=(pQ hR);omega))
theorem vH{h:Int}(hh:h∈lv s):y5 s h=some (ob s h,0):=by
 obtain⟨i,hi,_,_,_,_,e⟩:=py hR ((DB hR).1 hh);unfold ob;rw[e];rfl
theorem DA{h:Int}(hh:h∈lv s):∃i,∃hi:i<s.S.b7.length,s.S.b7[i].State=1/\h=1+(i:Int)+32*s.S.b7[i].Gen/\xf s.S h i/\ob s h=s.S.b7[i].Val:=by
 obtain⟨i,hi,h1,h2,h3,_,e⟩:=py hR ((DB hR).1 hh);refine⟨i,hi,h1,h2,h3,?_⟩;unfold ob;rw[e];rfl
theorem pE{h:Int}(hh:h∈lv s):1<=h/\h<=320:=by
 obtain⟨i,hi,_,_,hf,_⟩:=DA hR hh;exact Od hf.2.1
theorem Uw{h:Int}(hh:h<=9223372036854775807)(hn:h∉lv s):∃e,e≠0/\y5 s h=some (z0,e):=by
 rcases nj s.S hh with ⟨i,hf,_⟩ | ⟨hf,_⟩
 .obtain⟨hi,e⟩:=FH hf;unfold y5;rw[e];by_cases h2:s.S.b7[i].State=2
  .rw[zb h2];exact⟨3,by decide,rfl⟩
  .exact absurd ((DB hR).2 (NO hf λ_=>hf.2.2.2.2.resolve_right h2)) hn
 .unfold y5;rw[yK hh hf];exact⟨_,tD h,rfl⟩
theorem wK{h:Int}(hh:h<=9223372036854775807)(hn:h∉lv s):ob s h=z0:=by
 obtain⟨e,_,h1⟩:=Uw hR hh hn;unfold ob;rw[h1];rfl
theorem iI{h:Int}(hh:h<=9223372036854775807):∃e,y5 s h=some (ob s h,e)/\(e=0↔h∈lv s):=by
 by_cases q:h∈lv s
 .exact⟨0,vH hR q,by simp[q]⟩
 .obtain⟨e,h0,h1⟩:=Uw hR hh q;refine⟨e,?_,by simp[h0,q]⟩;rw[h1,wK hR hh q]
theorem SY{h:Int}(hh:h<=9223372036854775807)(hn:h∉lv s):outs s h = []:=by
 unfold outs;rw[wK hR hh hn];rfl
theorem Kh(h:Int)(hh:h<=9223372036854775807):(ob s h).Fields.length<=4:=by
 by_cases q:h∈lv s
 .obtain⟨i,hi,h1,_,_,e⟩:=DA hR q;rw[e];exact (PM hR i hi (.inl h1)).2.2.2.2.2.2
 .rw[wK hR hh q];exact zX _
theorem Ai(h:Int)(hh:h<=9223372036854775807):(outs s h).length<=4:=zN (OQ _) (Kh hR h hh)
theorem SX(hF:FB s){h x:Int}(hh:h<=9223372036854775807)(hx:x∈outs s h):x<=9223372036854775807:=by
 by_cases q:h∈lv s
 .obtain⟨i,hi,h1,_,_,e⟩:=DA hR q;unfold outs at hx;rw[e] at hx;exact hF _ (zh hi) x (gx.1 hx).1
 .rw[SY hR hh q] at hx;cases hx
end
theorem SZ{s:b6}{h x:Int}(hx:x∈outs s h):x≠0:=(gx.1 hx).2
theorem Gc(v:List Int)(h:v.length<=1000000):jF v=some (nz v):=by
 unfold jF qM;simp only[jn,a0A];rw[V9 v (λb x=>if x != 0 then b ++ [x] else b) id (λk b=>b.length<=k) (by omega) (by simp) (λk hk b hb=>?_) (λb _=>?_)]
 .simp only[a0A,id];rw[foldl_filter];rfl
 .simp only[wn,hk,ww,we,u4 hk,a0A];by_cases q:(v[k] != 0)=true
  .rw[zb (by simpa using q),zb q,I6 (by omega) (by simp;omega),a0A,n9];exact⟨rfl,by simp;omega⟩
  .rw[za (by simpa using q),za q,n9];exact⟨rfl,by omega⟩
 .simp only[zbo,zby,zD,q9];rfl
noncomputable def kD(s:b6)(h:Int):Nat:=((lv s).map λx=>R4 (outs s x) h).sum
theorem Uv{s:b6}(hR:xh (sO s)){k:Nat}(hk:k<(lv s).length):(lv s)[k]<=9223372036854775807:=by
 have:=pE hR (zh hk);omega
section
variable{s:b6}(hR:xh (sO s))
include hR
theorem Ph{h:Int}(hh:h<=9223372036854775807):mq s h=some (outs s h):=by
 obtain⟨e,h1,_⟩:=iI hR hh;unfold mq;rw[h1,a0A,Gc _ (by have:=Kh hR h hh;simp only;omega)];rfl
theorem Og(h:Int):kD s h<=96:=by
 have:=IG (λx=>R4 (outs s x) h) 4 (lv s) λx hx=>zN (IH _ _) (Ai hR x (by have:=pE hR hx;omega));have:=N3 hR;unfold kD;omega
theorem Yl(h:Int):xS s h=some (kD s h:Int):=by
 unfold xS nI;simp only[jn,a0A];rw[show G5 s=_ from gN hR,a0A];have hl:=N3 hR;rw[V9 (lv s) (λ(b:Int) x=>b+(R4 (outs s x) h:Int)) id (λk b=>0<=b/\b<=4*k) (by omega) (by simp) (λk hk b hb=>?_) (λb _=>?_)]
 .simp only[a0A,id];have:=yD (λx=>R4 (outs s x) h) (lv s) 0;rw[show ((0:Nat):Int)=0 from rfl] at this;rw[this,zam];rfl
 .have ho:=Ph hR (Uv hR hk);have hol:=Ai hR _ (Uv hR hk);have ht:=IH (outs s (lv s)[k]) h;simp only[wn,hk,ww,we,u4 hk,a0A,ho];rw[V9 (outs s (lv s)[k]) (λ(b:Int) x=>if (x==h&&h != 0) then b+1 else b) id (λj c=>b<=c/\c<=b+j) (by omega) (by simp) (λj hj c hc=>?_) (λc _=>?_)]
  .simp only[a0A,id];rw[FC,n9];exact⟨rfl,by omega⟩
  .simp only[wn,hj,ww,we,u4 hj,a0A];have hne:=SZ (zh hj);by_cases q:(outs s (lv s)[k])[j]=h
   .have e2:((outs s (lv s)[k])[j]==h&&h != 0)=true:=by simp only[zy,ms,bne_iff_ne];omega
    rw[e2,zb (by simpa using q),zb rfl,n9,V3 (n:=c+1) (by omega) (by omega)];exact⟨rfl,by omega⟩
   .have e2:((outs s (lv s)[k])[j]==h&&h != 0)=false:=by rw[zbh];simp only[ne_eq,zy,ms,bne_iff_ne];omega
    rw[e2,za (by simpa using q),n9];exact⟨rfl,by simp;omega⟩
  .simp only[zbo,zby,zD,q9];rfl
 .simp only[zbo,zby,zD,q9];rfl
end
section
variable{s:b6}(hR:xh (sO s))(hF:FB s)
include hR hF
end
theorem tG{α:Type}(p:α->Bool):∀l:List α,l.length=(l.filter p).length+(l.filter λx => !p x).length
 | []=>rfl
 | x::l=>by
  have:=tG p l;by_cases h:p x
  .simp[h];omega
  .simp[h];omega
theorem Ys{s:b6}(hR:xh (sO s)){l:List Int}(hp:l.Perm (dp 0 s.S.b7))(hs:l.Pairwise (λa b=>sk s.S.b7 a<sk s.S.b7 b)):lv s=l:=by
 obtain⟨_,l2,l3⟩:=nv hR;exact sI (key:=sk s.S.b7) (l2.trans hp.symm) (l3.imp λh=>by omega) (hs.imp λh=>by omega) λa ha b hb e=>IE hR (l2.mem_iff.1 ha) (l2.mem_iff.1 hb) e
inductive sS (s:b6) (l:List Int):Int->Prop
 | base {h:Int}:h∈l->h∈lv s->sS s l h
 | step {a b:Int}:sS s l a->b∈outs s a->b∈lv s->sS s l b
open Classical in
noncomputable def Iu (s:b6) (l:List Int):List Int:=(lv s).filter λh=>decide (sS s l h)
open Classical in
noncomputable def lst (s:b6) (l:List Int):List Int:=(lv s).filter λh=>decide (¬sS s l h)
def Cl(s:b6)(l:List Int):Prop:=∀a∈l,∀b∈outs s a,b∈lv s->b∈l
def LB(l:List Int):Prop:=∀x∈l,x<=9223372036854775807
theorem sS.live{s:b6}{l:List Int}{h:Int}(q:sS s l h):h∈lv s:=by cases q <;> assumption
open Classical in
theorem fL {s:b6} {l:List Int} {h:Int}:h∈Iu s l↔sS s l h:=by
 unfold Iu;rw[zi];exact⟨λq=>zbg q.2,λq=>⟨q.live,zE q⟩⟩
theorem Tp{s:b6}(hR:xh (sO s))(l:List Int):(Iu s l).length<=24:=zN (zA ..) (N3 hR)
theorem WR(s:b6)(l:List Int):Cl s (Iu s l):=λa ha b hb hl=>fL.2 (.step (fL.1 ha) hb hl)
theorem sS.least{s:b6}{l m:List Int}(hc:Cl s m)(hl:∀x∈l,x∈lv s->x∈m){h:Int}(q:sS s l h):h∈m:=by
 induction q with
 | base h1 h2=>exact hl _ h1 h2
 | step _ h1 h2 ih=>exact hc _ ih _ h1 h2
theorem sS.mono{s:b6}{l m:List Int}(hl:∀x∈l,x∈lv s->sS s m x){h:Int}(q:sS s l h):sS s m h:=by
 induction q with
 | base h1 h2=>exact hl _ h1 h2
 | step _ h1 h2 ih=>exact .step ih h1 h2
theorem Mf{s:b6}{l m:List Int}(h:∀x,sS s l x↔sS s m x):Iu s l=Iu s m:=by
 unfold Iu;exact or λx _=>zbl.2 (h x)
theorem filter_lt{α:Type}{p q:α->Bool}:∀ {l:List α},(∀x∈l,p x=true->q x=true)->∀x∈l,q x=true->p x=false->(l.filter p).length<(l.filter q).length
 | [],_,x,hx,_,_=>by cases hx
 | y::l,h,x,hx,h1,h2=>by
  have hle:(l.filter p).length<=(l.filter q).length:=by
   have h':∀x∈l,p x=true->q x=true:=λx hx=>h x (zo _ hx);clear h hx;induction l with
   | nil=>simp
   | cons z l ih=>
    have:=ih λx hx=>h' x (zo _ hx);have hz:=h' z (zg ..);simp only[mt];by_cases a:p z=true
    .rw[zb a,zb (hz a)];simp only[zH];omega
    .rw[za a];split <;> (try simp only[zH]) <;> omega
  rcases zM.1 hx with rfl | hx'
  .simp only[mt,h1,h2,we,zD,q9,zH];omega
  .have:=filter_lt (λx hx=>h x (zo _ hx)) x hx' h1 h2;have hy:=h y (zg ..);simp only[mt];by_cases a:p y=true
   .rw[zb a,zb (hy a)];simp only[zH];omega
   .rw[za a];split <;> (try simp only[zH]) <;> omega
theorem ai{l m:List Int}(hn:l.Nodup)(h:∀x∈l,x∈m):l.length<=m.length:=by
 induction l generalizing m with
 | nil=>simp
 | cons x l ih=>
  rw[zaa] at hn;have hx:=h x (zg ..);have:=ih (m:=m.erase x) hn.2 λy hy=>(List.mem_erase_of_ne (λe=>hn.1 (by subst e;exact hy))).2 (h y (zo _ hy));rw[List.length_erase_of_mem hx] at this;have:0<m.length:=List.length_pos_of_mem hx;simp only[zH];omega
section
variable{s:b6}(hR:xh (sO s))
include hR
theorem LL{h:Int}(hh:h<=9223372036854775807):cM s h=some (decide (h∈lv s)):=by
 obtain⟨e,h1,h2⟩:=iI hR hh;unfold cM;rw[h1,a0A];congr 1;rw[zbj,ms,zC];exact h2
abbrev Mk(m:List (Int × Bool))(x:Int):Prop:=(A0 m x).getD false=true
noncomputable def KP(s:b6)(m:List (Int × Bool)):Nat:=((lv s).filter λx => !(A0 m x).getD false).length
omit hR in
theorem dY (m:List (Int × Bool)) (x y:Int):Mk (p6 m x true) y↔y=x\/Mk m y:=by
 unfold Mk;rw[qx];by_cases q:y=x
 .simp[q]
 .simp[q]
omit hR in
theorem TO {m:List (Int × Bool)} {x:Int} (hx:x∈lv s) (hm:¬Mk m x):KP s (p6 m x true)<KP s m:=by
 unfold KP;refine filter_lt (λy _ h=>?_) x hx (by simpa[Mk] using hm) ?_
 .by_cases q:Mk m y
  .have:=(dY m x y).2 (.inr q);unfold Mk at this;rw[this] at h;cases h
  .simpa[Mk] using q
 .have:=(dY m x x).2 (.inl rfl);unfold Mk at this;rw[this];rfl
structure Hh (s:b6) (l:List Int) (q:e6) (m:List (Int × Bool)):Prop where
 nd:q.L.Nodup
 cap:q.Cap=((lv s).length:Int)
 iN:∀x∈q.L,Mk m x
 rc:∀x,Mk m x->sS s l x
omit hR in
theorem Hh.room {l:List Int} {q:e6} {m:List (Int × Bool)} (h:Hh s l q m) {x:Int} (hx:x∈lv s) (hm:¬Mk m x):q.L.length<(lv s).length:=by
 have:(x::q.L).length<=(lv s).length:=ai (zaa.2 ⟨λk=>hm (h.iN x k),h.nd⟩) λy hy=>by
  rcases zM.1 hy with rfl | k
  .exact hx
  .exact (h.rc y (h.iN y k)).live
 simp only[zH] at this;omega
omit hR in
theorem Kr {q:e6} {x:Int} (h:(q.L.length:Int)<q.Cap) (h2:q.L.length<=1000):E0 q x=some (⟨q.L ++ [x],q.Cap⟩,0):=by
 unfold E0 I4 U5;rw[a0A,za (by simp;omega)];have:=vr (xs:=q.L) (i:=0) (j:=q.L.length) (by omega) (zG _);rw[show ((0:Nat):Int)=0 from rfl] at this;rw[this];simp only[zR,List.drop_zero,a0A];rw[I6 (by omega) (by simp;omega)];rfl
omit hR in
theorem Pu {x:Int} {r:List Int} {c:Int} (h2:r.length<=1000):Y0 ⟨x::r,c⟩=some (⟨r,c⟩,x,0):=by
 unfold Y0 iU I4 U5;simp only[a0A,zH];have e:(if (if (((r.length+1:Nat):Int))<1 then (((r.length+1:Nat):Int)) else 1) > 0 then (if (((r.length+1:Nat):Int))<1 then (((r.length+1:Nat):Int)) else 1) else 0:Int)=((1:Nat):Int):=by
  rw[za (show ¬(((r.length+1:Nat):Int)<1) by omega)];rfl
 rw[e];have h1:=vr (xs:=x::r) (i:=0) (j:=1) (by omega) (by simp);have h3:=vr (xs:=x::r) (i:=1) (j:=r.length+1) (by omega) (by simp);rw[show ((0:Nat):Int)=0 from rfl] at h1;rw[h1,h3];simp only[a0A];have e1:List.drop 0 (List.take 1 (x::r)) = [x]:=by simp
 have e2:List.drop 1 (List.take (r.length+1) (x::r))=r:=by simp
 rw[e1,e2];rfl
abbrev Gp(s:b6)(xs:List Int):Int × e6 × (List (Int × Bool))->Option ((Int × e6 × (List (Int × Bool))) ⊕ (e6 × (List (Int × Bool)))):=
 λ(s114,s115,s116)=>
   if (decide (s114<(xs.length:Int))) then
     (ix xs s114).bind λv126=>
     (cM s v126).bind λv127=>
     if (v127==true) then
      if (!((A0 s116 v126).getD (false:Bool))) then
       (E0 s115 v126).bind λv128=>
       some (.inl (x4 (s114+1),v128.1,(p6 s116 v126 true)))
      else
      some (.inl (x4 (s114+1),s115,s116))
     else
     some (.inl (x4 (s114+1),s115,s116))
   else
   some (.inr (s115,s116))
theorem Cs{l xs:List Int}{q:e6}{m:List (Int × Bool)}(hxs:LB xs)(hlen:xs.length<=1000000)(h0:Hh s l q m)(hr:∀x∈xs,x∈lv s->sS s l x) :
  ∃q' m',lp (Gp s xs) (0,q,m)=some (q',m')/\Hh s l q' m'/\(∀x,Mk m' x↔Mk m x\/x∈xs/\x∈lv s)/\(∀x,Mk m' x->Mk m x\/x∈q'.L)/\(∀x∈q.L,x∈q'.L)/\2*KP s m'+q'.L.length<=2*KP s m+q.L.length:=by
 have:=iM (f:=Gp s xs) (t0:=(q,m)) xs.length (λk t=>Hh s l t.1 t.2/\(∀x,Mk t.2 x↔Mk m x\/x∈xs.take k/\x∈lv s)/\(∀x,Mk t.2 x->Mk m x\/x∈t.1.L)/\(∀x∈q.L,x∈t.1.L)/\2*KP s t.2+t.1.L.length<=2*KP s m+q.L.length)
  (λt=>Hh s l t.1 t.2/\(∀x,Mk t.2 x↔Mk m x\/x∈xs/\x∈lv s)/\(∀x,Mk t.2 x->Mk m x\/x∈t.1.L)/\(∀x∈q.L,x∈t.1.L)/\2*KP s t.2+t.1.L.length<=2*KP s m+q.L.length) (by omega)
  ⟨h0,λx=>by simp,λx h=>.inl h,λx h=>h,zG _⟩ (λk t hk hP=>?_) (λt hP=>?_)
 .obtain⟨⟨q',m'⟩,h1,h2⟩:=this;exact⟨q',m',h1,h2⟩
 .obtain⟨q1,m1⟩:=t;obtain⟨p1,p2,p3,p4,p5⟩:=hP;simp only at p1 p2 p3 p4 p5;left;have hle:=hxs _ (zh hk);have ht:∀x,x∈xs.take (k+1)↔x∈xs.take k\/x=xs[k]:=λx=>by rw[zt hk,zu,zn]
  simp only[Gp,wn,hk,ww,we,u4 hk,a0A,LL hR hle];by_cases hv:xs[k]∈lv s
  .rw[zb (by simpa using hv)];by_cases hm:Mk m1 xs[k]
   .rw[za (by rw[show (A0 m1 xs[k]).getD false=true from hm];decide),n9];refine⟨(q1,m1),rfl,p1,λx=>?_,p3,p4,p5⟩;rw[p2,ht];constructor
    .rintro (a | ⟨a,b⟩);·exact .inl a
     .exact .inr ⟨.inl a,b⟩
    .rintro (a | ⟨a | rfl,b⟩);·exact .inl a
     .exact .inr ⟨a,b⟩
     .exact (p2 _).1 hm
   .have hm':(A0 m1 xs[k]).getD false=false:=by simpa[Mk] using hm
    have hroom:=p1.room hv hm;have hl24:=N3 hR;rw[zb (by rw[hm'];decide),Kr (by rw[p1.cap];omega) (by omega),a0A,n9];refine⟨(⟨q1.L ++ [xs[k]],q1.Cap⟩,p6 m1 xs[k] true),rfl,⟨?_,p1.cap,λx hx=>?_,λx hx=>?_⟩,λx=>?_,λx hx=>?_,λx hx=>?_,?_⟩
    .simp only;rw[zbs];refine⟨p1.nd,by simp,λa ha b hb e=>?_⟩;rw[zn] at hb;subst hb;subst e;exact hm (p1.iN _ ha)
    .simp only[zu,zn] at hx;rw[dY];rcases hx with a | a
     .exact .inr (p1.iN x a)
     .exact .inl a
    .rcases (dY m1 xs[k] x).1 hx with rfl | a
     .exact hr _ (zh hk) hv
     .exact p1.rc x a
    .simp only;rw[dY,p2,ht];constructor
     .rintro (rfl | a | ⟨a,b⟩);·exact .inr ⟨.inr rfl,hv⟩
      .exact .inl a
      .exact .inr ⟨.inl a,b⟩
     .rintro (a | ⟨a | a,b⟩);·exact .inr (.inl a)
      .exact .inr (.inr ⟨a,b⟩)
      .exact .inl a
    .simp only[zu,zn];rcases (dY m1 xs[k] x).1 hx with a | a
     .exact .inr (.inr a)
     .rcases p3 x a with b | b
      .exact .inl b
      .exact .inr (.inl b)
    .simp only[zu];exact .inl (p4 x hx)
    .have:=TO hv hm;simp only[zJ,List.length_singleton];omega
  .rw[za (by simpa using hv),n9];refine⟨(q1,m1),rfl,p1,λx=>?_,p3,p4,p5⟩;rw[p2,ht];constructor
   .rintro (a | ⟨a,b⟩);·exact .inl a
    .exact .inr ⟨.inl a,b⟩
   .rintro (a | ⟨a | rfl,b⟩);·exact .inl a
    .exact .inr ⟨a,b⟩
    .exact absurd b hv
 .obtain⟨q1,m1⟩:=t;refine⟨(q1,m1),?_,?_⟩;·simp only[Gp,zbo,zby,zD,q9]
  .simpa using hP
theorem CA(hF:FB s){l:List Int}(hl:LB l)(hlen:l.length<=1000000):∃m,fM s l=some m/\∀x,Mk m x↔sS s l x:=by
 unfold fM bk;simp only[jn,gN hR,a0A];have h24:=N3 hR;obtain⟨q0,m0,e0,i0,i1,i2,i3,i4⟩:=Cs hR (l:=l) (xs:=l) (q:=⟨[],((lv s).length:Int)⟩) (m:=[]) hl hlen ⟨zb2,rfl,(λx hx=>by cases hx),(λx hx=>by simp[Mk,A0] at hx)⟩ (λx h1 h2=>.base h1 h2);rw[show lp _ _=_ from e0,a0A];simp only;have hu:KP s []<=24:=zN (zA ..) h24;obtain⟨m,h1,h2⟩:=vG (s0:=(q0,m0)) (f:=λ((s70,s71):e6 × (List (Int × Bool)))=>
    (I4 s70).bind λv74=>
    if (decide (v74 > 0)) then
     (Y0 s70).bind λv75=>
     (mq s v75.2.1).bind λv76=>
      (lp (Gp s v76) (0,v75.1,s71)).bind λe97=>
      (some (.inl (e97.1,e97.2)):Option ((e6 × List (Int × Bool)) ⊕ List (Int × Bool)))
    else
    some (.inr s71)) (λt=>Hh s l t.1 t.2/\(∀x∈l,x∈lv s->Mk t.2 x)/\∀a,Mk t.2 a->a∈t.1.L\/∀b∈outs s a,b∈lv s->Mk t.2 b) (λm=>∀x,Mk m x↔sS s l x) (λt=>2*KP s t.2+t.1.L.length)
   ⟨i0,λx h1 h2=>(i1 x).2 (.inr ⟨h1,h2⟩),λa ha=>.inl ((i2 a ha).resolve_left (by simp[Mk,A0]))⟩ (by show 2*KP s m0+q0.L.length<_;simp only[zah] at i4;omega) (by
   rintro⟨q,m⟩ ⟨p1,p2,p3⟩;simp only at p1 p2 p3 |-;have hq:=ai p1.nd λx hx=>(p1.rc x (p1.iN x hx)).live;unfold I4;rw[a0A];cases hqL:q.L with
   | nil=>
    right;refine⟨m,by rw[za (by simp)],λx=>⟨p1.rc x,λh=>?_⟩⟩;induction h with
    | base a b=>exact p2 _ a b
    | step _ a b ih=>
     rcases p3 _ ih with c | c
     .rw[hqL] at c;cases c
     .exact c _ a b
   | cons a r=>
    left;have hqe:q=⟨a::r,q.Cap⟩:=by rw[<-hqL]
    have hal:a∈lv s:=(p1.rc a (p1.iN a (by rw[hqL];exact zg ..))).live;have ha:a<=9223372036854775807:=by have:=pE hR hal;omega
    have hnd:=p1.nd;rw[hqL] at hnd hq;simp only[zH] at hq;obtain⟨q',m',e1,j0,j1,j2,j3,j4⟩:=Cs hR (l:=l) (xs:=outs s a) (q:=⟨r,q.Cap⟩) (m:=m) (λx hx=>SX hR hF ha hx) (by have:=Ai hR a ha;omega) ⟨(zaa.1 hnd).2,p1.cap,λx hx=>p1.iN x (by rw[hqL];exact zo _ hx),p1.rc⟩ (λx h1 h2=>.step (p1.rc a (p1.iN a (by rw[hqL];exact zg ..))) h1 h2);refine⟨(q',m'),?_,⟨j0,λx h1 h2=>(j1 x).2 (.inl (p2 x h1 h2)),λb hb=>?_⟩,?_⟩
    .rw[zb (by simp),hqe,Pu (by omega),a0A];simp only;rw[Ph hR ha,a0A,e1,a0A]
    .simp only at hb |-;rcases j2 b hb with c | c
     .rcases p3 b c with d | d
      .rw[hqL] at d;rcases zM.1 d with rfl | d
       .exact .inr λy h1 h2=>(j1 y).2 (.inr ⟨h1,h2⟩)
       .exact .inl (j3 b d)
      .exact .inr λy h1 h2=>(j1 y).2 (.inl (d y h1 h2))
     .exact .inl c
    .show 2*KP s m'+q'.L.length<2*KP s m+(a::r).length;simp only[zH] at j4 |-;omega)
 refine⟨m,?_,h2⟩;rw[show lp _ _=_ from h1];rfl
end
theorem Of(l:List Int)(x:Int)(hl:l.length<=1000000):∃r:Int,I0 l x=some r/\(0<=r↔x∈l):=by
 unfold I0;simp only[jn];by_cases h:x∈l
 .obtain⟨i,hi,e⟩:=List.mem_iff_getElem.1 h;obtain⟨j,⟨hj,ej⟩,hmin⟩:=dT (p:=λi=>∃hi:i<l.length,l[i]=x) ⟨i,hi,e⟩;refine⟨(j:Int),?_,by simp[h]⟩;refine aK l.length (λk=>k<=j) (by omega) (zX _) (λk hk hP=>?_) (λhP=>by omega);simp only[wn,hk,ww,we,u4 hk,a0A];rcases zF k j with q | q
  .refine .inl ⟨?_,q⟩;rw[za (by
    rw[ms];intro e;have:=hmin k ⟨hk,e.symm⟩;omega),n9]
  .have:k=j:=by omega
   subst this;exact .inr ⟨_,by rw[zb (by simpa using ej.symm)],rfl⟩
 .refine⟨-1,?_,by simp[h]⟩;refine aK l.length (λk=>True) (by omega) trivial (λk hk hP=>.inl ⟨?_,trivial⟩) (λhP=>⟨.inr (),by simp,rfl⟩);simp only[wn,hk,ww,we,u4 hk,a0A];rw[za (by
   rw[ms];intro e;exact h (e▸zh hk)),n9]
theorem contains_eq(l:List Int)(x:Int)(hl:l.length<=1000000):F0 l x=some (decide (x∈l)):=by
 obtain⟨r,h1,h2⟩:=Of l x hl;unfold F0;rw[h1,a0A];congr 1;exact zbl.2 h2
section
variable{s:b6}(hR:xh (sO s))
include hR
open Classical in
theorem JF (hF:FB s) {l:List Int} (hl:LB l) (hlen:l.length<=1000000):ka s l=some (Iu s l):=by
 obtain⟨m,h1,h2⟩:=CA hR hF hl hlen;unfold ka Y1 jk;rw[h1,a0A];simp only[jn,gN hR,a0A];have h24:=N3 hR;rw[V9 (lv s) (λacc x=>if decide (sS s l x) then acc ++ [x] else acc) id (λk acc=>acc.length<=k) (by omega) (by simp) (λk hk acc hb=>?_) (λb _=>?_)]
 .simp only[a0A,id];rw[foldl_filter];rfl
 .simp only[wn,hk,ww,we,u4 hk,a0A];by_cases q:sS s l (lv s)[k]
  .rw[zb ((h2 _).2 q),zb (by simpa using q),I6 (by omega) (by simp;omega),a0A,n9];exact⟨rfl,by simp;omega⟩
  .rw[za (λk=>q ((h2 _).1 k)),za (by simpa using q),n9];exact⟨rfl,by omega⟩
 .simp only[zbo,zby,zD,q9];rfl
open Classical in
theorem Sr (hF:FB s) {l:List Int} (hl:LB l) (hlen:l.length<=1000000):nH s l=some (lst s l):=by
 obtain⟨m,h1,h2⟩:=CA hR hF hl hlen;unfold nH Y2 jl;rw[h1,a0A];simp only[jn,gN hR,a0A];have h24:=N3 hR;rw[V9 (lv s) (λacc x=>if decide (¬sS s l x) then acc ++ [x] else acc) id (λk acc=>acc.length<=k) (by omega) (by simp) (λk hk acc hb=>?_) (λb _=>?_)]
 .simp only[a0A,id];rw[foldl_filter];rfl
 .simp only[wn,hk,ww,we,u4 hk,a0A];by_cases q:sS s l (lv s)[k]
  .have e:(A0 m (lv s)[k]).getD false=true:=(h2 _).2 q;rw[za (by rw[e];decide),za (by simpa using q),n9];exact⟨rfl,by omega⟩
  .have e:(A0 m (lv s)[k]).getD false=false:=by
    have:¬Mk m (lv s)[k]:=λk=>q ((h2 _).1 k);simpa[Mk] using this
   rw[zb (by rw[e];decide),zb (by simpa using q),I6 (by omega) (by simp;omega),a0A,n9];exact⟨rfl,by simp;omega⟩
 .simp only[zbo,zby,zD,q9];rfl
end
abbrev Tb:=List g6
abbrev fk(p:g6):J6:=⟨p.State,p.Key,p.Val⟩
def pt(t:Tb)(j:Nat):g6:=t.getD j ⟨0,0,0⟩
theorem mg{t:Tb}{j:Nat}(h:j<t.length):pt t j=t[j]:=by unfold pt;rw[zd,zc h];rfl
theorem FL{t:Tb}{j:Nat}(h:j<t.length):ix t (j:Int)=some (pt t j):=by rw[u4 h,mg h]
theorem Aj{t:Tb}{i:Nat}(h:i<t.length)(p:g6)(j:Nat):pt (t.set i p) j=if j=i then p else pt t j:=by
 unfold pt;rw[zd,zd,List.getElem?_set];by_cases e:i=j
 .subst e;simp[h]
 .rw[za e,za (zau e)]
def hm(n:Nat)(k:Int):Nat:=(x4 ((x4 (5*k))+1) % (n:Int)).toNat
theorem Ut{n:Nat}(h:1<=n)(k:Int):hm n k<n:=by
 unfold hm;have h1:=Int.emod_nonneg (x4 ((x4 (5*k))+1)) (show (n:Int)≠0 by omega);have h2:=Int.emod_lt_of_pos (x4 ((x4 (5*k))+1)) (show (0:Int)<n by omega);omega
theorem JL{n:Nat}(h:1<=n)(h2:n<=1000)(k:Int):eH n k=some (hm n k:Int):=by
 unfold eH hm;rw[za (by simp;omega)];generalize x4 ((x4 (5*k))+1)=a;have hp:=Int.emod_nonneg a (show (n:Int)≠0 by omega);have hl:=Int.emod_lt_of_pos a (show (0:Int)<n by omega);unfold rem;rw[za (by omega),a0A,Int.toNat_of_nonneg hp];rw[Int.tmod_eq_emod];split;·rw[show a % (n:Int)-((0:Nat):Int)=a % n by simp,za (by simp;omega)]
 .have:((n:Int).natAbs:Int)=n:=by simp
  rw[this];rw[zb (by simp;omega),V3 (by omega) (by omega)];congr 1;omega
def pos(n:Nat)(k:Int)(d:Nat):Nat:=(hm n k+d) % n
theorem sA{n:Nat}(h:1<=n)(k:Int)(d:Nat):pos n k d<n:=Nat.mod_lt _ h
theorem UF{n:Nat}(h:1<=n)(h8:n<=8):n=1\/n=2\/n=3\/n=4\/n=5\/n=6\/n=7\/n=8:=by omega
theorem OJ{n m i:Nat}(h:1<=n)(h8:n<=8)(hm:m<n)(hi:i<n):∃d,d<n/\(m+d) % n=i:=by
 refine⟨(i+n-m) % n,Nat.mod_lt _ h,?_⟩;rcases UF h h8 with rfl | rfl | rfl | rfl | rfl | rfl | rfl | rfl <;> omega
theorem SE{n m d d':Nat}(h:1<=n)(h8:n<=8)(hd:d<n)(hd':d'<n)(e:(m+d) % n=(m+d') % n):d=d':=by
 rcases UF h h8 with rfl | rfl | rfl | rfl | rfl | rfl | rfl | rfl <;> omega
theorem Gk{n:Nat}(h:1<=n)(h8:n<=8)(k:Int){i:Nat}(hi:i<n):∃d,d<n/\pos n k d=i:=OJ h h8 (Ut h k) hi
theorem Tf{n:Nat}(h:1<=n)(h8:n<=8){k:Int}{d d':Nat}(hd:d<n)(hd':d'<n)(e:pos n k d=pos n k d'):d=d':=SE h h8 hd hd' e
structure HR (t:Tb):Prop where
 l1:1<=t.length
 l8:t.length<=8
 st:∀i,i<t.length->((pt t i).State=0\/(pt t i).State=1\/(pt t i).State=2)/\((pt t i).State≠1->(pt t i).Key=0/\(pt t i).Val=0)
 uq:∀i j,i<t.length->j<t.length->(pt t i).State=1->(pt t j).State=1->(pt t i).Key=(pt t j).Key->i=j
 rd:∀i,i<t.length->(pt t i).State=1->∀d,d<t.length->(∀d',d'<=d->pos t.length (pt t i).Key d'≠i)->(pt t (pos t.length (pt t i).Key d)).State≠0
def Fk(t:Tb)(k:Int)(i:Nat):Prop:=i<t.length/\(pt t i).State=1/\(pt t i).Key=k
instance(t:Tb)(k:Int)(i:Nat):Decidable (Fk t k i):=by unfold Fk;infer_instance
theorem step_eq{n:Nat}(h:1<=n)(h2:n<=1000)(k:Int){d:Nat}(hd:d<n):rem (x4 ((hm n k:Int)+d)) n=some ((pos n k d:Nat):Int):=by
 have:=Ut h k;rw[V3 (by omega) (by omega),Ea (by omega) (by omega)];unfold pos;simp[Int.natCast_emod]
theorem BX{t:Tb}(h1:1<=t.length)(h8:t.length<=8)(k:Int) :
  (∃d,d<t.length/\(∀j,j<d->(pt t (pos t.length k j)).State≠0/\¬Fk t k (pos t.length k j))/\Fk t k (pos t.length k d)/\bf t k=some ((pos t.length k d:Nat):Int)) \/
  (∃d,d<=t.length/\(∀j,j<d->(pt t (pos t.length k j)).State≠0/\¬Fk t k (pos t.length k j))/\(d=t.length\/(pt t (pos t.length k d)).State=0)/\bf t k=some (-1)):=by
 unfold bf;simp only[jn,jw,a0A];generalize hq:(lp (S:=Int) (E:=Int ⊕ Unit) _ 0)=q;have body:∀d:Nat,d<t.length->(if (decide ((d:Int)<(t.length:Int))) then
    (eH (t.length:Int) k).bind λv14=>
    (rem (x4 (v14+d)) (t.length:Int)).bind λv15=>
    (ix t v15).bind λv16=>
    if (v16.State==0) then
     some (.inr (.inr ()))
    else
    if ((v16.State==1)&&(v16.Key==k)) then
     some (.inr (.inl v15))
    else
    some (.inl (x4 ((d:Int)+1)))
   else
   some (.inr (.inr ())):Option (Int ⊕ (Int ⊕ Unit)))=if (pt t (pos t.length k d)).State=0 then some (.inr (.inr ())) else if Fk t k (pos t.length k d) then some (.inr (.inl ((pos t.length k d:Nat):Int))) else some (.inl ((d+1:Nat):Int)):=λd hd=>by
  have hp:=sA h1 k d;rw[zb (by simpa using hd),JL h1 (by omega),a0A,step_eq h1 (by omega) k hd,a0A,FL hp,a0A,n9 (by omega)];by_cases a:(pt t (pos t.length k d)).State=0
  .rw[zb (by simpa using a),zb a]
  .rw[za (by simpa using a),za a];by_cases b:Fk t k (pos t.length k d)
   .rw[zb (by simp[b.2.1,b.2.2]),zb b]
   .rw[za (by simp;exact λh1 h2=>b ⟨hp,h1,h2⟩),za b]
 have key:=Ci (f:=λ(s12:Int)=>if (decide (s12<(t.length:Int))) then
    (eH (t.length:Int) k).bind λv14=>
    (rem (x4 (v14+s12)) (t.length:Int)).bind λv15=>
    (ix t v15).bind λv16=>
    if (v16.State==0) then
     some (.inr (.inr ()))
    else
    if ((v16.State==1)&&(v16.Key==k)) then
     some (.inr (.inl v15))
    else
    some (.inl (x4 (s12+1)))
   else
   some (.inr (.inr ()))) t.length (λd=>∀j,j<d->(pt t (pos t.length k j)).State≠0/\¬Fk t k (pos t.length k j))
   (λ(e:Int ⊕ Unit)=>(∃d,d<t.length/\(∀j,j<d->(pt t (pos t.length k j)).State≠0/\¬Fk t k (pos t.length k j))/\Fk t k (pos t.length k d)/\e = .inl ((pos t.length k d:Nat):Int)) \/
    (∃d,d<=t.length/\(∀j,j<d->(pt t (pos t.length k j)).State≠0/\¬Fk t k (pos t.length k j))/\(d=t.length\/(pt t (pos t.length k d)).State=0)/\e = .inr ())) (by omega) (λj hj=>by omega)
   (λd hd hP=>by
    rw[body d hd];by_cases a:(pt t (pos t.length k d)).State=0
    .rw[zb a];exact .inr ⟨_,rfl,.inr ⟨d,by omega,hP,.inr a,rfl⟩⟩
    .rw[za a];by_cases b:Fk t k (pos t.length k d)
     .rw[zb b];exact .inr ⟨_,rfl,.inl ⟨d,hd,hP,b,rfl⟩⟩
     .rw[za b];refine .inl ⟨rfl,λj hj=>?_⟩;rcases zF j d with q | q
      .exact hP j q
      .have:j=d:=by omega
       subst this;exact⟨a,b⟩)
   (λhP=>⟨.inr (),by simp,.inr ⟨t.length,zG _,hP,.inl rfl,rfl⟩⟩)
 obtain⟨e,he,hQ⟩:=key;rw[he] at hq;subst hq;rcases hQ with ⟨d,a1,a2,a3,rfl⟩ | ⟨d,a1,a2,a3,rfl⟩;·exact .inl ⟨d,a1,a2,a3,rfl⟩
 .exact .inr ⟨d,a1,a2,a3,rfl⟩
theorem tJ{t:Tb}(hR:HR t){k:Int}{i:Nat}(hi:Fk t k i):bf t k=some (i:Int):=by
 obtain⟨di,hdi,hpi⟩:=Gk hR.l1 hR.l8 k hi.1;have road:∀d,d<di->(pt t (pos t.length k d)).State≠0:=λd hd=>by
  have:=hR.rd i hi.1 hi.2.1 d (by omega) (λd' hd' e=>by
   rw[hi.2.2] at e;have:=Tf hR.l1 hR.l8 (by omega) hdi (e.trans hpi.symm);omega)
  rwa [hi.2.2] at this
 rcases BX hR.l1 hR.l8 k with ⟨d,a1,a2,a3,a4⟩ | ⟨d,a1,a2,a3,a4⟩;·rw[a4,hR.uq _ i (sA hR.l1 k d) hi.1 a3.2.1 hi.2.1 (by rw[a3.2.2,hi.2.2])]
 .exfalso;rcases zF di d with q | q
  .exact (a2 di q).2 (by rw[hpi];exact hi)
  .rcases a3 with rfl | a3
   .omega
   .rcases zF d di with q' | q'
    .exact road d q' a3
    .have:d=di:=by omega
     subst this;rw[hpi,hi.2.1] at a3;cases a3
theorem tI{t:Tb}(h1:1<=t.length)(h8:t.length<=8){k:Int}(hi:∀i,¬Fk t k i):bf t k=some (-1):=by
 rcases BX h1 h8 k with ⟨d,a1,a2,a3,a4⟩ | ⟨d,a1,a2,a3,a4⟩;·exact absurd a3 (hi _)
 .exact a4
theorem BY(t:Tb)(k:Int):(∃i,Fk t k i)\/∀i,¬Fk t k i:=by
 by_cases h:∃i,Fk t k i
 .exact .inl h
 .exact .inr λi hi=>h ⟨i,hi⟩
theorem AX{t:Tb}{i:Nat}(h8:t.length<=1000)(hi:i<t.length)(p:g6):eI t (i:Int) p=some (t.set i p):=by
 unfold eI F5;rw[cu (by omega) (by omega),a0A,u4 hi,a0A,zT]
inductive yf (t:Tb) (k v:Int):Tb × Int->Prop
 | old (i:Nat) (hi:Fk t k i):yf t k v (t.set i ⟨1,k,v⟩,0)
 | new (d:Nat) (hn:∀i,¬Fk t k i) (hd:d<t.length) (hb:∀j,j<d->(pt t (pos t.length k j)).State=1) (hf:(pt t (pos t.length k d)).State≠1):yf t k v (t.set (pos t.length k d) ⟨1,k,v⟩,0)
 | full (hn:∀i,¬Fk t k i) (ha:∀i,i<t.length->(pt t i).State=1):yf t k v (t,8)
theorem Pz{t:Tb}(hR:HR t)(k v:Int):∃r,pw t k v=some r/\yf t k v r:=by
 have h1:=hR.l1;have h8:=hR.l8;unfold pw;rcases BY t k with ⟨i,hi⟩ | hn
 .rw[tJ hR hi,a0A,zb (by simp),AX (by omega) hi.1];exact⟨_,rfl,.old i hi⟩
 .rw[tI h1 h8 hn,a0A,za (by decide)];simp only[jn,jw,a0A];have key:=Ci (f:=λ(s15:Int)=>
   if (decide (s15<(t.length:Int))) then
    (eH (t.length:Int) k).bind λv17=>
    (rem (x4 (v17+s15)) (t.length:Int)).bind λv18=>
    (ix t v18).bind λv19=>
    if (v19.State != 1) then
     (eI t v18 (⟨1,k,v⟩:g6)).bind λv20=>
     some (Sum.inr (.inl (v20,(0:Int))))
    else
    some (.inl (x4 (s15+1)))
   else
   some (.inr (.inr ()))) t.length (λd=>∀j,j<d->(pt t (pos t.length k j)).State=1)
   (λ(e:(Tb × Int) ⊕ Unit)=>(∃r,e = .inl r/\yf t k v r)\/(e = .inr ()/\yf t k v (t,8))) (by omega) (λj hj=>by omega)
   (λd hd hP=>by
    have hp:=sA h1 k d;rw[zb (by simpa using hd),JL h1 (by omega),a0A,step_eq h1 (by omega) k hd,a0A,FL hp,a0A];by_cases a:(pt t (pos t.length k d)).State=1
    .rw[za (by simpa using a),n9 (by omega)];refine .inl ⟨rfl,λj hj=>?_⟩;rcases zF j d with q | q
     .exact hP j q
     .have:j=d:=by omega
      subst this;exact a
    .rw[zb (by simpa using a),AX (by omega) hp,a0A];exact .inr ⟨_,rfl,.inl ⟨_,rfl,.new d hn hd hP a⟩⟩)
   (λhP=>⟨.inr (),by simp,.inr ⟨rfl,.full hn λi hi=>by
    obtain⟨d,hd,rfl⟩:=Gk h1 h8 k hi;exact hP d hd⟩⟩)
  obtain⟨e,he,hQ⟩:=key;rw[he,a0A];rcases hQ with ⟨r,rfl,hr⟩ | ⟨rfl,hr⟩;·exact⟨r,rfl,hr⟩
  .exact⟨_,rfl,hr⟩
theorem NT{t:Tb}(hR:HR t){k:Int}{i:Nat}(hi:Fk t k i):Z8 t k=some ((pt t i).Val,0):=by
 unfold Z8;rw[tJ hR hi,a0A,za (by simp),FL hi.1,a0A]
theorem NR{t:Tb}(hR:HR t){k:Int}(hi:∀i,¬Fk t k i):Z8 t k=some (0,9):=by
 unfold Z8;rw[tI hR.l1 hR.l8 hi,a0A,zb (by decide)]
theorem tC{t:Tb}(hR:HR t){k:Int}{i:Nat}(hi:Fk t k i):bc t k=some (t.set i ⟨2,0,0⟩,(pt t i).Val,0):=by
 have:=hR.l8;unfold bc;rw[tJ hR hi,a0A,za (by simp),AX (by omega) hi.1,a0A,FL hi.1,a0A]
theorem tB{t:Tb}(hR:HR t){k:Int}(hi:∀i,¬Fk t k i):bc t k=some (t,0,9):=by
 unfold bc;rw[tI hR.l1 hR.l8 hi,a0A,zb (by decide)]
theorem HR.set{t:Tb}(hR:HR t){i:Nat}(hi:i<t.length){p:g6}(h0:p.State=1\/p=⟨2,0,0⟩)
  (hu:p.State=1->∀j,j≠i->¬Fk t p.Key j)(hr:p.State=1->∀d,d<t.length->(∀d',d'<=d->pos t.length p.Key d'≠i)->(pt t (pos t.length p.Key d)).State≠0):HR (t.set i p):=by
 have hnz:p.State≠0:=by
  rcases h0 with h | rfl
  .omega
  .simp
 refine⟨by simpa using hR.l1,by simpa using hR.l8,λj hj=>?_,λj j' hj hj' s1 s2 hk=>?_,λj hj s1 d hd hne=>?_⟩ <;> simp only[zas] at *
 .rw[Aj hi];split
  .rcases h0 with h | rfl
   .exact⟨.inr (.inl h),λq=>absurd h q⟩
   .exact⟨.inr (.inr rfl),λ_=>⟨rfl,rfl⟩⟩
  .exact hR.st j hj
 .rw[Aj hi] at s1 s2 hk;rw[Aj hi] at hk;by_cases e1:j=i <;> by_cases e2:j'=i
  .rw[e1,e2]
  .rw[zb e1] at s1 hk;rw[za e2] at s2 hk;exact absurd ⟨hj',s2,hk.symm⟩ (hu s1 j' e2)
  .rw[za e1] at s1 hk;rw[zb e2] at s2 hk;exact absurd ⟨hj,s1,hk⟩ (hu s2 j e1)
  .rw[za e1] at s1 hk;rw[za e2] at s2 hk;exact hR.uq j j' hj hj' s1 s2 hk
 .simp only[Aj hi] at s1 hne |-;by_cases e1:j=i
  .simp only[zb e1] at s1 hne |-;split;·exact hnz
   .exact hr s1 d hd (by rw[<-e1];exact hne)
  .simp only[za e1] at s1 hne |-;split;·exact hnz
   .exact hR.rd j hj s1 d hd hne
theorem Ak{t:Tb}(hR:HR t){k v:Int}{r:Tb × Int}(h:yf t k v r):HR r.1:=by
 cases h with
 | old i hi=>
  refine hR.set hi.1 (.inl rfl) (λ_ j hj q=>hj (hR.uq j i q.1 hi.1 q.2.1 hi.2.1 (q.2.2.trans hi.2.2.symm))) λ_ d hd hne=>?_;have:=hR.rd i hi.1 hi.2.1 d hd (by rw[hi.2.2];exact hne);rwa [hi.2.2] at this
 | new d hn hd hb hf=>
  refine hR.set (sA hR.l1 k d) (.inl rfl) (λ_ j _=>hn j) λ_ d' hd' hne=>?_;rcases zF d' d with q | q
  .have:=hb d' q;simp only;omega
  .exact absurd rfl (hne d q)
 | full hn ha=>exact hR
theorem pe{t:Tb}(hR:HR t){i:Nat}(hi:i<t.length):HR (t.set i ⟨2,0,0⟩):=hR.set hi (.inr rfl) (λq=>by cases q) λq=>by cases q
theorem Zp{t:Tb}{j:Nat}(h:j<t.length):ix (t.map fk) (j:Int)=some (fk (pt t j)):=by rw[ub,FL h];rfl
theorem PG{t:Tb}(h8:t.length<=1000){k:Int}{i:Nat}(hi:Fk t k i)(hf:∀j,j<i->¬Fk t k j):mn (t.map fk) k=some (i:Int):=by
 unfold mn;simp only[jn];refine aK t.length (λj=>j<=i) (by omega) (zX _) (λj hj hP=>?_) (λhP=>by have:=hi.1;omega);rw[zb (by simpa using hj),Zp hj,a0A];by_cases e:j=i
 .subst e;exact .inr ⟨.inl (j:Int),by rw[zb (by simp[fk,hi.2.1,hi.2.2])],rfl⟩
 .have:=hf j (by omega);refine .inl ⟨by rw[za (by simp[fk];exact λh1 h2=>this ⟨hj,h1,h2⟩),n9 (by omega)],by omega⟩
theorem PF{t:Tb}(h8:t.length<=1000){k:Int}(hf:∀j,¬Fk t k j):mn (t.map fk) k=some (-1):=by
 unfold mn;simp only[jn];refine aK t.length (λj=>True) (by omega) trivial (λj hj hP=>?_) (λhP=>⟨.inr (),by simp,rfl⟩);rw[zb (by simpa using hj),Zp hj,a0A];refine .inl ⟨by rw[za (by simp[fk];exact λh1 h2=>hf j ⟨hj,h1,h2⟩),n9 (by omega)],trivial⟩
theorem NL{t:Tb}{k:Int}(h:∃i,Fk t k i):∃i,Fk t k i/\∀j,j<i->¬Fk t k j:=by
 obtain⟨i,h1,h2⟩:=dT h;exact⟨i,h1,λj hj q=>by have:=h2 j q;omega⟩
theorem Mr{t:Tb}{i:Nat}(h8:t.length<=1000)(hi:i<t.length)(p:g6):Ao (t.map fk) (i:Int) (fk p)=some ((t.set i p).map fk):=by
 unfold Ao;rw[cu (by omega) (by simp;omega),a0A,Zp hi,a0A,zT,zcq]
def Has(t:Tb)(k v:Int):Prop:=∃i,Fk t k i/\(pt t i).Val=v
theorem VI{t:Tb}{k:Int}:(∀v,¬Has t k v)↔∀i,¬Fk t k i:=by
 constructor;·intro h i hi;exact h _ ⟨i,hi,rfl⟩
 .rintro h v ⟨i,hi,_⟩;exact h i hi
theorem VJ(t:Tb)(k:Int):(∃v,Has t k v)\/∀v,¬Has t k v:=by
 by_cases h:∃v,Has t k v
 .exact .inl h
 .exact .inr λv hv=>h ⟨v,hv⟩
theorem Has.fn{t:Tb}(hR:HR t){k v v':Int}(h:Has t k v)(h':Has t k v'):v=v':=by
 obtain⟨i,a,rfl⟩:=h;obtain⟨j,b,rfl⟩:=h';rw[hR.uq i j a.1 b.1 a.2.1 b.2.1 (a.2.2.trans b.2.2.symm)]
theorem JH{t:Tb}(hR:HR t){k v:Int}(h:Has t k v):Z8 t k=some (v,0):=by
 obtain⟨i,a,rfl⟩:=h;exact NT hR a
theorem LJ{t:Tb}(hR:HR t){k:Int}(h:∀v,¬Has t k v):Z8 t k=some (0,9):=NR hR (VI.1 h)
theorem Dt{t:Tb}{i:Nat}(hi:i<t.length){k v:Int}(p:g6)(h:∀j,j≠i->Fk t p.Key j->p.State≠1)(k' v':Int) :
  Has (t.set i p) k' v'↔(p.State=1/\p.Key=k'/\p.Val=v')\/∃j,j≠i/\Fk t k' j/\(pt t j).Val=v':=by
 unfold Has Fk;simp only[zas,Aj hi];constructor
 .rintro⟨j,⟨h1,h2,h3⟩,h4⟩;by_cases e:j=i
  .rw[zb e] at h2 h3 h4;exact .inl ⟨h2,h3,h4⟩
  .rw[za e] at h2 h3 h4;exact .inr ⟨j,e,⟨h1,h2,h3⟩,h4⟩
 .rintro (⟨h1,h2,h3⟩ | ⟨j,e,⟨h1,h2,h3⟩,h4⟩);·exact⟨i,by simp[hi,h1,h2,h3]⟩
  .exact⟨j,by simp[e,h1,h2,h3,h4]⟩
theorem xQ{t:Tb}(hR:HR t){k v:Int}{r:Tb × Int}(h:yf t k v r)(h0:r.2=0)(k' v':Int):Has r.1 k' v'↔(k'=k/\v'=v)\/(k'≠k/\Has t k' v'):=by
 cases h with
 | old i hi=>
  rw[Dt (k:=k) (v:=v) hi.1 _ (λj hj q=>absurd (hR.uq j i q.1 hi.1 q.2.1 hi.2.1 (q.2.2.trans hi.2.2.symm)) hj)];constructor
  .rintro (⟨_,rfl,rfl⟩ | ⟨j,e,h1,h2⟩);·exact .inl ⟨rfl,rfl⟩
   .refine .inr ⟨λq=>?_,j,h1,h2⟩;subst q;exact e (hR.uq j i h1.1 hi.1 h1.2.1 hi.2.1 (h1.2.2.trans hi.2.2.symm))
  .rintro (⟨rfl,rfl⟩ | ⟨e,j,h1,h2⟩);·exact .inl ⟨rfl,rfl,rfl⟩
   .refine .inr ⟨j,λq=>?_,h1,h2⟩;subst q;exact e (h1.2.2.symm.trans hi.2.2)
 | new d hn hd hb hf=>
  rw[Dt (k:=k) (v:=v) (sA hR.l1 k d) _ (λj hj q=>absurd q (hn j))];constructor
  .rintro (⟨_,rfl,rfl⟩ | ⟨j,e,h1,h2⟩);·exact .inl ⟨rfl,rfl⟩
   .refine .inr ⟨λq=>?_,j,h1,h2⟩;subst q;exact hn j h1
  .rintro (⟨rfl,rfl⟩ | ⟨e,j,h1,h2⟩);·exact .inl ⟨rfl,rfl,rfl⟩
   .refine .inr ⟨j,λq=>?_,h1,h2⟩;subst q;exact hf h1.2.1
 | full hn ha=>cases h0
theorem tA{t:Tb}(hR:HR t){k:Int}{i:Nat}(hi:Fk t k i)(k' v':Int):Has (t.set i ⟨2,0,0⟩) k' v'↔k'≠k/\Has t k' v':=by
 rw[Dt (k:=k) (v:=0) hi.1 _ (λj hj q=>by simp)];constructor
 .rintro (⟨h,_⟩ | ⟨j,e,h1,h2⟩);·cases h
  .refine⟨λq=>?_,j,h1,h2⟩;subst q;exact e (hR.uq j i h1.1 hi.1 h1.2.1 hi.2.1 (h1.2.2.trans hi.2.2.symm))
 .rintro⟨e,j,h1,h2⟩;refine .inr ⟨j,λq=>?_,h1,h2⟩;subst q;exact e (h1.2.2.symm.trans hi.2.2)
def keys(t:Tb):List Int:=(t.filter (·.State==1)).map (·.Key)
theorem HP{α β:Type}(p:α->Bool)(f:α->β)(l:List α)(k:Nat)(h:k<l.length):((l.take (k+1)).filter p).map f=((l.take k).filter p).map f++(if p l[k] then [f l[k]] else []):=by
 rw[zt h,zba,qr];congr 1;simp only[mt,List.filter_nil];split <;> rfl
theorem keys_eq{t:Tb}(h:t.length<=1000):lQ t=some (keys t):=by
 unfold lQ keys;simp only[jn];refine Z0 t.length (λk l=>l=((t.take k).filter (·.State==1)).map (·.Key)) (by omega) (by simp) ?_ (λl hl=>⟨_,by simp;rfl,by rw[hl,zR]⟩);rintro k l hk rfl;left;rw[HP _ _ _ _ hk];rw[zb (by simpa using hk),u4 hk,a0A,n9 (by omega)];have hle:(List.map (·.Key) (List.filter (·.State==1) (List.take k t))).length<=1000:=by
  rw[zl];exact zN (zA ..) (by simp;omega)
 by_cases c:(t[k].State==1)=true
 .rw[zb c,zb c,I6 (by omega) (by simp only[zH,zah];omega),a0A];exact⟨_,rfl,rfl⟩
 .rw[za c,za c];exact⟨_,rfl,by simp⟩
theorem PE{t:Tb}(hR:HR t)(k:Int):mn (t.map fk) k=bf t k:=by
 have h8:=hR.l8;rcases BY t k with ⟨i,hi⟩ | hn
 .rw[tJ hR hi];obtain⟨f,hf1,hf2⟩:=NL ⟨i,hi⟩;rw[PG (by omega) hf1 hf2,hR.uq f i hf1.1 hi.1 hf1.2.1 hi.2.1 (hf1.2.2.trans hi.2.2.symm)]
 .rw[tI hR.l1 hR.l8 hn,PF (by omega) hn]
theorem WW{t:Tb}(hR:HR t)(k:Int):uF (t.map fk) k=(bc t k).map λr=>(r.1.map fk,r.2):=by
 have h8:=hR.l8;rcases BY t k with ⟨i,hi⟩ | hn
 .rw[tC hR hi];unfold uF;rw[PE hR,tJ hR hi,a0A,za (by simp)];have:=Mr (t:=t) (by omega) hi.1 ⟨2,0,0⟩;dsimp only[fk] at this;rw[this,a0A,Zp hi.1];rfl
 .rw[tB hR hn];unfold uF;rw[PE hR,tI hR.l1 hR.l8 hn];rfl
theorem Gq{t:Tb}{k v:Int}{r:Tb × Int}(h:yf t k v r):r.1.length=t.length:=by cases h <;> simp
theorem jQ(t:Tb):(keys t).length=t.countP (·.State==1):=by
 unfold keys;rw[zl,zbv]
theorem uc{t:Tb}{i:Nat}(h:i<t.length)(p:g6):(keys (t.set i p)).length+(if (pt t i).State=1 then 1 else 0)=(keys t).length+if p.State=1 then 1 else 0:=by
 rw[jQ,jQ,List.countP_set h,mg h];simp only[ms];have:(if t[i].State=1 then 1 else 0)<=t.countP λc=>c.State==1:=by
  split
  .rename_i e;exact zbw.2 ⟨t[i],zh h,by simpa using e⟩
  .exact zX _
 omega
theorem LM{t:Tb}(h:∀i,i<t.length->(pt t i).State=1):(keys t).length=t.length:=by
 rw[jQ,List.countP_eq_length];intro a ha;obtain⟨i,hi,rfl⟩:=un ha;have:=h i hi;rw[mg hi] at this;simpa using this
theorem Sj{t:Tb}{i:Nat}(hi:i<t.length)(h:(pt t i).State≠1):(keys t).length<t.length:=by
 have h1:(keys t).length<=t.length:=by rw[jQ];exact zcl
 rcases zF (keys t).length t.length with q | q
 .exact q
 .exfalso;have e:(keys t).length=t.length:=by omega
  rw[jQ,List.countP_eq_length] at e;have:=e t[i] (zh hi);rw[mg hi] at h;exact h (by simpa using this)
structure TM {V:Type} (φ:V->Int->Prop) (t:Tb) (m:List (Int × V)):Prop where
 R:HR t
 nd:(m.map (·.1)).Nodup
 len:(keys t).length=m.length
 has:∀k,(∀v,Has t k v->∃u,A0 m k=some u/\φ u v)/\((A0 m k).isSome=true->∃v,Has t k v)
theorem TM.some{V:Type}{φ:V->Int->Prop}{t:Tb}{m:List (Int × V)}(h:TM φ t m)(k:Int):(∃v u,Has t k v/\A0 m k=some u/\φ u v)\/(A0 m k=none/\∀v,¬Has t k v):=by
 rcases VJ t k with ⟨v,hv⟩ | hn
 .obtain⟨u,h1,h2⟩:=(h.has k).1 v hv;exact .inl ⟨v,u,hv,h1,h2⟩
 .refine .inr ⟨?_,hn⟩;cases hq:A0 m k with
  | none=>rfl
  | some u=>
   obtain⟨v,hv⟩:=(h.has k).2 (by rw[hq];rfl);exact absurd hv (hn v)
theorem TM.put{V:Type}{φ:V->Int->Prop}{t:Tb}{m:List (Int × V)}(h:TM φ t m)(k v:Int)(u:V)(hφ:φ u v):∃r,pw t k v = .some r/\r.1.length=t.length/\((r.2=0/\TM φ r.1 (p6 m k u)/\((A0 m k).isSome=true\/m.length<t.length))\/(r=(t,8)/\(A0 m k)=none/\m.length=t.length)):=by
 obtain⟨r,hr,hp⟩:=Pz h.R k v;refine⟨r,hr,Gq hp,?_⟩;have hRr:=Ak h.R hp;by_cases h0:r.2=0
 .left;have hh:=xQ h.R hp h0;have hmem:∀k',(∀w,Has r.1 k' w->∃x,A0 (p6 m k u) k' = .some x/\φ x w)/\((A0 (p6 m k u) k').isSome=true->∃w,Has r.1 k' w):=λk'=>by
   rw[qx];by_cases e:k'=k
   .subst e;rw[zb rfl];refine⟨λw hw=>?_,λ_=>⟨v,(hh _ _).2 (.inl ⟨rfl,rfl⟩)⟩⟩;rcases (hh _ _).1 hw with ⟨_,rfl⟩ | ⟨q,_⟩;·exact⟨u,rfl,hφ⟩
    .exact absurd rfl q
   .rw[za e];refine⟨λw hw=>?_,λq=>?_⟩
    .rcases (hh _ _).1 hw with ⟨q,_⟩ | ⟨_,q⟩;·exact absurd q e
     .exact (h.has k').1 w q
    .obtain⟨w,hw⟩:=(h.has k').2 q;exact⟨w,(hh _ _).2 (.inr ⟨e,hw⟩)⟩
  have hlen:(keys r.1).length=(p6 m k u).length/\((A0 m k).isSome=true\/m.length<t.length):=by
   rw[OK];cases hp with
   | old i hi=>
    have h1:(A0 m k).isSome=true:=by
     obtain⟨x,h1,_⟩:=(h.has k).1 _ ⟨i,hi,rfl⟩;rw[h1];rfl
    have:=uc hi.1 ⟨1,k,v⟩;rw[zb hi.2.1,zb rfl,h.len] at this;rw[zb h1];exact⟨by simp only;omega,.inl h1⟩
   | new d hn hd hb hf=>
    have h1:(A0 m k)=none:=by
     rcases h.some k with ⟨w,x,hw,_⟩ | ⟨q,_⟩
     .obtain⟨i,hi,_⟩:=hw;exact absurd hi (hn i)
     .exact q
    have hlt:=sA h.R.l1 k d;have:=uc hlt ⟨1,k,v⟩;rw[za hf,zb rfl,h.len] at this;rw[h1];have h2:=Sj hlt hf;rw[h.len] at h2;exact⟨by simpa using this,.inr h2⟩
   | full hn ha=>cases h0
  exact⟨h0,⟨hRr,Ib h.nd k u,hlen.1,hmem⟩,hlen.2⟩
 .right;cases hp with
  | old i hi=>exact absurd rfl h0
  | new d hn hd hb hf=>exact absurd rfl h0
  | full hn ha=>
   refine⟨rfl,?_,?_⟩
   .rcases h.some k with ⟨w,x,hw,_⟩ | ⟨q,_⟩
    .obtain⟨i,hi,_⟩:=hw;exact absurd hi (hn i)
    .exact q
   .rw[<-h.len,LM ha]
theorem TM.drop{V:Type}{φ:V->Int->Prop}{t:Tb}{m:List (Int × V)}(h:TM φ t m)(k:Int):(∃r v u,bc t k = .some (r,v,0)/\r.length=t.length/\A0 m k = .some u/\φ u v/\TM φ r (vK m k))\/(bc t k = .some (t,0,9)/\A0 m k=none/\vK m k=m):=by
 rcases BY t k with ⟨i,hi⟩ | hn
 .left;obtain⟨u,h1,h2⟩:=(h.has k).1 _ ⟨i,hi,rfl⟩;refine⟨_,_,u,tC h.R hi,by simp,h1,h2,pe h.R hi.1,(OE m k).nodup h.nd,?_,λk'=>?_⟩
  .have:=uc hi.1 ⟨2,0,0⟩;rw[zb hi.2.1,za (by decide),h.len] at this;rw[OD,h1];simp only[Option.isSome_some,we];omega
  .have hh:=tA h.R hi;rw[LU h.nd];by_cases e:k'=k
   .subst e;rw[zb rfl];exact⟨λw hw=>absurd rfl ((hh _ _).1 hw).1,λq=>by cases q⟩
   .rw[za e];refine⟨λw hw=>(h.has k').1 w ((hh _ _).1 hw).2,λq=>?_⟩;obtain⟨w,hw⟩:=(h.has k').2 q;exact⟨w,(hh _ _).2 ⟨e,hw⟩⟩
 .right;have h1:A0 m k=none:=by
   rcases h.some k with ⟨w,x,hw,_⟩ | ⟨q,_⟩
   .obtain⟨i,hi,_⟩:=hw;exact absurd hi (hn i)
   .exact q
  refine⟨tB h.R hn,h1,?_⟩;have:∀(l:List (Int × V)),A0 l k=none->vK l k=l:=by
   intro l;induction l with
   | nil=>intro _;rfl
   | cons p l ih=>
    intro q;unfold A0 at q;unfold vK;by_cases e:k=p.1
    .rw[zb (by simpa using e)] at q;cases q
    .rw[za (by simpa using e)] at q;rw[za (by simpa using e),ih q]
  exact this m h1
theorem Wj{n:Nat}(h1:1<=n)(h8:n<=8):tT (n:Int)=some (List.replicate n ⟨0,0,0⟩):=by
 unfold tT;rw[za (by simp;omega),kW (by omega) (by omega)];rfl
theorem wa{n j:Nat}:pt (List.replicate n ⟨0,0,0⟩) j=⟨0,0,0⟩:=by
 unfold pt;rw[zd,List.getElem?_replicate];split <;> rfl
theorem Xt{V:Type}(φ:V->Int->Prop){n:Nat}(h1:1<=n)(h8:n<=8):TM φ (List.replicate n ⟨0,0,0⟩) []:=by
 refine⟨⟨by simpa using h1,by simpa using h8,λi hi=>?_,λi j hi hj s=>?_,λi hi s=>?_⟩,by simp,?_,λk=>⟨λv hv=>?_,λq=>by cases q⟩⟩;·rw[wa];exact⟨.inl rfl,λ_=>⟨rfl,rfl⟩⟩
 .rw[wa] at s;cases s
 .rw[wa] at s;cases s
 .rw[jQ,List.countP_replicate];rfl
 .obtain⟨i,hi,_⟩:=hv;have:=hi.2.1;rw[wa] at this;cases this
abbrev pp(p:k7):C0:=⟨p.Key,p.Val⟩
def jW(t:Tb):List k7:=(t.filter (·.State==1)).map λp=>⟨p.Key,p.Val⟩
theorem yR(t:Tb):keys t=(jW t).map (·.Key):=by
 unfold keys jW;rw[zaw];rfl
theorem jj(t:Tb):(jW t).length=(keys t).length:=by rw[yR,zl]
theorem sC{t:Tb}(h:t.length<=8):(jW t).length<=8:=by
 rw[jj,jQ];exact zN zcl h
theorem cG{t:Tb}{p:k7}:p∈jW t↔Has t p.Key p.Val:=by
 unfold jW Has;rw[zq];constructor
 .rintro⟨q,hq,rfl⟩;obtain⟨h1,h2⟩:=zi.1 hq;obtain⟨i,hi,rfl⟩:=un h1;refine⟨i,⟨hi,?_,?_⟩,?_⟩ <;> rw[mg hi]
  simpa using h2
 .rintro⟨i,⟨hi,h1,h2⟩,h3⟩;rw[mg hi] at h1 h2 h3;refine⟨t[i],zi.2 ⟨zh hi,by simpa using h1⟩,?_⟩;cases p;simp at h2 h3 |-;exact⟨h2,h3⟩
theorem Kq{t:Tb}(hR:HR t){j:Nat}(h:j<(jW t).length):Z8 t (jW t)[j].Key=some ((jW t)[j].Val,0):=JH hR (cG.1 (zh h))
theorem Ui{E R:Type}{x:Option E}{r:E}{κ:E->Option R}{y:Option R}(h:x=some r)(hy:κ r=y):((x.bind λe=>some e).bind κ)=y:=by rw[h];exact hy
theorem Ps{t:Tb}(hR:HR t):kP t=some (jW t):=by
 have h8:=hR.l8;have hp:=sC h8;unfold kP B6 eE gM;simp only[jn,a0A];rw[keys_eq (by omega),a0A];refine Ui (qG (iM (jW t).length (λk l=>l=(jW t).take k) (λe=>e=jW t) (by omega) (by simp) ?_ ?_)) rfl
 .rintro k l hk rfl;refine .inl ⟨_,?_,rfl⟩;dsimp only;rw[zb (by rw[<-jj];simpa using hk),u4 (by rw[<-jj];exact hk),a0A];have e:(keys t)[k]'(by rw[<-jj];exact hk)=(jW t)[k].Key:=by simp[yR]
  rw[e,Kq hR hk,a0A,zb (by trivial),I6 (by omega) (by simp;omega),a0A,n9 (by omega),zt hk]
 .rintro l rfl;exact⟨_,by rw[<-jj];simp;rfl,by simp⟩
def own(t:Tb)(h:Int):Nat:=(jW t).countP λp=>(h != 0)&&(p.Val==h)
theorem Pn{t:Tb}(hR:HR t)(h:Int):kO t h=some (own t h:Int):=by
 have h8:=hR.l8;have hp:=sC h8;unfold kO B5 eE gL;simp only[jn,a0A];rw[keys_eq (by omega),a0A];refine Ui (r:=(jW t).filter λp=>(h != 0)&&(p.Val==h)) (qG (iM (jW t).length (λk l=>l=((jW t).take k).filter λp=>(h != 0)&&(p.Val==h)) (λe=>e=(jW t).filter λp=>(h != 0)&&(p.Val==h)) (by omega) (by simp) ?_ ?_)) (by unfold own;rw[zbv])
 .rintro k l hk rfl;refine .inl ⟨((jW t).take (k+1)).filter λp=>(h != 0)&&(p.Val==h),?_,rfl⟩;dsimp only;rw[zb (by rw[<-jj];simpa using hk),u4 (by rw[<-jj];exact hk),a0A];have e:(keys t)[k]'(by rw[<-jj];exact hk)=(jW t)[k].Key:=by simp[yR]
  have hle:(((jW t).take k).filter λp=>(h != 0)&&(p.Val==h)).length<=8:=zN (zA ..) (by simp;omega);rw[e,Kq hR hk,a0A,n9 (by omega),zt hk,zba,mt,List.filter_nil];by_cases c:((h != 0)&&((jW t)[k].Val==h))=true
  .rw[zb c,zb c,I6 (by omega) (by simp only[zH,zah];omega),a0A]
  .rw[za c,za c,zay]
 .rintro l rfl;exact⟨_,by rw[<-jj];simp;rfl,by simp⟩
theorem eh{t:Tb}(hR:HR t)(k v:Int):∃r,V5 t k v=some r/\HR r.1/\r.1.length=t.length /\
  ((k=0/\r=(t,0,2))\/(k≠0/\v=0/\((∃i,Fk t k i/\r=(t.set i ⟨2,0,0⟩,(pt t i).Val,0))\/((∀i,¬Fk t k i)/\r=(t,0,0)))) \/
   (k≠0/\v≠0/\((∃i,Fk t k i/\r=(t.set i ⟨1,k,v⟩,(pt t i).Val,0))\/(∃d,(∀i,¬Fk t k i)/\d<t.length/\(pt t d).State≠1/\yf t k v (t.set d ⟨1,k,v⟩,0)/\r=(t.set d ⟨1,k,v⟩,0,0))\/((∀i,¬Fk t k i)/\(∀i,i<t.length->(pt t i).State=1)/\r=(t,0,8))))):=by
 unfold V5;by_cases hk:k=0
 .rw[zb (by simpa using hk)];exact⟨_,rfl,hR,rfl,.inl ⟨hk,rfl⟩⟩
 .rw[za (by simpa using hk)];obtain⟨g,hg,hgv⟩:∃g,Z8 t k=some g/\((∃i,Fk t k i/\g=((pt t i).Val,0))\/((∀i,¬Fk t k i)/\g=(0,9))):=by
   rcases BY t k with ⟨i,hi⟩ | hn;·exact⟨_,NT hR hi,.inl ⟨i,hi,rfl⟩⟩
   .exact⟨_,NR hR hn,.inr ⟨hn,rfl⟩⟩
  rw[hg,a0A];by_cases hv:v=0
  .rw[zb (by simpa using hv)];rcases hgv with ⟨i,hi,rfl⟩ | ⟨hn,rfl⟩
   .rw[tC hR hi,a0A];exact⟨_,rfl,pe hR hi.1,by simp,.inr (.inl ⟨hk,hv,.inl ⟨i,hi,rfl⟩⟩)⟩
   .rw[tB hR hn,a0A];exact⟨_,rfl,hR,rfl,.inr (.inl ⟨hk,hv,.inr ⟨hn,rfl⟩⟩)⟩
  .rw[za (by simpa using hv)];obtain⟨r,hr,hp⟩:=Pz hR k v;rw[hr,a0A];have hRr:=Ak hR hp;have hl:=Gq hp;have hp':=hp;cases hp with
   | old i hi=>
    rcases hgv with ⟨j,hj,rfl⟩ | ⟨hn,rfl⟩
    .rw[hR.uq j i hj.1 hi.1 hj.2.1 hi.2.1 (hj.2.2.trans hi.2.2.symm)];exact⟨_,rfl,hRr,hl,.inr (.inr ⟨hk,hv,.inl ⟨i,hi,rfl⟩⟩)⟩
    .exact absurd hi (hn i)
   | new d hn hd hb hf=>
    rcases hgv with ⟨j,hj,rfl⟩ | ⟨_,rfl⟩;·exact absurd hj (hn j)
    .exact⟨_,rfl,hRr,hl,.inr (.inr ⟨hk,hv,.inr (.inl ⟨_,hn,sA hR.l1 k d,hf,hp',rfl⟩)⟩)⟩
   | full hn ha=>exact⟨_,rfl,hR,rfl,.inr (.inr ⟨hk,hv,.inr (.inr ⟨hn,ha,rfl⟩)⟩)⟩
theorem Cr(t:Tb)(h:Int):own t h=t.countP λp=>(p.State==1)&&((h != 0)&&(p.Val==h)):=by
 unfold own jW;rw[List.countP_map,List.countP_filter];congr 1;funext p
 simp[Bool.and_comm]
theorem Kp{t:Tb}{i:Nat}(hi:i<t.length)(p:g6)(h:Int):own (t.set i p) h+(if (((pt t i).State==1)&&((h != 0)&&((pt t i).Val==h)))=true then 1 else 0)=own t h+if ((p.State==1)&&((h != 0)&&(p.Val==h)))=true then 1 else 0:=by
 rw[Cr,Cr,List.countP_set hi,mg hi];have:(if ((t[i].State==1)&&((h != 0)&&(t[i].Val==h)))=true then 1 else 0)<=t.countP λp=>(p.State==1)&&((h != 0)&&(p.Val==h)):=by
  split
  .rename_i e;exact zbw.2 ⟨t[i],zh hi,e⟩
  .exact zX _
 omega
theorem Pm{t:Tb}(h8:t.length<=8)(h:Int):own t h<=8:=zN zcl (sC h8)
theorem xd{t:Tb}(hR:HR t)(ks:List Int)(hks:ks.length<=1000):∃a had,bb t ks=some (a,had)/\HR a/\a.length=t.length/\had.length<=ks.length/\pK (t.map fk) ks=some (a.map fk,had) /\
  (∀k v,Has a k v↔k∉ks/\Has t k v)/\(keys a).length+had.length=(keys t).length/\(∀k v,k∈ks->Has t k v->v∈had)/\∀y,own a y+R4 had y=own t y:=by
 have key:∀n,n<=ks.length->∃a had,HR a/\a.length=t.length/\had.length<=n/\(∀k v,Has a k v↔k∉ks.take n/\Has t k v)/\(keys a).length+had.length=(keys t).length/\(∀k v,k∈ks.take n->Has t k v->v∈had)/\(∀y,own a y+R4 had y=own t y) /\
   ∃f:Nat->Tb × List Int,f 0=(t,[])/\f n=(a,had)/\∀j,(hj:j<n)->HR (f j).1/\(f j).2.length<=j/\((∃i,∃hjk:j<ks.length,Fk (f j).1 ks[j] i/\f (j+1)=((f j).1.set i ⟨2,0,0⟩,(f j).2 ++ [(pt (f j).1 i).Val]))\/((∀i,∀hjk:j<ks.length,¬Fk (f j).1 ks[j] i)/\f (j+1)=f j)):=by
  intro n;induction n with
  | zero=>exact λ_=>⟨t,[],hR,rfl,by simp,by simp,by simp,by simp,λy=>by unfold R4;split <;> simp,λ_=>(t,[]),rfl,rfl,λj hj=>by omega⟩
  | succ n ih=>
   intro hn;obtain⟨a,had,h1,h2,h3,h4,h5,h6,h7,f,f0,fn,fs⟩:=ih (by omega);have hlt:n<ks.length:=by omega
   have htk:∀k,k∈ks.take (n+1)↔k∈ks.take n\/k=ks[n]:=λk=>by
    rw[zt hlt,zu,zn]
   rcases BY a ks[n] with ⟨i,hi⟩ | hno
   .have hd:=tA h1 hi;refine⟨a.set i ⟨2,0,0⟩,had ++ [(pt a i).Val],pe h1 hi.1,by simpa using h2,by simp;omega,λk v=>?_,?_,λk v hk hv=>?_,λy=>?_,λj=>if j=n+1 then (a.set i ⟨2,0,0⟩,had ++ [(pt a i).Val]) else f j,by simp[f0],by simp,λj hj=>?_⟩
    .rw[hd,h4,htk];constructor;·rintro⟨q1,q2,q3⟩;exact⟨λq=>q.elim q2 q1,q3⟩
     .rintro⟨q1,q2⟩;exact⟨λq=>q1 (.inr q),λq=>q1 (.inl q),q2⟩
    .have:=uc hi.1 ⟨2,0,0⟩;rw[zb hi.2.1,za (by decide)] at this;simp only[zJ,zH,zah];omega
    .rw[zu];rcases (htk k).1 hk with q | q
     .exact .inl (h6 k v q hv)
     .subst q;by_cases q':ks[n]∈ks.take n
      .exact .inl (h6 _ v q' hv)
      .have:=(h4 _ _).2 ⟨q',hv⟩;rw[this.fn h1 ⟨i,hi,rfl⟩];exact .inr (by simp)
    .have:=Kp hi.1 ⟨2,0,0⟩ y;have h7':=h7 y;rw[G6];have e:R4 [(pt a i).Val] y=if (((pt a i).State==1)&&((y != 0)&&((pt a i).Val==y)))=true then 1 else 0:=by
      rw[hi.2.1];unfold R4;by_cases y0:y=0
      .simp[y0]
      .by_cases e:(pt a i).Val=y
       .simp[y0,e]
       .simp[y0,e]
     rw[e];rw[za (show ¬((((2:Int)==1)&&((y != 0)&&((0:Int)==y)))=true) by simp)] at this;omega
    .rcases zF j n with q | q
     .have:=fs j q;dsimp only;rw[za (by omega),za (by omega)];exact this
     .have:j=n:=by omega
      subst this;dsimp only;rw[za (by omega),zb rfl,fn];exact⟨h1,h3,.inl ⟨i,hlt,hi,rfl⟩⟩
   .refine⟨a,had,h1,h2,by omega,λk v=>?_,h5,λk v hk hv=>?_,h7,λj=>if j=n+1 then (a,had) else f j,by simp[f0],by simp,λj hj=>?_⟩
    .rw[h4,htk];constructor
     .rintro⟨q1,q2⟩;refine⟨λq=>q.elim q1 λq=>?_,q2⟩;subst q;obtain⟨i,hi,_⟩:=(h4 _ _).2 ⟨q1,q2⟩;exact hno i hi
     .rintro⟨q1,q2⟩;exact⟨λq=>q1 (.inl q),q2⟩
    .rcases (htk k).1 hk with q | q
     .exact h6 k v q hv
     .subst q;by_cases q':ks[n]∈ks.take n
      .exact h6 _ v q' hv
      .obtain⟨i,hi,_⟩:=(h4 _ _).2 ⟨q',hv⟩;exact absurd hi (hno i)
    .rcases zF j n with q | q
     .have:=fs j q;dsimp only;rw[za (by omega),za (by omega)];exact this
     .have:j=n:=by omega
      subst this;dsimp only;rw[za (by omega),zb rfl,fn];exact⟨h1,h3,.inr ⟨λi _=>hno i,rfl⟩⟩
 obtain⟨a,had,h1,h2,h3,h4,h5,h6,h7,f,f0,fn,fs⟩:=key ks.length (zG _);rw[zR] at h4 h6;refine⟨a,had,?_,h1,h2,h3,?_,h4,h5,h6,h7⟩
 .unfold bb;simp only[jn];refine lS (λj=>((f j).1,(j:Int),(f j).2)) (by rw[f0];rfl) ks.length (λ_=>True) (by omega) trivial (λj hj _=>?_) (λ_=>⟨(a,had),by dsimp only;rw[za (by simp),fn],rfl⟩);obtain⟨g1,g2,g3⟩:=fs j hj;left;refine⟨?_,trivial⟩;dsimp only;rw[zb (by simpa using hj),u4 hj,a0A,n9 (by omega)];rcases g3 with ⟨i,_,hi,e⟩ | ⟨hno,e⟩
  .rw[tC g1 hi,a0A,e];dsimp only;rw[zb (by decide),I6 (by omega) (by simp;omega),a0A]
  .rw[tB g1 (λi=>hno i hj),a0A,e];dsimp only;rw[za (by decide)]
 .unfold pK;simp only[jn];refine lS (λj=>((f j).1.map fk,(j:Int),(f j).2)) (by rw[f0];rfl) ks.length (λ_=>True) (by omega) trivial (λj hj _=>?_) (λ_=>⟨(a.map fk,had),by dsimp only;rw[za (by simp),fn],rfl⟩);obtain⟨g1,g2,g3⟩:=fs j hj;left;refine⟨?_,trivial⟩;dsimp only;rw[zb (by simpa using hj),u4 hj,a0A,n9 (by omega),WW g1];rcases g3 with ⟨i,_,hi,e⟩ | ⟨hno,e⟩
  .rw[tC g1 hi,ut,a0A,e];dsimp only;rw[zb (by decide),I6 (by omega) (by simp;omega),a0A]
  .rw[tB g1 (λi=>hno i hj),ut,a0A,e];dsimp only;rw[za (by decide)]
theorem GG{l:List C0}(h:l.length<=100000):uG l l=some true:=by
 unfold uG;rw[za (by simp)];simp only[jn];refine aK l.length (λ_=>True) (by omega) trivial (λk hk _=>.inl ⟨?_,trivial⟩) (λ_=>⟨.inr (),by simp,rfl⟩);rw[zb (by simpa using hk),u4 hk,a0A,a0A,za (by simp),n9 (by omega)]
inductive bp (s:b6) (t:Tb) (l:List Int):Int->Prop
 | base {h:Int}:h∈l->h∈lv s->bp s t l h
 | step {a b:Int}:bp s t l a->b∈outs s a->b∈lv s->bp s t l b
 | pair {k v:Int}:Has t k v->bp s t l k->v∈lv s->bp s t l v
open Classical in
noncomputable def LF (s:b6) (t:Tb) (l:List Int):List Int:=(lv s).filter λh=>decide (bp s t l h)
open Classical in
noncomputable def XG (s:b6) (t:Tb) (l:List Int):List Int:=(lv s).filter λh=>decide (¬bp s t l h)
noncomputable def EI(s:b6)(t:Tb)(l:List Int):List Int:=((jW t).filter λp=>decide (p.Key∈l/\p.Key∈lv s/\p.Val∈lv s)).map (·.Val)
def TB(t:Tb):Prop:=∀p∈t,p.Key<=9223372036854775807/\p.Val<=9223372036854775807
def KY(s:b6)(t:Tb)(l:List Int):Prop:=∀k v,Has t k v->k∈l->k∈lv s->v∈lv s->v∈l
theorem TB.has{t:Tb}(h:TB t){k v:Int}(q:Has t k v):k<=9223372036854775807/\v<=9223372036854775807:=by
 obtain⟨i,⟨h1,_,h2⟩,h3⟩:=q;rw[mg h1] at h2 h3;have:=h _ (zh h1);rw[h2,h3] at this;exact this
theorem bp.live{s:b6}{t:Tb}{l:List Int}{h:Int}(q:bp s t l h):h∈lv s:=by cases q <;> assumption
open Classical in
theorem tM {s:b6} {t:Tb} {l:List Int} {h:Int}:h∈LF s t l↔bp s t l h:=by
 unfold LF;rw[zi];exact⟨λq=>zbg q.2,λq=>⟨q.live,zE q⟩⟩
theorem JE{s:b6}(hR:xh (sO s))(t:Tb)(l:List Int):(LF s t l).length<=24:=zN (zA ..) (N3 hR)
theorem Vy{s:b6}(hR:xh (sO s))(t:Tb)(l:List Int):LB (LF s t l):=λx hx=>by have:=pE hR (tM.1 hx).live;omega
theorem WS{s:b6}(hR:xh (sO s))(l:List Int):LB (Iu s l):=λx hx=>by have:=pE hR (fL.1 hx).live;omega
theorem Vx(s:b6)(t:Tb)(l:List Int):Cl s (LF s t l):=λa ha b hb hl=>tM.2 (.step (tM.1 ha) hb hl)
theorem bp.least{s:b6}{t:Tb}{l m:List Int}(hc:Cl s m)(hp:KY s t m)(hl:∀x∈l,x∈lv s->x∈m){h:Int}(q:bp s t l h):h∈m:=by
 induction q with
 | base h1 h2=>exact hl _ h1 h2
 | step _ h1 h2 ih=>exact hc _ ih _ h1 h2
 | pair h1 h2 h3 ih=>exact hp _ _ h1 ih h2.live h3
theorem bp.mono{s:b6}{t u:Tb}{l m:List Int}(ht:∀k v,Has t k v->Has u k v)(hl:∀x∈l,x∈lv s->bp s u m x){h:Int}(q:bp s t l h):bp s u m h:=by
 induction q with
 | base h1 h2=>exact hl _ h1 h2
 | step _ h1 h2 ih=>exact .step ih h1 h2
 | pair h1 _ h3 ih=>exact .pair (ht _ _ h1) ih h3
theorem sS.ZR{s:b6}(t:Tb){l:List Int}{h:Int}(q:sS s l h):bp s t l h:=by
 induction q with
 | base h1 h2=>exact .base h1 h2
 | step _ h1 h2 ih=>exact .step ih h1 h2
theorem uC{s:b6}{t:Tb}{l:List Int}{v:Int}:v∈EI s t l↔∃k,Has t k v/\k∈l/\k∈lv s/\v∈lv s:=by
 unfold EI;rw[zq];constructor
 .rintro⟨p,hp,rfl⟩;obtain⟨h1,h2⟩:=zi.1 hp;exact⟨p.Key,cG.1 h1,zbg h2⟩
 .rintro⟨k,h1,h2⟩;exact⟨⟨k,v⟩,zi.2 ⟨cG.2 h1,zE h2⟩,rfl⟩
theorem Ik{s:b6}{t:Tb}{l:List Int}:(∀v∈EI s t l,v∈l)↔KY s t l:=by
 constructor;·exact λh k v h1 h2 h3 h4=>h v (uC.2 ⟨k,h1,h2,h3,h4⟩)
 .intro h v hv;obtain⟨k,h1,h2,h3,h4⟩:=uC.1 hv;exact h k v h1 h2 h3 h4
theorem Kl{s:b6}{t:Tb}(hT:HR t)(l:List Int):(EI s t l).length<=8:=by
 unfold EI;rw[zl];exact zN (zA ..) (sC hT.l8)
theorem Wz{s:b6}(hR:xh (sO s))(t:Tb)(l:List Int):LB (EI s t l):=λx hx=>by
 obtain⟨_,_,_,_,h⟩:=uC.1 hx;have:=pE hR h;omega
noncomputable def U8(s:b6)(t:Tb)(l:List Int):Nat->List Int
 | 0=>Iu s l
 | k+1=>Iu s (U8 s t l k++EI s t (U8 s t l k))
section
variable{s:b6}{t:Tb}{l:List Int}
theorem Mj(k:Nat):U8 s t l (k+1)=Iu s (U8 s t l k++EI s t (U8 s t l k)):=rfl
theorem uO(k:Nat):∃m,U8 s t l k=Iu s m:=by
 cases k with
 | zero=>exact⟨_,rfl⟩
 | succ k=>exact⟨_,rfl⟩
theorem Tv(k:Nat):Cl s (U8 s t l k):=by
 obtain⟨m,e⟩:=uO (s:=s) (t:=t) (l:=l) k;rw[e];exact WR s m
theorem Mh(k:Nat){x:Int}(h:x∈U8 s t l k):x∈lv s:=by
 obtain⟨m,e⟩:=uO (s:=s) (t:=t) (l:=l) k;rw[e] at h;exact (fL.1 h).live
theorem GC(k:Nat){x:Int}(h:x∈U8 s t l k):x∈U8 s t l (k+1):=fL.2 (.base (zu.2 (.inl h)) (Mh k h))
theorem Mg(k:Nat):∀x∈l,x∈lv s->x∈U8 s t l k:=by
 induction k with
 | zero=>exact λx h1 h2=>fL.2 (.base h1 h2)
 | succ k ih=>exact λx h1 h2=>GC k (ih x h1 h2)
theorem PJ(k:Nat):∀x∈U8 s t l k,bp s t l x:=by
 induction k with
 | zero=>exact λx h=>(fL.1 h).ZR t
 | succ k ih=>
  intro x h;have:=fL.1 h;induction this with
  | base h1 h2=>
   rcases zu.1 h1 with q | q
   .exact ih _ q
   .obtain⟨k',q1,q2,q3,q4⟩:=uC.1 q;exact .pair q1 (ih _ q2) q4
  | step h0 h1 h2 ih2=>exact .step (ih2 (fL.2 h0)) h1 h2
theorem Mi{k:Nat}(h:KY s t (U8 s t l k)):U8 s t l k=LF s t l:=by
 obtain⟨m,e⟩:=uO (s:=s) (t:=t) (l:=l) k;have hm:∀x,sS s m x↔bp s t l x:=λx=>by
  rw[<-fL,<-e];exact⟨PJ k x,λq=>q.least (Tv k) h (Mg k)⟩
 rw[e];unfold Iu LF;exact or λx _=>zbl.2 (hm x)
theorem Cu{k:Nat}(h:¬KY s t (U8 s t l k)):((jW t).filter λp=>decide (p.Val∈U8 s t l k)).length<((jW t).filter λp=>decide (p.Val∈U8 s t l (k+1))).length:=by
 obtain⟨v,hv,hn⟩:∃v,v∈EI s t (U8 s t l k)/\v∉U8 s t l k:=pi λq=>h (Ik.1 λv hv=>pi λq2=>q ⟨v,hv,q2⟩);obtain⟨k',h1,h2,h3,h4⟩:=uC.1 hv;refine filter_lt (λp _ hp=>?_) ⟨k',v⟩ (cG.2 h1) ?_ ?_
 .rw[zC] at hp |-;exact GC k hp
 .rw[zC];exact fL.2 (.base (zu.2 (.inr hv)) h4)
 .exact zZ hn
theorem uN(s:b6)(t:Tb)(l:List Int):∃n,n<=(jW t).length/\KY s t (U8 s t l n)/\∀j,j<n->¬KY s t (U8 s t l j):=by
 have key:∀k,(∃j,j<=k/\KY s t (U8 s t l j))\/k<((jW t).filter λp=>decide (p.Val∈U8 s t l (k+1))).length:=by
  intro k;induction k with
  | zero=>
   by_cases h:KY s t (U8 s t l 0)
   .exact .inl ⟨0,zG _,h⟩
   .have:=Cu h;exact .inr (by omega)
  | succ k ih=>
   rcases ih with ⟨j,h1,h2⟩ | ih;·exact .inl ⟨j,by omega,h2⟩
   .by_cases h:KY s t (U8 s t l (k+1))
    .exact .inl ⟨k+1,zG _,h⟩
    .have:=Cu h;exact .inr (by omega)
 obtain⟨j,h1,h2⟩:∃j,j<=(jW t).length/\KY s t (U8 s t l j):=by
  rcases key (jW t).length with q | q
  .exact q
  .have:=zA (λp:k7=>decide (p.Val∈U8 s t l ((jW t).length+1))) (jW t);omega
 obtain⟨n,hn,hmin⟩:=dT (p:=λj=>KY s t (U8 s t l j)) ⟨j,h2⟩;exact⟨n,zN (hmin j h2) h1,hn,λi hi q=>by have:=hmin i q;omega⟩
end
noncomputable def WZ(s:b6)(t:Tb)(l:List Int):Nat:=Classical.choose (uN s t l)
theorem Xc(s:b6)(t:Tb)(l:List Int):WZ s t l<=(jW t).length:=(zaz (uN s t l)).1
theorem PI(s:b6)(t:Tb)(l:List Int):KY s t (U8 s t l (WZ s t l)):=(zaz (uN s t l)).2.1
theorem Tu(s:b6)(t:Tb)(l:List Int){j:Nat}(h:j<WZ s t l):¬KY s t (U8 s t l j):=(zaz (uN s t l)).2.2 j h
section
variable{s:b6}(hR:xh (sO s)){t:Tb}(hT:HR t)(hTB:TB t)
include hR hT hTB
omit hT hTB in
theorem Ch {h:Int} (hh:h<=9223372036854775807):jN h s=some (decide (h∈lv s)):=by
 obtain⟨e,h1,h2⟩:=iI hR hh;unfold jN;rw[h1,a0A];congr 1;rw[zbj,ms,zC];exact h2
theorem Km{l:List Int}(hl:l.length<=1000000):tL s t l=some (EI s t l):=by
 unfold tL;simp only[jn,Ps hT,a0A];have h8:=sC hT.l8;rw[V9 ((jW t)) (λb p=>b++(if decide (p.Key∈l/\p.Key∈lv s/\p.Val∈lv s) then [p.Val] else [])) id (λk b=>b.length<=k) (by omega) (by simp) (λk hk b hb=>?_) (λb _=>?_)]
 .simp only[a0A,id];rw[sf];congr 1;unfold EI;rw[zcj];generalize jW t=P;induction P with
  | nil=>rfl
  | cons p P ih=>
   rw[zbe,mt,ih];by_cases q:p.Key∈l/\p.Key∈lv s/\p.Val∈lv s
   .simp[q]
   .simp[q]
 .have hb':=hTB.has (cG.1 (zh hk));simp only[wn,hk,ww,we,u4 hk,a0A,contains_eq _ _ hl];rw[Ch hR hb'.1,Ch hR hb'.2];by_cases q1:(jW t)[k].Key∈l
  .rw[zE q1];simp only[zW,bK,a0A,zbb];by_cases q2:(jW t)[k].Key∈lv s
   .rw[zE q2];simp only[zW,bK,a0A,zbb];by_cases q3:(jW t)[k].Val∈lv s
    .rw[zb (by simpa using q3),I6 (by omega) (by simp;omega),a0A,n9,zb (by simp[q1,q2,q3])];exact⟨rfl,by simp;omega⟩
    .rw[za (by simpa using q3),n9,za (by simp[q3]),zay];exact⟨rfl,by omega⟩
   .rw[zZ q2];simp only[show ((false==true):Bool)=false from rfl,Kj,a0A,Bool.false_and,zD,q9];rw[n9,za (by simp[q2]),zay];exact⟨rfl,by omega⟩
  .rw[zZ q1];simp only[show ((false==true):Bool)=false from rfl,Kj,a0A,Bool.false_and,zD,q9];rw[n9,za (by simp[q1]),zay];exact⟨rfl,by omega⟩
 .simp only[zbo,zby,zD,q9];rfl
theorem Ob(hF:FB s){l:List Int}(hl:LB l)(hlen:l.length<=1000000):qt s t l=some (LF s t l,(WZ s t l:Int)):=by
 unfold qt;rw[JF hR hF hl hlen,a0A];simp only[jn];have hn:=Xc s t l;have h8:=sC hT.l8;have hstep:∀k,∃m,U8 s t l k=Iu s m:=uO;refine lS (p:=λk=>(U8 s t l k,(k:Int))) rfl (WZ s t l) (λ_=>True) (by omega) trivial (λk hk _=>.inl ⟨?_,trivial⟩) (λ_=>?_)
 .obtain⟨m,hm⟩:=hstep k;have hlk:(U8 s t l k).length<=24:=by rw[hm];exact Tp hR m
  have hlb:LB (U8 s t l k):=by rw[hm];exact WS hR m
  have hno:=Tu s t l hk;simp only;rw[Km hR hT hTB (by omega),a0A];have ho:=Kl (s:=s) hT (U8 s t l k);obtain⟨j,⟨hj,hjn⟩,hmin⟩:=dT (p:=λj=>∃hj:j<(EI s t (U8 s t l k)).length,(EI s t (U8 s t l k))[j]∉U8 s t l k) (by
   refine pi λq=>hno (Ik.1 λv hv=>pi λq2=>?_);obtain⟨j,hj,e⟩:=List.mem_iff_getElem.1 hv;exact q ⟨j,hj,by rw[e];exact q2⟩)
  refine aK (EI s t (U8 s t l k)).length (λi=>i<=j) (by omega) (zX _) (λi hi hP=>?_) (λhP=>by omega);simp only[wn,hi,ww,we,u4 hi,a0A];rw[contains_eq _ _ (by omega),a0A];rcases zF i j with q | q
  .refine .inl ⟨?_,q⟩;have:(EI s t (U8 s t l k))[i]∈U8 s t l k:=pi λq2=>by have:=hmin i ⟨hi,q2⟩;omega
   rw[za (by simp[this]),n9]
  .have:i=j:=by omega
   subst this;refine .inr ⟨.inl (U8 s t l (k+1),((k+1:Nat):Int)),?_,rfl⟩;rw[zb (by simp[hjn]),I6 (by omega) (by omega),a0A,JF hR hF (λx hx=>by
    rcases zu.1 hx with q | q
    .exact Wz hR t _ x q
    .exact hlb x q) (by simp;omega),a0A,n9,Mj]
   rw[Mf (l:=EI s t (U8 s t l k)++U8 s t l k) (m:=U8 s t l k++EI s t (U8 s t l k)) λx=>⟨λq=>q.mono λy hy hyl=>.base (zu.2 (zu.1 hy).symm) hyl,λq=>q.mono λy hy hyl=>.base (zu.2 (zu.1 hy).symm) hyl⟩]
 .have hst:=PI s t l;have hfr:=Mi hst;refine⟨(LF s t l,(WZ s t l:Int)),?_,rfl⟩;simp only;rw[hfr] at hst |-;have hfl:=JE hR t l;rw[Km hR hT hTB (by omega),a0A];have ho:=Kl (s:=s) hT (LF s t l);refine aK (EI s t (LF s t l)).length (λ_=>True) (by omega) trivial (λi hi _=>.inl ⟨?_,trivial⟩) (λ_=>⟨.inr (),by simp,rfl⟩);have:=Ik.2 hst _ (zh hi);simp only[wn,hi,ww,we,u4 hi,a0A];rw[contains_eq _ _ (by omega),a0A,za (by simp[this]),n9]
theorem NI(hF:FB s){l:List Int}(hl:LB l)(hlen:l.length<=1000000):tK s t l=some (LF s t l):=by
 unfold tK;rw[Ob hR hT hTB hF hl hlen];rfl
omit hT hTB hR in
theorem Tq {l:List Int} {x:Int}:sS s (LF s t l) x↔bp s t l x:=by
 constructor
 .intro q;exact tM.1 (sS.least (Vx s t l) (λx h _=>h) q)
 .exact λq=>.base (tM.2 q) q.live
theorem NN(hF:FB s){l:List Int}(hl:LB l)(hlen:l.length<=1000000):pj s t l=some (XG s t l):=by
 unfold pj;rw[NI hR hT hTB hF hl hlen,a0A,Sr hR hF (Vy hR t l) (by have:=JE hR t l;omega),a0A];congr 1;unfold lst XG;exact or λx _=>zbl.2 (not_congr Tq)
end
section
variable(s:b6)(hF:FB s)(t:Tb)(hTB:TB t)
include hF hTB
end
def ce(s:b6)(i:Nat):c9:=s.S.b7.getD i ⟨0,0,z0⟩
theorem P4{s:b6}{i:Nat}(h:i<s.S.b7.length):ce s i=s.S.b7[i]:=by
 unfold ce;rw[zd,zc h];rfl
theorem JO{s:b6}{i:Nat}(h:i<s.S.b7.length):ix s.S.b7 (i:Int)=some (ce s i):=by rw[u4 h,P4 h]
def Th(c:c9):Prop:=c.State=1\/c.State=2
instance(c:c9):Decidable (Th c):=by unfold Th;infer_instance
structure Bc (s:b6) (o:n8):Prop where
 s1:1<=o.Serial
 s2:o.Serial<=s.Serial
 st:0<=o.Strong
 wk:0<=o.Weak
 p1 : -1<=o.Prog
 p2:o.Prog<=5
 fl:o.Fields.length<=4
structure SR (s:b6):Prop where
 len:s.S.b7.length<=24
 l0:0<=s.S.Last
 l9:s.S.Last<=9
 bC:0<=s.Serial
 cell:∀i,i<s.S.b7.length->0<=(ce s i).State/\(ce s i).State<=3/\0<=(ce s i).Gen/\(ce s i).Gen<=s.S.Last
 no:∀i,i<s.S.b7.length->¬Th (ce s i)->KX (oo (ce s i).Val)
 ok:∀i,i<s.S.b7.length->Th (ce s i)->Bc s (ce s i).Val
 dif:∀i j,i<s.S.b7.length->j<s.S.b7.length->Th (ce s i)->Th (ce s j)->(ce s i).Val.Serial=(ce s j).Val.Serial->i=j
theorem A3{s:b6}:xh (sO s)↔SR s:=by
 constructor
 .intro h;refine⟨pQ h,h.l0,h.l9,h.bC,λi hi=>?_,λi hi hn=>?_,λi hi ht=>?_,λi j hi hj a b e=>?_⟩;·rw[P4 hi];exact Ef h i hi
  .rw[P4 hi] at hn |-;have:=h.no i (by rw[lD];exact hi);simp only[sO,t8] at this;exact this hn
  .rw[P4 hi] at ht |-;obtain⟨a,b,c,d,e,f,g⟩:=PM h i hi ht;exact⟨a,b,c,d,e,f,g⟩
  .rw[P4 hi] at a e;rw[P4 hj] at b e;exact PL h hi hj a b e
 .intro h;refine⟨by rw[lD];exact h.len,h.l0,h.l9,h.bC,λi hi=>?_,λi hi hn=>?_,λi hi ht=>?_,λi hi k hk a b=>?_⟩
  .rw[lD] at hi;have:=h.cell i hi;rw[P4 hi] at this;simpa[sO,cO] using this
  .rw[lD] at hi;have:=h.no i hi;rw[P4 hi] at this;simp only[sO,t8] at hn |-;exact this hn
  .rw[lD] at hi;have:=h.ok i hi;rw[P4 hi] at this;simp only[sO,t8] at ht |-;obtain⟨a,b,c,d,e,f,g⟩:=this ht;exact⟨a,b,c,d,e,f,g⟩
  .rw[lD] at hi;have hk':k<s.S.b7.length:=by omega
   have:=h.dif i k hi hk';rw[P4 hi,P4 hk'] at this;simp only[sO,t8,cO,oo] at a b |-;intro e;have:=this a b e.symm;omega
def At(s:b6)(h:Int)(i:Nat):Prop:=i<s.S.b7.length/\(ce s i).State=1/\h=1+(i:Int)+32*(ce s i).Gen
def U9(s:b6)(h:Int)(i:Nat):Prop:=i<s.S.b7.length/\Th (ce s i)/\h=1+(i:Int)+32*(ce s i).Gen
theorem At.d{s:b6}{h:Int}{i:Nat}(q:At s h i):U9 s h i:=⟨q.1,.inl q.2.1,q.2.2⟩
theorem U9.one{s:b6}(hR:SR s){h:Int}{i j:Nat}(q:U9 s h i)(q':U9 s h j):i=j:=by
 obtain⟨a1,_,a2⟩:=q;obtain⟨b1,_,b2⟩:=q';have:=hR.len;omega
theorem U9.Ml{s:b6}(hR:SR s){h:Int}{i:Nat}(q:U9 s h i):1<=h/\h<=320:=by
 obtain⟨a1,_,a2⟩:=q;have:=hR.len;have:=hR.cell i a1;have:=hR.l9;omega
theorem FY{s:b6}{h:Int}:h∈dp 0 s.S.b7↔∃i,At s h i:=by
 rw[pz];constructor
 .rintro⟨i,hi,h1,h2⟩;refine⟨i,hi,by rw[P4 hi];exact h1,?_⟩;rw[P4 hi,h2,zam]
 .rintro⟨i,hi,h1,h2⟩;rw[P4 hi] at h1 h2;exact⟨i,hi,h1,by rw[h2,zam]⟩
theorem ig{s:b6}(hR:SR s){h:Int}:h∈lv s↔∃i,At s h i:=by rw[DB (A3.2 hR),FY]
theorem sa{s:b6}(hR:SR s){h:Int}{i:Nat}:xf s.S h i↔U9 s h i:=by
 constructor
 .rintro⟨hi,h1,h2,h3,h4⟩;unfold CH at h1;refine⟨hi,by rw[P4 hi];exact h4,?_⟩;rw[P4 hi];omega
 .rintro⟨hi,h1,h2⟩;have l:=hR.len;have l9:=hR.l9;have c:=hR.cell i hi;rw[P4 hi] at h1 h2 c;exact⟨hi,by unfold CH;omega,by omega,by omega,h1⟩
theorem G2{s:b6}(hR:SR s){h:Int}{i:Nat}(q:At s h i):ob s h=(ce s i).Val:=by
 obtain⟨j,hj,h1,h2,_,e⟩:=DA (A3.2 hR) ((ig hR).2 ⟨i,q⟩);have:j=i:=U9.one hR ⟨hj,by rw[P4 hj];exact .inl h1,by rw[P4 hj];exact h2⟩ q.d;subst this;rw[e,P4 hj]
theorem Jq{s:b6}(hR:SR s){h:Int}{i:Nat}(q:At s h i):sk s.S.b7 h=(ce s i).Val.Serial:=by
 have:=hR.len;have hi:=q.1;rw[q.2.2,GK hi (by omega),P4 hi]
theorem xH{s:b6}(hR:SR s){h:Int}{i:Nat}(q:U9 s h i):A1 s.S h=some ((i:Int),0):=vA ((sa hR).2 q)
theorem yl{s:b6}(hR:SR s){h:Int}(hh:h<=9223372036854775807)(q:∀i,¬U9 s h i):A1 s.S h=some (-1,if h=0 then 2 else 3):=BW hh λi hi=>q i ((sa hR).1 hi)
theorem Ow{s s':b6}(hR:SR s)(hR':SR s')(P:Int->Bool)(hm:∀h,(∃i,At s' h i)↔(∃i,At s h i)/\P h=true)(hk:∀h i j,At s' h i->At s h j->(ce s' i).Val.Serial=(ce s j).Val.Serial):lv s'=(lv s).filter P:=by
 have hk':∀h∈lv s,P h=true->sk s'.S.b7 h=sk s.S.b7 h:=λh hh hp=>by
  obtain⟨j,hj⟩:=(ig hR).1 hh;obtain⟨i,hi⟩:=(hm h).2 ⟨⟨j,hj⟩,hp⟩;rw[Jq hR' hi,Jq hR hj,hk h i j hi hj]
 refine Ys (A3.2 hR') ?_ ?_
 .rw[List.perm_ext_iff_of_nodup ((uh (A3.2 hR)).filter _) (nr 0 _ (by have:=hR'.len;omega))];intro h;rw[zi,ig hR,FY,hm h]
 .refine ((nv (A3.2 hR)).2.2.filter P).imp_of_mem λ{a b} ha hb hab=>?_;rw[zi] at ha hb;rw[hk' a ha.1 ha.2,hk' b hb.1 hb.2];exact hab
theorem Sy{s s':b6}(hR:SR s)(hR':SR s')(hl:s'.S.b7.length=s.S.b7.length)(h1:∀i,i<s.S.b7.length->((ce s' i).State=1↔(ce s i).State=1)/\(ce s' i).Gen=(ce s i).Gen/\(ce s' i).Val.Serial=(ce s i).Val.Serial):lv s'=lv s:=by
 have ha:∀h i,At s' h i↔At s h i:=λh i=>by
  unfold At;rw[hl];constructor
  .rintro⟨a,b,c⟩;obtain⟨x,y,z⟩:=h1 i a;exact⟨a,x.1 b,by rw[<-y];exact c⟩
  .rintro⟨a,b,c⟩;obtain⟨x,y,z⟩:=h1 i a;exact⟨a,x.2 b,by rw[y];exact c⟩
 rw[Ow hR hR' (λ_=>true) (λh=>by simp only[and_true];exact⟨λ⟨i,q⟩=>⟨i,(ha h i).1 q⟩,λ⟨i,q⟩=>⟨i,(ha h i).2 q⟩⟩) (λh i j q q'=>by
  have:=U9.one hR ((ha h i).1 q).d q'.d;subst this;exact (h1 i q'.1).2.2)]
 simp
def gh(s:b6)(i:Nat)(o:n8):b6:=⟨⟨s.S.b7.set i ⟨(ce s i).State,(ce s i).Gen,o⟩,s.S.Last⟩,s.Serial⟩
theorem K6(s:b6)(i:Nat)(o:n8):(gh s i o).S.b7.length=s.S.b7.length:=by simp[gh]
theorem yH{α:Type}{l:List α}{i:Nat}(hi:i<l.length)(c d:α)(j:Nat):(l.set i c).getD j d=if j=i then c else l.getD j d:=by
 rw[zd,zd,List.getElem?_set];by_cases h:j=i
 .subst h;rw[zb rfl,zb hi,zb rfl];rfl
 .rw[za (zau h),za h]
theorem mZ{s:b6}{i:Nat}(hi:i<s.S.b7.length)(o:n8)(j:Nat):ce (gh s i o) j=if j=i then ⟨(ce s i).State,(ce s i).Gen,o⟩ else ce s j:=yH hi _ _ j
theorem AN{s:b6}{i:Nat}(hi:i<s.S.b7.length)(o:n8)(j:Nat):(ce (gh s i o) j).State=(ce s j).State/\(ce (gh s i o) j).Gen=(ce s j).Gen:=by
 rw[mZ hi];split;·rename_i q;subst q;exact⟨rfl,rfl⟩
 .exact⟨rfl,rfl⟩
theorem xG{s:b6}{i:Nat}(hi:i<s.S.b7.length)(o:n8){h:Int}{j:Nat}:U9 (gh s i o) h j↔U9 s h j:=by
 unfold U9 Th;rw[K6,(AN hi o j).1,(AN hi o j).2]
theorem ym{s:b6}{i:Nat}(hi:i<s.S.b7.length)(o:n8){h:Int}{j:Nat}:At (gh s i o) h j↔At s h j:=by
 unfold At;rw[K6,(AN hi o j).1,(AN hi o j).2]
theorem PU{s:b6}(hR:SR s){h:Int}{i:Nat}(q:U9 s h i)(o:n8):U0 s h o=some (gh s i o,0):=by
 obtain⟨hi,e⟩:=PW (v:=o) hR.len ((sa hR).2 q);unfold U0;rw[e];simp[gh,P4 hi]
theorem SR.put{s:b6}(hR:SR s){i:Nat}(hi:i<s.S.b7.length)(ht:Th (ce s i)){o:n8}(hs:o.Serial=(ce s i).Val.Serial)(ho:Bc s o):SR (gh s i o):=by
 have hst:=AN hi o;have hse:∀j,(ce (gh s i o) j).Val.Serial=(ce s j).Val.Serial:=λj=>by
  rw[mZ hi];split;·rename_i q;subst q;exact hs
  .rfl
 refine⟨by rw[K6];exact hR.len,hR.l0,hR.l9,hR.bC,λj hj=>?_,λj hj hn=>?_,λj hj hn=>?_,λj k hj hk a b e=>?_⟩
 .rw[K6] at hj;rw[(hst j).1,(hst j).2];exact hR.cell j hj
 .rw[K6] at hj;unfold Th at hn;rw[(hst j).1] at hn;rw[mZ hi];split;·rename_i q;subst q;exact absurd ht hn
  .exact hR.no j hj hn
 .rw[K6] at hj;unfold Th at hn;rw[(hst j).1] at hn;rw[mZ hi];split;·exact⟨ho.s1,ho.s2,ho.st,ho.wk,ho.p1,ho.p2,ho.fl⟩
  .have:=hR.ok j hj hn;exact⟨this.s1,this.s2,this.st,this.wk,this.p1,this.p2,this.fl⟩
 .rw[K6] at hj hk;unfold Th at a b;rw[(hst j).1] at a;rw[(hst k).1] at b;rw[hse,hse] at e;exact hR.dif j k hj hk a b e
theorem Ov{s:b6}(hR:SR s){i:Nat}(hi:i<s.S.b7.length){o:n8}(hs:o.Serial=(ce s i).Val.Serial)(hR':SR (gh s i o)):lv (gh s i o)=lv s:=by
 refine Sy hR hR' (K6 ..) λj hj=>?_;rw[mZ hi];split;·rename_i q;subst q;exact⟨Iff.rfl,rfl,hs⟩
 .exact⟨Iff.rfl,rfl,rfl⟩
theorem Wt{s:b6}(hR:SR s){h:Int}{i:Nat}(q:At s h i){o:n8}(hR':SR (gh s i o)){k:Int}(hk:k<=9223372036854775807):ob (gh s i o) k=if k=h then o else ob s k:=by
 by_cases e:k=h
 .subst e;rw[zb rfl,G2 hR' ((ym q.1 o).2 q),mZ q.1,zb rfl]
 .rw[za e];by_cases hl:∃j,At s k j
  .obtain⟨j,hj⟩:=hl;rw[G2 hR' ((ym q.1 o).2 hj),G2 hR hj,mZ q.1,za];intro e2;subst e2;exact e (hj.2.2.trans q.2.2.symm)
  .rw[wK (A3.2 hR) hk (λq2=>hl ((ig hR).1 q2)),wK (A3.2 hR') hk λq2=>hl (by
    obtain⟨j,hj⟩:=(ig hR').1 q2;exact⟨j,(ym q.1 o).1 hj⟩)]
def E3(h:Int):Nat:=((h-1) % 32).toNat
theorem U9.E3{s:b6}(hR:SR s){h:Int}{i:Nat}(q:U9 s h i):E3 h=i:=by
 obtain⟨a,_,c⟩:=q;have:=hR.len;unfold Sh.E3;omega
def dh(s:b6)(h:Int)(o:n8):b6:=gh s (E3 h) o
theorem o5{s:b6}(hR:SR s){h:Int}(hh:h∈lv s):At s h (E3 h):=by
 obtain⟨i,hi⟩:=(ig hR).1 hh;rw[hi.d.E3 hR];exact hi
theorem L1{s:b6}(hR:SR s){h:Int}(hh:h∈lv s):Bc s (ob s h):=by
 have q:=o5 hR hh;rw[G2 hR q];exact hR.ok _ q.1 (.inl q.2.1)
theorem I7{s:b6}(hR:SR s){h:Int}(hh:h∈lv s):1<=h/\h<=320:=(o5 hR hh).d.Ml hR
theorem fp{s:b6}(hR:SR s):(0:Int)∉lv s:=λh=>by have:=I7 hR h;omega
section
variable{s:b6}(hR:SR s){h:Int}(hh:h∈lv s){o:n8}(hs:o.Serial=(ob s h).Serial)(ho:Bc s o)
include hR hh hs ho
theorem cd:SR (dh s h o):=by
 have q:=o5 hR hh;exact hR.put q.1 (.inl q.2.1) (by rw[hs,G2 hR q]) ho
theorem iV:lv (dh s h o)=lv s:=by
 have q:=o5 hR hh;exact Ov hR q.1 (by rw[hs,G2 hR q]) (cd hR hh hs ho)
theorem gB{k:Int}(hk:k<=9223372036854775807):ob (dh s h o) k=if k=h then o else ob s k:=Wt hR (o5 hR hh) (cd hR hh hs ho) hk
theorem xU:U0 s h o=some (dh s h o,0):=PU hR (o5 hR hh).d o
theorem Ej{k:Int}{i:Nat}:U9 (dh s h o) k i↔U9 s k i:=xG (o5 hR hh).1 o
theorem AD(i:Nat):ce (dh s h o) i=if i=E3 h then ⟨(ce s i).State,(ce s i).Gen,o⟩ else ce s i:=by
 unfold dh;rw[mZ (o5 hR hh).1];split;·rename_i q;rw[q]
 .rfl
end
abbrev BB(o:n8)(n:Int):n8:=⟨o.Serial,n,o.Weak,o.Prog,o.Started,o.Fields⟩
structure wB (s s':b6):Prop where
 sr:SR s'
 len:s'.S.b7.length=s.S.b7.length
 last:s'.S.Last=s.S.Last
 bC:s'.Serial=s.Serial
 lv:lv s'=lv s
 ad:∀k i,U9 s' k i↔U9 s k i
 ob:∀k,k<=9223372036854775807->∃n,ob s' k=(BB (ob s k) (n))
 ce:∀i,i<s.S.b7.length->(ce s' i).State=(ce s i).State/\(ce s' i).Gen=(ce s i).Gen/\(ce s' i).Val.Weak=(ce s i).Val.Weak/\(ce s' i).Val.Fields=(ce s i).Val.Fields/\((ce s i).State≠1->ce s' i=ce s i)
theorem wB.refl{s:b6}(hR:SR s):wB s s:=⟨hR,rfl,rfl,rfl,rfl,λ_ _=>Iff.rfl,λk _=>⟨_,rfl⟩,λi _=>⟨rfl,rfl,rfl,rfl,λ_=>rfl⟩⟩
theorem wB.trans{a b c:b6}(h:wB a b)(q:wB b c):wB a c:=by
 refine⟨q.sr,q.len.trans h.len,q.last.trans h.last,q.bC.trans h.bC,q.lv.trans h.lv,λk i=>(q.ad k i).trans (h.ad k i),λk hk=>?_,λi hi=>?_⟩
 .obtain⟨n,e⟩:=h.ob k hk;obtain⟨m,f⟩:=q.ob k hk;exact⟨m,by rw[f,e]⟩
 .obtain⟨a1,a2,a3,a4,a5⟩:=h.ce i hi;obtain⟨b1,b2,b3,b4,b5⟩:=q.ce i (by rw[h.len];exact hi);refine⟨b1.trans a1,b2.trans a2,b3.trans a3,b4.trans a4,λhn=>?_⟩;rw[b5 (by rw[a1];exact hn),a5 hn]
theorem wB.outs{s s':b6}(k:wB s s'){h:Int}(hh:h<=9223372036854775807):outs s' h=outs s h:=by
 obtain⟨n,e⟩:=k.ob h hh;unfold Sh.outs;rw[e]
theorem wB.kD{s s':b6}(hR:SR s)(k:wB s s')(h:Int):kD s' h=kD s h:=by
 unfold Sh.kD;rw[k.lv];congr 1;refine zw λx hx=>?_;rw[k.outs (by have:=I7 hR hx;omega)]
theorem Sl{s:b6}(hR:SR s){h:Int}(hh:h∈lv s){n:Int}(hn:0<=n):wB s (dh s h (BB (ob s h) (n))):=by
 have ho:Bc s (BB (ob s h) (n)):=by
  have:=L1 hR hh;exact⟨this.s1,this.s2,hn,this.wk,this.p1,this.p2,this.fl⟩
 have q:=o5 hR hh;refine⟨cd hR hh rfl ho,K6 ..,rfl,rfl,iV hR hh rfl ho,λk i=>Ej (o:=(BB (ob s h) (n))) hR hh rfl ho,λk hk=>?_,λi hi=>?_⟩
 .rw[gB (o:=(BB (ob s h) (n))) hR hh rfl ho hk];split;·rename_i e;subst e;exact⟨n,rfl⟩
  .exact⟨_,rfl⟩
 .rw[AD (o:=(BB (ob s h) (n))) hR hh rfl ho];split
  .rename_i e;subst e;rw[G2 hR q];exact⟨rfl,rfl,rfl,rfl,λhn=>absurd q.2.1 hn⟩
  .exact⟨rfl,rfl,rfl,rfl,λ_=>rfl⟩
def SB(s:b6):Prop:=∀c∈s.S.b7,c.Val.Strong<=9223372036854775807
theorem Yd{s:b6}:FB s↔∀i,i<s.S.b7.length->∀x∈(ce s i).Val.Fields,x<=9223372036854775807:=by
 constructor
 .intro h i hi x hx;rw[P4 hi] at hx;exact h _ (zh hi) x hx
 .intro h c hc x hx;obtain⟨i,hi,rfl⟩:=un hc;exact h i hi x (by rw[P4 hi];exact hx)
theorem YU{s:b6}:SB s↔∀i,i<s.S.b7.length->(ce s i).Val.Strong<=9223372036854775807:=by
 constructor
 .intro h i hi;rw[P4 hi];exact h _ (zh hi)
 .intro h c hc;obtain⟨i,hi,rfl⟩:=un hc;have:=h i hi;rwa [P4 hi] at this
noncomputable def inr(s:b6)(t:Tb)(h:Int):Nat:=kD s h+own t h
noncomputable def Mo(s:b6)(t:Tb)(h:Int):Int:=if h∈lv s then (ob s h).Strong-(inr s t h:Int) else 0
noncomputable def LK(s:b6)(t:Tb):List Int:=(lv s).filter λh=>decide (0<Mo s t h\/12<=(ob s h).Strong)
def Uc(s:b6)(t:Tb)(l:List Int):Prop:=∀h∈lv s,(ob s h).Strong<12->Mo s t h=(R4 l h:Int)
noncomputable instance(s:b6)(t:Tb)(l:List Int):Decidable (Uc s t l):=Classical.propDecidable _
section
variable{s:b6}(hR:xh (sO s)){t:Tb}(hT:HR t)
include hR hT
theorem Oi(h:Int):lj s t h=some (inr s t h:Int):=by
 unfold lj;have h1:=Og hR h;have h2:=Pm hT.l8 h;rw[Yl hR,a0A,Pn hT,a0A,V3 (by omega) (by omega)];unfold inr;simp
theorem VQ(h:Int):inr s t h<=104:=by
 have h1:=Og hR h;have h2:=Pm hT.l8 h;unfold inr;omega
omit hT in
theorem CC (hB:SB s) {h:Int} (hh:h∈lv s):0<=(ob s h).Strong/\(ob s h).Strong<=9223372036854775807:=by
 obtain⟨i,hi⟩:=(ig (A3.1 hR)).1 hh;rw[G2 (A3.1 hR) hi];refine⟨((A3.1 hR).ok i hi.1 (.inl hi.2.1)).st,?_⟩;rw[P4 hi.1];exact hB _ (zh _)
theorem Tt(hB:SB s){h:Int}(hh:h<=9223372036854775807):oa s t h=some (Mo s t h):=by
 unfold oa;obtain⟨e,h1,h2⟩:=iI hR hh;rw[h1,a0A];by_cases q:h∈lv s
 .have:=h2.2 q;subst this;have h3:=VQ hR hT h;have h4:=CC hR hB q;rw[za (by simp),Oi hR hT,a0A,V3 (by dsimp only;omega) (by dsimp only;omega)];unfold Mo;rw[zb q]
 .rw[zb (by simpa using λq2=>q (h2.1 q2))];unfold Mo;rw[za q]
omit hT in
theorem Yr {k:Nat} (hk:k<(lv s).length):(lv s)[k]<=9223372036854775807:=by
 have:=pE hR (zh hk);omega
theorem Sa(hB:SB s):nY s t=some (LK s t):=by
 unfold nY;simp only[jn];have h24:=N3 hR;rw[gN hR,a0A,V9 (lv s) (λb x=>if decide (0<Mo s t x\/12<=(ob s x).Strong) then b ++ [x] else b) id (λk b=>b.length<=k) (by omega) (by simp) (λk hk b hI=>?_) (λb _=>by simp),a0A]
 .rw[foldl_filter];rfl
 .have hm:=zh hk;have hle:=Yr hR hk;simp only[wn,hk,ww,we,u4 hk,a0A];rw[vH hR hm,a0A];unfold nZ pc J4;rw[Tt hR hT hB hle,a0A,a0A];by_cases q:0<Mo s t (lv s)[k]
  .rw[zE (show Mo s t (lv s)[k] > 0 from q)];simp only[show ((true==false):Bool)=false from rfl,Kj,a0A,Bool.true_or,we];rw[I6 (by omega) (by simp;omega),a0A,n9,zb (zE (.inl q))];exact⟨rfl,by simp;omega⟩
  .rw[zZ (show ¬Mo s t (lv s)[k] > 0 from q)];simp only[zW,bK,a0A,zcb];by_cases q2:12<=(ob s (lv s)[k]).Strong
   .rw[zb (zE q2),I6 (by omega) (by simp;omega),a0A,n9,zb (zE (.inr q2))];exact⟨rfl,by simp;omega⟩
   .rw[za (by simpa using q2),n9,za (by simp only[decide_eq_true_eq];exact λc=>c.elim q q2)];exact⟨rfl,by omega⟩
omit hT in
theorem Sb:(LK s t).length<=24:=zN (zA ..) (N3 hR)
omit hR hT in
theorem qv {h:Int}:h∈LK s t↔h∈lv s/\(0<Mo s t h\/12<=(ob s h).Strong):=by
 unfold LK;rw[zi,decide_eq_true_eq]
omit hT in
theorem VK:LB (LK s t):=λx hx=>by have:=pE hR (qv.1 hx).1;omega
theorem HV(hTB:TB t)(hF:FB s)(hB:SB s):dA s t=some (XG s t (LK s t)):=by
 unfold dA;have:=Sb hR (t:=t);rw[Sa hR hT hB,a0A,NN hR hT hTB hF (VK hR) (by omega)];rfl
end
abbrev TQ:=g8
def XL(q:TQ)(t:g5):TQ × Int:=if q.Cap<=q.L.length then (q,4) else (⟨q.L ++ [t],q.Cap⟩,0)
def TK(q:TQ):TQ × g5 × Int:=match q.L with
 | []=>(q,⟨0,0,0⟩,10)
 | t::l=>(⟨l,q.Cap⟩,t,0)
theorem UD{q:TQ}(t:g5)(h:q.L.length<=1000):qf q t=some (XL q t):=by
 unfold XL;unfold qf W8 M5 H8;simp only[a0A];by_cases c:q.Cap<=q.L.length
 .rw[zb (by simpa using c),zb c,a0A]
 .rw[za (by simpa using c),za c];have e:cut q.L 0 (q.L.length:Int)=some q.L:=by
   have:=vr (xs:=q.L) (i:=0) (j:=q.L.length) (zX _) (zG _);simpa using this
  rw[e,a0A,a0A,I6 (by omega) (by simp;omega),a0A,a0A]
theorem AJ{q:TQ}:bo q=some (TK q):=by
 unfold TK;unfold bo dc bA M5 H8;simp only[a0A];cases hl:q.L with
 | nil=>
  have e:cut ([]:List g5) 0 0=some []:=rfl;simp[e]
 | cons t l=>
  have hm:(if (if (((t::l).length:Nat):Int)<1 then (((t::l).length:Nat):Int) else 1) > 0 then (if (((t::l).length:Nat):Int)<1 then (((t::l).length:Nat):Int) else 1) else 0)=1:=by
   rw[za (show ¬(((t::l).length:Nat):Int)<1 by simp;omega)];simp
  rw[hm];have e1:cut (t::l) 0 1=some [t]:=by
   have:=vr (xs:=t::l) (i:=0) (j:=1) (zX _) (by simp);simpa using this
  have e2:cut (t::l) 1 (((t::l).length:Nat):Int)=some l:=by
   have:=vr (xs:=t::l) (i:=1) (j:=(t::l).length) (by simp) (zG _);simpa using this
  rw[e1,e2];simp[ix]
theorem LD{α β:Type}(p:α->Bool)(f:α->β)(l:List α)(k:Nat)(h:k<l.length):((l.take (k+1)).filter p).map f=((l.take k).filter p).map f++(if p l[k] then [f l[k]] else []):=by
 rw[zt h,zba,qr];congr 1;simp only[mt,List.filter_nil];split <;> rfl
theorem Qe{q:TQ}(h:q.L.length<=1000):gD q=some ((q.L.filter (·.Kind==1)).map (·.At)):=by
 unfold gD qI;simp only[jn,a0A];refine Z0 q.L.length (λk l=>l=((q.L.take k).filter (·.Kind==1)).map (·.At)) (by omega) (by simp) ?_ (λl hl=>⟨_,by simp;rfl,by rw[hl,zR]⟩);rintro k l hk rfl;left;rw[LD _ _ _ _ hk];simp only[wn,hk,ww,we,u4 hk,a0A];have hle:(List.map (·.At) (List.filter (·.Kind==1) (List.take k q.L))).length<=1000:=by
  rw[zl];exact zN (zA ..) (by simp;omega)
 by_cases c:(q.L[k].Kind==1)=true
 .rw[c,zb (by decide),I6 (by omega) (by simp only[zH,zah];omega),a0A,n9];exact⟨_,rfl,rfl⟩
 .have c:(q.L[k].Kind==1)=false:=by simpa using c
  rw[c,za (by decide),n9];exact⟨_,rfl,by simp⟩
theorem xX{q:TQ}{w:Int}(h:q.L.length<=1000):aS q w=some (q.L.any λt=>t.Kind==2&&t.At==w):=by
 unfold aS qI;simp only[jn,a0A];refine aK q.L.length (λk=>(q.L.take k).any (λt=>t.Kind==2&&t.At==w)=false) (by omega) (by simp) ?_ (λhl=>⟨.inr (),by simp,by rw[zR] at hl;rw[hl]⟩);intro k hk hP;simp only[wn,hk,ww,we,u4 hk,a0A];rw[zt hk,List.any_append,hP,zcb];by_cases c:(q.L[k].Kind==2)=true
 .rw[c,zb (by decide)];by_cases d:(q.L[k].At==w)=true
  .right;rw[d,zb rfl];refine⟨.inl true,rfl,?_⟩;simp only[zY];symm
   rw[List.any_eq_true];exact⟨_,zh hk,by rw[c,d];rfl⟩
  .have d:(q.L[k].At==w)=false:=by simpa using d
   left;rw[d,za (by decide),n9];exact⟨rfl,by simp[d]⟩
 .have c:(q.L[k].Kind==2)=false:=by simpa using c
  left;rw[c,za (by decide),n9];exact⟨rfl,by simp[c]⟩
theorem qw{l:List Int}(h:l.length<=100000):jX l l=some true:=by
 unfold jX;rw[za (by simp)];simp only[jn];refine aK l.length (λ_=>True) (by omega) trivial (λk hk _=>.inl ⟨?_,trivial⟩) (λ_=>⟨.inr (),by simp,rfl⟩);simp only[wn,hk,ww,we,u4 hk,a0A];rw[za (by simp),n9]
def YW(t:g5):A7:=⟨t.Kind,t.At,t.Prog⟩
def Xu(q:TQ):H2:=⟨q.L.map YW,q.Cap⟩
theorem WM{q:TQ}(h:q.L.length<=1000):pL (Xu q) (Xu q)=some true:=by
 unfold pL;have hl:(Xu q).L.length=q.L.length:=by simp[Xu]
 rw[za (by simp)];simp only[jn];refine aK (Xu q).L.length (λ_=>True) (by omega) trivial (λk hk _=>.inl ⟨?_,trivial⟩) (λ_=>⟨.inr (),by simp,rfl⟩);simp only[wn,hk,ww,we,u4 hk,a0A];rw[za (by simp),n9 (n:=k) (by omega)]
abbrev Hp:=b9
abbrev wS(x:Hp)(s:b6):Hp:=⟨s,x.Roots,x.b7,x.T,x.Q⟩
abbrev wR(x:Hp)(l:List Int):Hp:=⟨x.S,l,x.b7,x.T,x.Q⟩
abbrev wC(x:Hp)(l:List k8):Hp:=⟨x.S,x.Roots,l,x.T,x.Q⟩
abbrev wT(x:Hp)(t:Tb):Hp:=⟨x.S,x.Roots,x.b7,t,x.Q⟩
abbrev wQ(x:Hp)(q:TQ):Hp:=⟨x.S,x.Roots,x.b7,x.T,q⟩
def jy(l:List k8)(h:Int):Nat:=l.countP λc=>(h != 0)&&(c.Target==h)
def px(q:TQ):List Int:=(q.L.filter (·.Kind==1)).map (·.At)
def xe(q:TQ)(w:Int):Bool:=q.L.any λt=>t.Kind==2&&t.At==w
def oJ(x:Hp):List Int:=nz x.Roots++px x.Q
noncomputable def mb(x:Hp)(h:Int):Nat:=kD x.S h+own x.T h+R4 (oJ x) h
def I8(s:b6)(i:Nat)(c:c9):b6:=⟨⟨s.S.b7.set i c,s.S.Last⟩,s.Serial⟩
theorem W9(s:b6)(i:Nat)(c:c9):(I8 s i c).S.b7.length=s.S.b7.length:=by simp[I8]
theorem L6{s:b6}{i:Nat}(hi:i<s.S.b7.length)(c:c9)(j:Nat):ce (I8 s i c) j=if j=i then c else ce s j:=yH hi _ _ j
theorem SR.I8{s:b6}(hR:SR s){i:Nat}(hi:i<s.S.b7.length){c:c9}(h1:0<=c.State/\c.State<=3/\0<=c.Gen/\c.Gen<=s.S.Last)(h2:¬Th c->KX (oo c.Val))(h3:Th c->Bc s c.Val/\Th (ce s i)/\c.Val.Serial=(ce s i).Val.Serial):SR (I8 s i c):=by
 have key:∀j,Th (ce (Sh.I8 s i c) j)->Th (ce s j)/\(ce (Sh.I8 s i c) j).Val.Serial=(ce s j).Val.Serial:=λj hj=>by
  rw[L6 hi] at hj |-;split at hj
  .rename_i e;subst e;rw[zb rfl];exact (h3 hj).2
  .rename_i e;rw[za e];exact⟨hj,rfl⟩
 refine⟨by rw[W9];exact hR.len,hR.l0,hR.l9,hR.bC,λj hj=>?_,λj hj hn=>?_,λj hj hn=>?_,λj k hj hk a b e=>?_⟩
 .rw[W9] at hj;rw[L6 hi];split;·exact h1
  .exact hR.cell j hj
 .rw[W9] at hj;rw[L6 hi] at hn |-;split at hn
  .rename_i e;rw[zb e];exact h2 hn
  .rename_i e;rw[za e];exact hR.no j hj hn
 .rw[W9] at hj;rw[L6 hi] at hn |-;split at hn
  .rename_i e;rw[zb e];have:=(h3 hn).1;exact⟨this.s1,this.s2,this.st,this.wk,this.p1,this.p2,this.fl⟩
  .rename_i e;rw[za e];have:=hR.ok j hj hn;exact⟨this.s1,this.s2,this.st,this.wk,this.p1,this.p2,this.fl⟩
 .rw[W9] at hj hk;obtain⟨a1,a2⟩:=key j a;obtain⟨b1,b2⟩:=key k b;rw[a2,b2] at e;exact hR.dif j k hj hk a1 b1 e
theorem Fb{s:b6}{i:Nat}(hi:i<s.S.b7.length)(c:c9){h:Int}{j:Nat}(hj:j≠i):U9 (I8 s i c) h j↔U9 s h j:=by
 unfold U9;rw[W9,L6 hi,za hj]
theorem xI{s:b6}{i:Nat}(hi:i<s.S.b7.length)(c:c9){h:Int}{j:Nat}(hj:j≠i):At (I8 s i c) h j↔At s h j:=by
 unfold At;rw[W9,L6 hi,za hj]
theorem JV{s:b6}(hR:SR s){i:Nat}(hi:i<s.S.b7.length){c:c9}(hc:c.State≠1)(hR':SR (I8 s i c)):lv (I8 s i c)=(lv s).filter λh=>decide (E3 h≠i):=by
 have hno:∀h,¬At (I8 s i c) h i:=λh q=>by
  have:=q.2.1;rw[L6 hi,zb rfl] at this;exact hc this
 refine Ow hR hR' _ (λh=>?_) (λh j k q q'=>?_)
 .rw[zC];constructor
  .rintro⟨j,hj⟩;have hne:j≠i:=λe=>hno h (e▸hj);have:=(xI hi c hne).1 hj;exact⟨⟨j,this⟩,by rw[this.d.E3 hR];exact hne⟩
  .rintro⟨⟨j,hj⟩,hp⟩;rw[hj.d.E3 hR] at hp;exact⟨j,(xI hi c hp).2 hj⟩
 .have hne:j≠i:=λe=>hno h (e▸q);have q2:=(xI hi c hne).1 q;have:=U9.one hR q2.d q'.d;subst this;rw[L6 hi,za hne]
theorem Ki{s:b6}(hR:SR s){i:Nat}(hi:i<s.S.b7.length){c:c9}(hR':SR (I8 s i c)){k:Int}(hk:k∈lv s)(hp:E3 k≠i):ob (I8 s i c) k=ob s k:=by
 have q:=o5 hR hk;rw[G2 hR' ((xI hi c hp).2 q),G2 hR q,L6 hi,za hp]
structure Kn (s s':b6):Prop where
 sr:SR s'
 len:s'.S.b7.length=s.S.b7.length
 lv:lv s'=lv s
 ad:∀k i,U9 s' k i↔U9 s k i
 ob:∀k,k∈Sh.lv s->∃n m,ob s' k=⟨(ob s k).Serial,n,m,(ob s k).Prog,(ob s k).Started,(ob s k).Fields⟩
theorem wB.kn{s s':b6}(hR:SR s)(k:wB s s'):Kn s s':=⟨k.sr,k.len,k.lv,k.ad,λh hh=>by
 obtain⟨n,e⟩:=k.ob h (by have:=I7 hR hh;omega);exact⟨n,_,e⟩⟩
theorem Kn.kD{s s':b6}(k:Kn s s')(h:Int):kD s' h=kD s h:=by
 unfold Sh.kD;rw[k.lv];congr 1;refine zw λx hx=>?_;obtain⟨n,m,e⟩:=k.ob x hx;unfold Sh.outs;rw[e]
structure kH (x:Hp):Prop where
 sr:SR x.S
 hr:HR x.T
 r6:x.Roots.length=6
 c6:x.b7.length=6
 cap:x.Q.Cap=30
 q30:x.Q.L.length<=30
 tk:∀t∈x.Q.L,0<=t.Prog/\t.Prog<=5/\((t.Kind=1/\t.At∈lv x.S/\(ob x.S t.At).Started=true)\/(t.Kind=2/\0<=t.At/\t.At<=5))
 td:x.Q.L.Pairwise λa b=>¬(a.Kind=b.Kind/\a.At=b.At)
 rt:∀h∈x.Roots,h=0\/h∈lv x.S
 fl:∀h∈lv x.S,∀v∈(ob x.S h).Fields,v=0\/v∈lv x.S
 pr:∀k v,Has x.T k v->k∈lv x.S/\v∈lv x.S
 cl:∀i (hi:i<x.b7.length),-1<=x.b7[i].Call/\x.b7[i].Call<=5/\(x.b7[i].Target=0->x.b7[i].Intact=false)/\(x.b7[i].Target≠0->∃p,U9 x.S x.b7[i].Target p)/\(x.b7[i].Intact=true->x.b7[i].Target∈lv x.S/\xe x.Q i=false)
def Wk(x:Hp):Prop:=∀i,i<x.S.S.b7.length->Th (ce x.S i)->(ce x.S i).Val.Weak=(jy x.b7 (1+(i:Int)+32*(ce x.S i).Gen):Int)/\((ce x.S i).State=2->1<=(ce x.S i).Val.Weak/\(ce x.S i).Val.Fields = []/\(ce x.S i).Val.Strong=0)
def aT(x:Hp)(L:List Int):Prop:=∀h∈lv x.S,(ob x.S h).Strong<12->(ob x.S h).Strong=((mb x h+R4 L h:Nat):Int)
structure K1 (x:Hp):Prop where
 sh:kH x
 wk:Wk x
 fair:aT x []
theorem kH.of{x:Hp}(h:kH x){s':b6}(hS:SR s')(hl:lv s'=lv x.S)(hd:∀k i,U9 x.S k i->U9 s' k i)(hst:∀k∈lv x.S,(ob x.S k).Started=true->(ob s' k).Started=true)(hfl:∀k∈lv x.S,∀v∈(ob s' k).Fields,v=0\/v∈lv x.S):kH (wS x s'):=by
 refine⟨hS,h.hr,h.r6,h.c6,h.cap,h.q30,λt ht=>?_,h.td,λk hk=>?_,λk hk=>?_,λk v hkv=>?_,λi hi=>?_⟩
 .obtain⟨a,b,c⟩:=h.tk t ht;refine⟨a,b,?_⟩;rcases c with ⟨c1,c2,c3⟩ | c;·exact .inl ⟨c1,by rw[hl];exact c2,hst _ c2 c3⟩
  .exact .inr c
 .dsimp only;rw[hl];exact h.rt k hk
 .dsimp only at hk |-;rw[hl] at hk |-;exact hfl k hk
 .dsimp only;rw[hl];exact h.pr k v hkv
 .obtain⟨a,b,c,d,e⟩:=h.cl i hi;refine⟨a,b,c,λq=>?_,λq=>?_⟩
  .obtain⟨p,hp⟩:=d q;exact⟨p,hd _ _ hp⟩
  .dsimp only;rw[hl];exact e q
theorem kH.kn{x:Hp}(h:kH x){s':b6}(k:Kn x.S s'):kH (wS x s'):=by
 refine h.of k.sr k.lv (λj i q=>(k.ad j i).2 q) (λj hj q=>?_) (λj hj=>?_)
 .obtain⟨n,m,e⟩:=k.ob j hj;rw[e];exact q
 .obtain⟨n,m,e⟩:=k.ob j hj;rw[e];exact h.fl j hj
theorem kH.xm{x:Hp}(h:kH x){s':b6}(k:wB x.S s'):kH (wS x s'):=h.kn (k.kn h.sr)
theorem Wk.xm{x:Hp}(h:Wk x){s':b6}(k:wB x.S s'):Wk (wS x s'):=by
 intro i hi ht;dsimp only at hi ht |-;rw[k.len] at hi;obtain⟨a,b,c,d,e⟩:=k.ce i hi;unfold Th at ht;rw[a] at ht;obtain⟨f,g⟩:=h i hi ht;rw[a,b,c];refine⟨f,λq=>?_⟩;have e':=e (by omega);rw[<-c,e'];exact g q
theorem kH.roots{x:Hp}(h:kH x){l:List Int}(hl:l.length=6)(hr:∀v∈l,v=0\/v∈lv x.S):kH (wR x l):=⟨h.sr,h.hr,hl,h.c6,h.cap,h.q30,h.tk,h.td,hr,h.fl,h.pr,h.cl⟩
theorem kH.table{x:Hp}(h:kH x){t:Tb}(hr:HR t)(hp:∀k v,Has t k v->k∈lv x.S/\v∈lv x.S):kH (wT x t):=⟨h.sr,hr,h.r6,h.c6,h.cap,h.q30,h.tk,h.td,h.rt,h.fl,hp,h.cl⟩
def ab(c:Int):Int:=if 12<=c then 12 else if c<0 then 1 else c+1
def lx(c:Int):Int:=if 12<=c then 12 else if c<1 then c else c-1
theorem F2{c:Int}(h:0<=c):0<=ab c:=by unfold ab;split <;> (try split) <;> omega
theorem Q3{c:Int}(h:0<=c):0<=lx c:=by unfold lx;split <;> (try split) <;> omega
noncomputable def uV(x:Hp)(h:Int)(f:Int->Int):Hp:=if h∈lv x.S then wS x (dh x.S h (BB (ob x.S h) (f (ob x.S h).Strong))) else x
noncomputable def F3(x:Hp)(h:Int):Hp:=uV x h ab
noncomputable def aP(x:Hp)(h:Int):Hp:=uV x h lx
theorem AG(x:Hp)(h:Int)(f:Int->Int):uV x h f=wS x (uV x h f).S:=by
 unfold uV;split <;> rfl
theorem pR(x:Hp)(h:Int):F3 x h=wS x (F3 x h).S:=AG x h ab
theorem WY(x:Hp)(h:Int):aP x h=wS x (aP x h).S:=AG x h lx
section
variable{x:Hp}(hR:SR x.S)(h:Int){f:Int->Int}(hf:∀c,0<=c->0<=f c)
include hR hf
theorem I9:wB x.S (uV x h f).S:=by
 unfold uV;split
 .rename_i q;exact Sl hR q (hf _ (L1 hR q).st)
 .exact wB.refl hR
theorem wu{k:Int}(hk:k∈lv x.S):(ob (uV x h f).S k).Strong=if k=h then f (ob x.S k).Strong else (ob x.S k).Strong:=by
 unfold uV;split
 .rename_i q;dsimp only;have ho:Bc x.S (BB (ob x.S h) (f (ob x.S h).Strong)):=by
   have:=L1 hR q;exact⟨this.s1,this.s2,hf _ this.st,this.wk,this.p1,this.p2,this.fl⟩
  rw[gB (o:=BB (ob x.S h) (f (ob x.S h).Strong)) hR q rfl ho (by have:=I7 hR hk;omega)];split;·rename_i e;subst e;rfl
  .rfl
 .rename_i q;rw[za];intro e;subst e;exact q hk
theorem xW(k:Int):mb (uV x h f) k=mb x k:=by
 rw[AG];unfold mb oJ;dsimp only;rw[(I9 hR h hf).kD hR]
end
theorem kH.st{x:Hp}(h:kH x)(k:Int){f:Int->Int}(hf:∀c,0<=c->0<=f c):kH (uV x k f):=by
 rw[AG];exact h.xm (I9 h.sr k hf)
theorem Wk.st{x:Hp}(h:Wk x)(hR:SR x.S)(k:Int){f:Int->Int}(hf:∀c,0<=c->0<=f c):Wk (uV x k f):=by
 rw[AG];exact h.xm (I9 hR k hf)
theorem J0(h:Int):R4 [] h=0:=by unfold R4;split <;> rfl
theorem I1(v:Int)(L:List Int)(h:Int):R4 (v::L) h=R4 L h+if v=h/\h≠0 then 1 else 0:=by
 unfold R4;by_cases h0:h=0
 .simp[h0]
 .rw[za h0,za h0,zct];by_cases e:v=h
  .simp[e,h0]
  .simp[e]
theorem GF{x:Hp}(hR:SR x.S){L:List Int}(hf:aT x L)(v:Int):aT (F3 x v) (v::L):=by
 intro h hh hlt;unfold F3 at hh hlt |-;rw[(I9 hR v λc=>F2).lv] at hh;rw[wu hR v (λc=>F2) hh] at hlt |-;rw[xW hR v λc=>F2,I1];have h0:h≠0:=λe=>fp hR (e▸hh);have hp:=(L1 hR hh).st;by_cases e:h=v
 .subst e;rw[zb rfl] at hlt |-;have:=hf h hh (by unfold ab at hlt;split at hlt <;> omega);rw[zb ⟨rfl,h0⟩];unfold ab at hlt |-;split at hlt;·omega
  .rename_i q;rw[za q,za (by omega)];omega
 .rw[za e] at hlt |-;rw[za (λq=>e q.1.symm)];exact hf h hh hlt
theorem uM{x:Hp}(hR:SR x.S){L:List Int}{v:Int}(hf:aT x (v::L)):aT (aP x v) L:=by
 intro h hh hlt;unfold aP at hh hlt |-;rw[(I9 hR v λc=>Q3).lv] at hh;rw[wu hR v (λc=>Q3) hh] at hlt |-;rw[xW hR v λc=>Q3];have h0:h≠0:=λe=>fp hR (e▸hh);have hp:=(L1 hR hh).st;by_cases e:h=v
 .subst e;rw[zb rfl] at hlt |-;have:=hf h hh (by unfold lx at hlt;split at hlt <;> omega);rw[I1,zb ⟨rfl,h0⟩] at this;unfold lx at hlt |-;split at hlt;·omega
  .rename_i q;rw[za q,za (by omega)];omega
 .rw[za e] at hlt |-;have:=hf h hh hlt;rw[I1,za (λq=>e q.1.symm)] at this;exact this
theorem aT.mv{x x':Hp}{L L':List Int}(hf:aT x L)(hl:lv x'.S=lv x.S)(hs:∀h∈lv x.S,(ob x'.S h).Strong=(ob x.S h).Strong)(hn:∀h∈lv x.S,mb x' h+R4 L' h=mb x h+R4 L h):aT x' L':=by
 intro h hh hlt;rw[hl] at hh;rw[hs h hh] at hlt |-;rw[hf h hh hlt,hn h hh]
theorem xZ:∀ {l:List Int} {r:Nat} (hr:r<l.length) (h k:Int),R4 (l.set r h) k+R4 [l.getD r 0] k=R4 l k+R4 [h] k
 | [],_,hr,_,_=>by simp at hr
 | a::l,0,_,h,k=>by
  rw[List.set_cons_zero,List.getD_cons_zero,I1 h l,I1 a l,I1 a [],I1 h [],J0];omega
 | a::l,r+1,hr,h,k=>by
  rw[List.set_cons_succ,List.getD_cons_succ,I1 a,I1 a l];have:=xZ (l:=l) (r:=r) (by simpa using hr) h k;omega
theorem sK{x x1:Hp}(hx:K1 x){old new:Int}(h1:kH (F3 x new)->Wk (F3 x new)->kH x1/\Wk x1)
  (hl:lv x1.S=lv (F3 x new).S)(hs:∀h∈lv x.S,(ob x1.S h).Strong=(ob (F3 x new).S h).Strong)(hn:∀h∈lv x.S,mb x1 h+R4 [old] h=mb x h+R4 [new] h):K1 (aP x1 old):=by
 have l1:lv (F3 x new).S=lv x.S:=(I9 hx.sh.sr new λc=>F2).lv;have f1:aT (F3 x new) [new]:=GF hx.sh.sr hx.fair new;obtain⟨h2,w2⟩:=h1 (hx.sh.st new λc=>F2) (hx.wk.st hx.sh.sr new λc=>F2);have f2:aT x1 [old]:=f1.mv hl (λh hh=>hs h (l1▸hh)) λh hh=>by
  rw[hn h (l1▸hh)];unfold F3;rw[xW hx.sh.sr new λc=>F2]
 exact⟨h2.st _ λc=>Q3,w2.st h2.sr _ λc=>Q3,uM h2.sr f2⟩
noncomputable def G9(x:Hp)(r:Nat)(h:Int):Hp:=aP (wR (F3 x h) (x.Roots.set r h)) (x.Roots.getD r 0)
theorem bZ{x:Hp}(hx:K1 x){r:Nat}(hr:r<6){h:Int}(hh:h=0\/h∈lv x.S):K1 (G9 x r h):=by
 have l1:lv (F3 x h).S=lv x.S:=(I9 hx.sh.sr h λc=>F2).lv;refine sK hx (λa b=>⟨a.roots (by rw[zas];exact hx.sh.r6) (λv hv=>?_),b⟩) rfl (λ_ _=>rfl) (λk hk=>?_)
 .rw[l1];rcases zan hv with q | q
  .exact hx.sh.rt v q
  .exact q▸hh
 .have hi:=(I9 hx.sh.sr h λc=>F2).kD hx.sh.sr k;rw[pR];unfold mb oJ;dsimp only;rw[show kD (F3 x h).S k=kD x.S k from hi,G6,G6,qg,qg];have:=xZ (l:=x.Roots) (r:=r) (by rw[hx.sh.r6];exact hr) h k;omega
theorem KN{α:Type}:∀ {l:List α} (hn:l.Nodup) {a:α} (ha:a∈l) (f g:α->Nat) (h:∀x∈l,x≠a->f x=g x),(l.map g).sum+f a=(l.map f).sum+g a
 | [],_,_,ha,_,_,_=>by cases ha
 | b::l,hn,a,ha,f,g,h=>by
  rw[zaa] at hn;rw[zQ,zQ,zbc,zbc];rcases zM.1 ha with e | e
  .subst e;have:l.map g=l.map f:=zw λx hx=>(h x (zo _ hx) λe=>hn.1 (e▸hx)).symm;rw[this];omega
  .have:=KN hn.2 e f g λx hx=>h x (zo _ hx);have:=h b (zg ..) λq=>hn.1 (q▸e);omega
abbrev rZ(o:n8)(l:List Int):n8:=⟨o.Serial,o.Strong,o.Weak,o.Prog,o.Started,l⟩
theorem JM{s:b6}(hR:SR s){h:Int}(hh:h∈lv s){o:n8}(hs:o.Serial=(ob s h).Serial)(ho:Bc s o)(y:Int):kD (dh s h o) y+R4 (ob s h).Fields y=kD s y+R4 o.Fields y:=by
 have hle:=I7 hR hh;have:=KN (uh (A3.2 hR)) hh (λx=>R4 (outs s x) y) (λx=>R4 (outs (dh s h o) x) y) λx hx hne=>by
  have:=I7 hR hx;unfold outs;rw[gB hR hh hs ho (by omega),za hne]
 have e:R4 (outs (dh s h o) h) y=R4 o.Fields y:=by
  unfold outs;rw[gB hR hh hs ho (by omega),zb rfl,qg]
 have e2:R4 (outs s h) y=R4 (ob s h).Fields y:=qg _ _;rw[e,e2] at this;unfold kD;rw[iV hR hh hs ho];exact this
noncomputable def bS(x:Hp)(h:Int)(k:Nat)(v:Int):Hp:=aP (wS (F3 x v) (dh (F3 x v).S h (rZ (ob (F3 x v).S h) ((ob x.S h).Fields.set k v)))) ((ob x.S h).Fields.getD k 0)
theorem Dh{x:Hp}(hx:K1 x){h:Int}(hh:h∈lv x.S){k:Nat}(hk:k<(ob x.S h).Fields.length){v:Int}(hv:v=0\/v∈lv x.S):K1 (bS x h k v):=by
 have xm:=I9 hx.sh.sr v (f:=ab) λc=>F2;have l1:lv (F3 x v).S=lv x.S:=xm.lv;have hR1:SR (F3 x v).S:=xm.sr;have hh1:h∈lv (F3 x v).S:=by rw[l1];exact hh
 have hle:=I7 hx.sh.sr hh;have hof:(ob (F3 x v).S h).Fields=(ob x.S h).Fields:=by
  obtain⟨n,e⟩:=xm.ob h (by omega);show (ob (uV x v ab).S h).Fields=_;rw[e]
 have ho:Bc (F3 x v).S (rZ (ob (F3 x v).S h) ((ob x.S h).Fields.set k v)):=by
  have:=L1 hR1 hh1;refine⟨this.s1,this.s2,this.st,this.wk,this.p1,this.p2,?_⟩;have h4:=this.fl;rw[hof] at h4;simpa using h4
 have hob:∀j,j∈lv x.S->ob (dh (F3 x v).S h (rZ (ob (F3 x v).S h) ((ob x.S h).Fields.set k v))) j=if j=h then rZ (ob (F3 x v).S h) ((ob x.S h).Fields.set k v) else ob (F3 x v).S j:=λj hj=>by
  have:=I7 hx.sh.sr hj;exact gB (o:=rZ (ob (F3 x v).S h) ((ob x.S h).Fields.set k v)) hR1 hh1 rfl ho (by omega)
 refine sK hx (λa b=>⟨?_,?_⟩) (iV (o:=rZ (ob (F3 x v).S h) ((ob x.S h).Fields.set k v)) hR1 hh1 rfl ho) (λj hj=>?_) (λj hj=>?_)
 .refine a.of (cd (o:=rZ (ob (F3 x v).S h) ((ob x.S h).Fields.set k v)) hR1 hh1 rfl ho) (iV (o:=rZ (ob (F3 x v).S h) ((ob x.S h).Fields.set k v)) hR1 hh1 rfl ho) (λj i q=>(Ej (o:=rZ (ob (F3 x v).S h) ((ob x.S h).Fields.set k v)) hR1 hh1 rfl ho).2 q) (λj hj q=>?_) (λj hj u hu=>?_)
  .rw[hob j (l1▸hj)];split;·rename_i e;subst e;exact q
   .exact q
  .rw[hob j (l1▸hj)] at hu;split at hu
   .rename_i e;subst e;rcases zan hu with q | q
    .exact a.fl j hj u (by rw[hof];exact q)
    .rw[l1,q];exact hv
   .exact a.fl j hj u hu
 .intro i hi ht;dsimp only at hi ht |-;have hp:=o5 hR1 hh1;unfold dh at hi;rw[K6] at hi;have hce:=AD (o:=rZ (ob (F3 x v).S h) ((ob x.S h).Fields.set k v)) hR1 hh1 rfl ho i;rw[hce] at ht |-;split at ht
  .rename_i e;subst e;rw[zb rfl];have:=b _ hp.1 (.inl hp.2.1);dsimp only;refine⟨?_,λq=>absurd q (by rw[hp.2.1];decide)⟩;rw[<-this.1,G2 hR1 hp]
  .rename_i e;rw[za e];exact b i hi ht
 .rw[hob j hj];split;·rename_i e;subst e;rfl
  .rfl
 .have hi:=JM (o:=rZ (ob (F3 x v).S h) ((ob x.S h).Fields.set k v)) hR1 hh1 rfl ho j;have hi2:=xm.kD hx.sh.sr j;have hi2:kD (F3 x v).S j=kD x.S j:=hi2;rw[hi2,hof] at hi;dsimp only at hi;have:=xZ hk v j;have hrest:F3 x v=wS x (F3 x v).S:=pR x v;unfold mb oJ;dsimp only;rw[show (F3 x v).T=x.T by rw[hrest],show (F3 x v).Roots=x.Roots by rw[hrest],show (F3 x v).Q=x.Q by rw[hrest]];omega
theorem Pr{t:Tb}(hT:HR t){k v:Int}{r:Tb × Int × Int}(h:V5 t k v=some r)(h0:r.2.2=0):HR r.1/\(∀y,own r.1 y+R4 [r.2.1] y=own t y+R4 [v] y)/\∀k' v',Has r.1 k' v'->Has t k' v'\/(k'=k/\v'=v/\v≠0):=by
 obtain⟨r',e1,e2,_,e3⟩:=eh hT k v;rw[h] at e1;cases e1;refine⟨e2,?_⟩;have hos:∀(i:Nat) (p:g6) (y:Int),i<t.length->own (t.set i p) y+(if (pt t i).State=1/\(pt t i).Val=y/\y≠0 then 1 else 0)=own t y+if p.State=1/\p.Val=y/\y≠0 then 1 else 0:=λi p y hi=>by
  have key:∀q:g6,(if ((q.State==1)&&((y != 0)&&(q.Val==y)))=true then 1 else 0:Nat)=if q.State=1/\q.Val=y/\y≠0 then 1 else 0:=λq=>by
   by_cases c:q.State=1/\q.Val=y/\y≠0
   .rw[zb c,zb (by simp[c.1,c.2.1,c.2.2])]
   .rw[za c,za (by simp only[zy,ms,bne_iff_ne,ne_eq];exact λq=>c ⟨q.1,q.2.2,q.2.1⟩)]
  have:=Kp hi p y;rw[key,key] at this;exact this
 rcases e3 with ⟨_,rfl⟩ | ⟨hk,hv,⟨i,hi,rfl⟩ | ⟨hn,rfl⟩⟩ | ⟨hk,hv,⟨i,hi,rfl⟩ | ⟨d,hn,hd,hf,hp,rfl⟩ | ⟨hn,ha,rfl⟩⟩;·simp at h0
 .refine⟨λy=>?_,λk' v' q=>.inl ((tA hT hi k' v').1 q).2⟩;have:=hos i ⟨2,0,0⟩ y hi.1;rw[I1,I1,J0];subst hv;dsimp only at this |-;rw[za (show ¬((2:Int)=1/\(0:Int)=y/\y≠0) by omega)] at this;rw[za (show ¬((0:Int)=y/\y≠0) by omega)];simp only[hi.2.1,true_and] at this;omega
 .refine⟨λy=>?_,λk' v' q=>.inl q⟩;rw[hv]
 .refine⟨λy=>?_,λk' v' q=>?_⟩
  .have:=hos i ⟨1,k,v⟩ y hi.1;rw[I1,I1,J0];simp only[hi.2.1,true_and] at this;dsimp only;omega
  .rcases (xQ hT (.old i hi) rfl k' v').1 q with ⟨a,b⟩ | ⟨_,b⟩;·exact .inr ⟨a,b,hv⟩
   .exact .inl b
 .refine⟨λy=>?_,λk' v' q=>?_⟩
  .have:=hos d ⟨1,k,v⟩ y hd;rw[I1,I1,J0];dsimp only;rw[za (show ¬((0:Int)=y/\y≠0) by omega)];simp only[hf,false_and,true_and,q9] at this;omega
  .rcases (xQ hT hp rfl k' v').1 q with ⟨a,b⟩ | ⟨_,b⟩;·exact .inr ⟨a,b,hv⟩
   .exact .inl b
 .simp at h0
noncomputable def ja(x:Hp)(v:Int)(t:Tb)(old:Int):Hp:=aP (wT (F3 x v) t) old
theorem Gj{x:Hp}(hx:K1 x){k v:Int}(hk:k∈lv x.S)(hv:v=0\/v∈lv x.S){r:Tb × Int × Int}(h:V5 x.T k v=some r)(h0:r.2.2=0):K1 (ja x v r.1 r.2.1):=by
 have xm:=I9 hx.sh.sr v (f:=ab) λc=>F2;have l1:lv (F3 x v).S=lv x.S:=xm.lv;obtain⟨p1,p2,p3⟩:=Pr hx.sh.hr h h0;refine sK hx (λa b=>⟨a.table p1 λk' v' q=>?_,b⟩) rfl (λ_ _=>rfl) (λj hj=>?_)
 .rw[l1];rcases p3 k' v' q with q | ⟨rfl,rfl,hne⟩
  .exact hx.sh.pr k' v' q
  .exact⟨hk,hv.resolve_left hne⟩
 .have hi2:kD (F3 x v).S j=kD x.S j:=xm.kD hx.sh.sr j;have hrest:F3 x v=wS x (F3 x v).S:=pR x v;unfold mb oJ;dsimp only;rw[show (F3 x v).Roots=x.Roots by rw[hrest],show (F3 x v).Q=x.Q by rw[hrest],hi2];have:=p2 j;omega
instance(s:b6)(h:Int)(i:Nat):Decidable (U9 s h i):=by unfold U9;infer_instance
abbrev Zz(o:n8)(n:Int):n8:=⟨o.Serial,o.Strong,n,o.Prog,o.Started,o.Fields⟩
def lV(s:b6)(i:Nat)(d:Int):b6:=gh s i (Zz (ce s i).Val ((ce s i).Val.Weak+d))
def EG(s:b6)(i:Nat):b6:=I8 s i (if (ce s i).Gen=s.S.Last then ⟨3,(ce s i).Gen,z0⟩ else ⟨0,(ce s i).Gen+1,z0⟩)
def cy(s:b6)(i:Nat):Int:=1+(i:Int)+32*(ce s i).Gen
theorem xF{s:b6}{i:Nat}(hi:i<s.S.b7.length)(ht:Th (ce s i)):U9 s (cy s i) i:=⟨hi,ht,rfl⟩
theorem tV{s:b6}(hR:SR s){i:Nat}(hi:i<s.S.b7.length):1<=cy s i:=by
 have:=hR.cell i hi;unfold cy;omega
section
variable{s:b6}(hR:SR s){i:Nat}(hi:i<s.S.b7.length)(ht:Th (ce s i))
include hR hi ht
theorem vL{d:Int}(hd:0<=(ce s i).Val.Weak+d):SR (lV s i d):=by
 have:=hR.ok i hi ht;exact hR.put hi ht rfl ⟨this.s1,this.s2,this.st,hd,this.p1,this.p2,this.fl⟩
theorem fw(d:Int)(j:Nat):ce (lV s i d) j=if j=i then ⟨(ce s i).State,(ce s i).Gen,Zz (ce s i).Val ((ce s i).Val.Weak+d)⟩ else ce s j:=mZ hi _ j
theorem nw{d:Int}(hd:0<=(ce s i).Val.Weak+d):Kn s (lV s i d):=by
 have hS:=vL hR hi ht hd;refine⟨hS,K6 ..,Ov hR hi rfl hS,λk j=>xG hi _,λk hk=>?_⟩;have q:=o5 hR hk;rw[G2 hS ((ym hi _).2 q),G2 hR q,fw hR hi ht];split
 .rename_i e;rw[e];exact⟨_,_,rfl⟩
 .exact⟨_,_,rfl⟩
theorem nx{d:Int}(hd:0<=(ce s i).Val.Weak+d){k:Int}(hk:k∈lv s):(ob (lV s i d) k).Strong=(ob s k).Strong:=by
 have hS:=vL hR hi ht hd;have q:=o5 hR hk;rw[G2 hS ((ym hi _).2 q),G2 hR q,fw hR hi ht];split
 .rename_i e;rw[e]
 .rfl
omit ht in
theorem Ds:SR (EG s i):=by
 have hc:=hR.cell i hi;have no:KX (oo z0):=⟨rfl,rfl,rfl,rfl,rfl,rfl⟩;unfold EG;split;·exact hR.I8 hi ⟨by simp,by simp,hc.2.2.1,hc.2.2.2⟩ (λ_=>no) (λq=>absurd q (by unfold Th;simp))
 .refine hR.I8 hi ⟨by simp,by simp,?_,?_⟩ (λ_=>no) (λq=>absurd q (by unfold Th;simp));·show 0<=(ce s i).Gen+1;omega
  .show (ce s i).Gen+1<=s.S.Last;omega
omit hR ht in
theorem Dp:∃c,(c.State=0\/c.State=3)/\EG s i=I8 s i c/\∀j,ce (EG s i) j=if j=i then c else ce s j:=by
 unfold EG;split;·exact⟨_,.inr rfl,rfl,λj=>L6 hi _ j⟩
 .exact⟨_,.inl rfl,rfl,λj=>L6 hi _ j⟩
omit ht in
theorem Dq (h2:(ce s i).State=2):lv (EG s i)=lv s:=by
 obtain⟨c,c1,c2,_⟩:=Dp (s:=s) hi;have hS:=Ds hR hi;rw[c2] at hS |-;rw[JV hR hi (by omega) hS,zbi];intro h hh;rw[zC];intro e;have:=(o5 hR hh).2.1;rw[e] at this;omega
omit ht in
theorem Dr (h2:(ce s i).State=2) {k:Int} (hk:k∈lv s):ob (EG s i) k=ob s k:=by
 obtain⟨c,c1,c2,_⟩:=Dp (s:=s) hi;have hS:=Ds hR hi;rw[c2] at hS |-;refine Ki hR hi hS hk λe=>?_;have:=(o5 hR hk).2.1;rw[e] at this;omega
omit ht in
theorem VE {k:Int} {j:Nat}:U9 (EG s i) k j↔U9 s k j/\j≠i:=by
 obtain⟨c,c1,c2,c3⟩:=Dp (s:=s) hi;by_cases e:j=i
 .subst e;constructor
  .rintro⟨_,h,_⟩;rw[c3,zb rfl] at h;unfold Th at h;omega
  .rintro⟨_,h⟩;exact absurd rfl h
 .rw[c2,Fb hi c e];simp[e]
theorem RZ(h2:(ce s i).State=2)(y:Int):kD (EG s i) y=kD s y:=by
 unfold kD;rw[Dq hR hi h2];congr 1;refine zw λx hx=>?_;unfold outs;rw[Dr hR hi h2 hx]
end
def iN(x:Hp)(h:Int)(d:Int):Hp:=if U9 x.S h (E3 h) then wS x (lV x.S (E3 h) d) else x
def qh(x:Hp)(h:Int):Hp:=
 if U9 x.S h (E3 h) then
  (if (ce x.S (E3 h)).State=2/\(ce x.S (E3 h)).Val.Weak=1 then wS x (EG (lV x.S (E3 h) (-1)) (E3 h)) else wS x (lV x.S (E3 h) (-1)))
 else x
abbrev fV(h call:Int):k8:=⟨h,h != 0,call⟩
def mD(x:Hp)(w:Nat):Int:=(x.b7.getD w ⟨0,false,0⟩).Target
def cW(x:Hp)(w:Nat)(h call:Int):Hp:=qh (iN (wC x (x.b7.set w (fV h call))) h 1) (mD x w)
theorem Kd{l:List k8}{w:Nat}(hw:w<l.length)(c:k8){k:Int}(hk:k≠0):jy (l.set w c) k+(if l[w].Target=k then 1 else 0)=jy l k+if c.Target=k then 1 else 0:=by
 unfold jy;rw[List.countP_set hw];have e:∀d:k8,(((k != 0)&&(d.Target==k))=true)=(d.Target=k):=λd=>by simp[hk]
 simp only[e];have:(if l[w].Target=k then 1 else 0)<=l.countP λc=>(k != 0)&&(c.Target==k):=by
  split
  .rename_i q;exact zbw.2 ⟨l[w],zh hw,by simp[q,hk]⟩
  .exact zX _
 omega
theorem uz{l:List k8}{i:Nat}(hi:i<l.length)(h0:l[i].Target≠0):0<jy l l[i].Target:=zbw.2 ⟨l[i],zh hi,by simp[h0]⟩
theorem wZ{x:Hp}(hx:K1 x){w:Nat}(hw:w<6){h call:Int}(hh:h=0\/h∈lv x.S)(hc : -1<=call/\call<=5)(hq:xe x.Q w=false):K1 (cW x w h call):=by
 have hR:=hx.sh.sr;have hwl:w<x.b7.length:=by rw[hx.sh.c6];exact hw
 have htg:mD x w=x.b7[w].Target:=by
  unfold mD;rw[zd,zc hwl];rfl
 have s1:kH (wC x (x.b7.set w (fV h call))):=by
  have:=hx.sh;refine⟨this.sr,this.hr,this.r6,by simpa using this.c6,this.cap,this.q30,this.tk,this.td,this.rt,this.fl,this.pr,λi hi=>?_⟩;dsimp only at hi |-;rw[zcr];rw[zas] at hi;split
  .rename_i e;subst e;dsimp only;refine⟨hc.1,hc.2,λq=>by simp[q],λq=>?_,λq=>?_⟩;·exact⟨_,(o5 hR (hh.resolve_left q)).d⟩
   .have q:h≠0:=by simpa using q
    exact⟨hh.resolve_left q,hq⟩
  .exact this.cl i hi
 have k2:∃s2,iN (wC x (x.b7.set w (fV h call))) h 1=wS (wC x (x.b7.set w (fV h call))) s2/\Kn x.S s2/\(∀k∈lv x.S,(ob s2 k).Strong=(ob x.S k).Strong) /\
   ∀i,i<x.S.S.b7.length->(ce s2 i).State=(ce x.S i).State/\(ce s2 i).Gen=(ce x.S i).Gen/\(ce s2 i).Val.Fields=(ce x.S i).Val.Fields/\(ce s2 i).Val.Strong=(ce x.S i).Val.Strong/\(Th (ce x.S i)->(ce s2 i).Val.Weak=(ce x.S i).Val.Weak+if h=cy x.S i then 1 else 0):=by
  unfold iN;rcases hh with h0 | hh
  .have hno:¬U9 x.S h (E3 h):=λq=>by have:=q.Ml hR;omega
   rw[za hno];refine⟨x.S,rfl,(wB.refl hR).kn hR,λ_ _=>rfl,λi hi=>⟨rfl,rfl,rfl,rfl,λht=>?_⟩⟩;have:=tV hR hi;rw[za (by omega)];omega
  .have hp:=o5 hR hh;have hwk:=(hR.ok _ hp.1 (.inl hp.2.1)).wk;rw[zb hp.d];refine⟨_,rfl,nw hR hp.1 (.inl hp.2.1) (by omega),λk hk=>nx hR hp.1 (.inl hp.2.1) (by omega) hk,λi hi=>?_⟩;rw[fw hR hp.1 (.inl hp.2.1)];split
   .rename_i e;subst e;refine⟨rfl,rfl,rfl,rfl,λ_=>?_⟩;rw[zb (show h=cy x.S (E3 h) from hp.2.2)]
   .rename_i e;refine⟨rfl,rfl,rfl,rfl,λht=>?_⟩;rw[za];·omega
    .intro q;exact e (U9.one hR (q▸xF hi ht) hp.d)
 obtain⟨s2,e2,kn2,st2,ce2⟩:=k2;have hR2:=kn2.sr;have len2:=kn2.len;have hS2:kH (wS (wC x (x.b7.set w (fV h call))) s2):=s1.kn kn2;have hdl2:∀i,i<x.S.S.b7.length->cy s2 i=cy x.S i:=λi hi=>by unfold cy;rw[(ce2 i hi).2.1]
 have th2:∀i,i<x.S.S.b7.length->(Th (ce s2 i)↔Th (ce x.S i)):=λi hi=>by unfold Th;rw[(ce2 i hi).1]
 have wk2:∀i,i<x.S.S.b7.length->Th (ce x.S i)->(ce s2 i).Val.Weak=(jy (x.b7.set w (fV h call)) (cy x.S i):Int)+if mD x w=cy x.S i then 1 else 0:=λi hi ht=>by
  have h0:cy x.S i≠0:=by have:=tV hR hi;omega
  have:=Kd hwl (fV h call) h0;rw[(ce2 i hi).2.2.2.2 ht,(hx.wk i hi ht).1,htg];dsimp only at this;unfold cy at this |-;by_cases a:h=1+(i:Int)+32*(ce x.S i).Gen <;> by_cases b:x.b7[w].Target=1+(i:Int)+32*(ce x.S i).Gen
  .rw[zb a,zb b] at *;omega
  .rw[zb a,za b] at *;omega
  .rw[za a,zb b] at *;omega
  .rw[za a,za b] at *;omega
 have dd2:∀i,i<x.S.S.b7.length->(ce s2 i).State=2->(ce s2 i).Val.Fields = []/\(ce s2 i).Val.Strong=0:=λi hi q=>by
  obtain⟨a,_,b,c,_⟩:=ce2 i hi;rw[a] at q;rw[b,c];exact ((hx.wk i hi (.inr q)).2 q).2
 have nms2:∀k,mb (wS (wC x (x.b7.set w (fV h call))) s2) k=mb x k:=λk=>by
  unfold mb oJ;dsimp only;rw[kn2.kD]
 have fair2:aT (wS (wC x (x.b7.set w (fV h call))) s2) []:=hx.fair.mv kn2.lv st2 λk _=>by rw[nms2]
 unfold cW;rw[e2];unfold qh;dsimp only;by_cases hold:mD x w=0
 .have hno:¬U9 s2 (mD x w) (E3 (mD x w)):=λq=>by have:=q.Ml hR2;omega
  rw[za hno];refine⟨hS2,λi hi ht=>?_,fair2⟩;dsimp only at hi ht |-;rw[len2] at hi;have ht':=(th2 i hi).1 ht;have h0:=tV hR hi;have hw2:=wk2 i hi ht';rw[za (by omega)] at hw2;rw[show (1+(i:Int)+32*(ce s2 i).Gen)=cy x.S i from hdl2 i hi];refine⟨by omega,λq=>⟨?_,dd2 i hi q⟩⟩;have q':(ce x.S i).State=2:=by rw[<-(ce2 i hi).1];exact q
  have:=((hx.wk i hi ht').2 q').1;rw[(ce2 i hi).2.2.2.2 ht'];split <;> omega
 .obtain⟨p,hp⟩:∃p,U9 x.S (mD x w) p:=by
   rw[htg] at hold |-;exact (hx.sh.cl w hwl).2.2.2.1 hold
  have hpp:=hp.E3 hR;have hp2:U9 s2 (mD x w) p:=(kn2.ad _ _).2 hp;have hth:mD x w=cy x.S p:=hp.2.2;rw[hpp,zb hp2];have hpl2:=hp2.1;have hw2:=wk2 p hp.1 hp.2.1;rw[zb hth] at hw2;have hd:0<=(ce s2 p).Val.Weak+(-1):=by omega
  have kn3:=nw hR2 hpl2 hp2.2.1 hd;have hR3:=kn3.sr;have ce3:=fw hR2 hpl2 hp2.2.1 (-1);have hS3:kH (wS (wC x (x.b7.set w (fV h call))) (lV s2 p (-1))):=hS2.kn kn3;have fair3:aT (wS (wC x (x.b7.set w (fV h call))) (lV s2 p (-1))) []:=fair2.mv kn3.lv (λk hk=>nx hR2 hpl2 hp2.2.1 hd hk) λk _=>by
   unfold mb oJ;dsimp only;rw[kn3.kD]
  have wk3:∀i,i<x.S.S.b7.length->Th (ce x.S i)->(ce (lV s2 p (-1)) i).Val.Weak=(jy (x.b7.set w (fV h call)) (cy x.S i):Int):=λi hi ht=>by
   rw[ce3];by_cases e:i=p
   .subst e;rw[zb rfl];dsimp only;omega
   .rw[za e,wk2 i hi ht,za];·omega
    .intro q;exact e (U9.one hR (q▸xF hi ht) hp)
  have cs3:∀i,(ce (lV s2 p (-1)) i).State=(ce s2 i).State/\(ce (lV s2 p (-1)) i).Gen=(ce s2 i).Gen/\(ce (lV s2 p (-1)) i).Val.Fields=(ce s2 i).Val.Fields/\(ce (lV s2 p (-1)) i).Val.Strong=(ce s2 i).Val.Strong:=λi=>by
   rw[ce3];split
   .rename_i e;subst e;exact⟨rfl,rfl,rfl,rfl⟩
   .exact⟨rfl,rfl,rfl,rfl⟩
  by_cases hg:(ce s2 p).State=2/\(ce s2 p).Val.Weak=1
  .-- the slot is given back
   rw[zb hg];have hpl3:p<(lV s2 p (-1)).S.b7.length:=by rw[kn3.len];exact hpl2
   have h23:(ce (lV s2 p (-1)) p).State=2:=by rw[(cs3 p).1];exact hg.1
   have hn0:jy (x.b7.set w (fV h call)) (mD x w)=0:=by rw[hth];omega
   have hlv:=Dq hR3 hpl3 h23;have hob:=λk hk=>Dr (k:=k) hR3 hpl3 h23 hk;obtain⟨c,c1,c2,c3⟩:=Dp (s:=lV s2 p (-1)) hpl3;refine⟨⟨Ds hR3 hpl3,hS3.hr,hS3.r6,hS3.c6,hS3.cap,hS3.q30,λt htt=>?_,hS3.td,λv hv=>?_,λv hv u hu=>?_,λk v hkv=>?_,λi hi=>?_⟩,λi hi ht=>?_,?_⟩
   .obtain⟨a,b,d⟩:=hS3.tk t htt;refine⟨a,b,?_⟩;dsimp only at d |-;rw[hlv];rcases d with ⟨d1,d2,d3⟩ | d;·exact .inl ⟨d1,d2,by rw[hob _ d2];exact d3⟩
    .exact .inr d
   .dsimp only;rw[hlv];exact hS3.rt v hv
   .dsimp only at hv hu |-;rw[hlv] at hv |-;rw[hob _ hv] at hu;exact hS3.fl v hv u hu
   .dsimp only;rw[hlv];exact hS3.pr k v hkv
   .obtain⟨a1,a2,a3,a4,a5⟩:=hS3.cl i hi;refine⟨a1,a2,a3,λq=>?_,λq=>?_⟩
    .obtain⟨j,hj⟩:=a4 q;refine⟨j,(VE hR3 hpl3).2 ⟨hj,λe=>?_⟩⟩;subst e;have e1:=(kn2.ad _ _).1 ((kn3.ad _ _).1 hj);have e2:(x.b7.set w (fV h call))[i].Target=mD x w:=e1.2.2.trans hp.2.2.symm;have:=uz hi q;dsimp only at this;rw[e2] at this;omega
    .dsimp only;rw[hlv];exact a5 q
   .dsimp only at hi ht |-;rw[show (EG (lV s2 p (-1)) p).S.b7.length=x.S.S.b7.length by rw[c2,W9,kn3.len,len2]] at hi;rw[c3] at ht |-;split at ht;·unfold Th at ht;omega
    .rename_i e;rw[za e];have ht':Th (ce x.S i):=(th2 i hi).1 (by unfold Th at ht |-;rw[(cs3 i).1] at ht;exact ht);have:=wk3 i hi ht';rw[show (1+(i:Int)+32*(ce (lV s2 p (-1)) i).Gen)=cy x.S i by rw[(cs3 i).2.1];exact hdl2 i hi];refine⟨this,λq=>?_⟩;rw[(cs3 i).1] at q;rw[(cs3 i).2.2.1,(cs3 i).2.2.2,ce3,za e];refine⟨?_,dd2 i hi q⟩;have q':(ce x.S i).State=2:=by rw[<-(ce2 i hi).1];exact q
     have:=((hx.wk i hi ht').2 q').1;rw[(ce2 i hi).2.2.2.2 ht'];split <;> omega
   .refine fair3.mv hlv (λk hk=>by rw[hob k hk]) λk _=>?_;unfold mb oJ;dsimp only;rw[RZ hR3 hpl3 (.inr h23) h23]
  .rw[za hg];refine⟨hS3,λi hi ht=>?_,fair3⟩;dsimp only at hi ht |-;rw[kn3.len,len2] at hi;have ht':Th (ce x.S i):=(th2 i hi).1 (by unfold Th at ht |-;rw[(cs3 i).1] at ht;exact ht);have:=wk3 i hi ht';rw[show (1+(i:Int)+32*(ce (lV s2 p (-1)) i).Gen)=cy x.S i by rw[(cs3 i).2.1];exact hdl2 i hi];refine⟨this,λq=>?_⟩;rw[(cs3 i).1] at q;rw[(cs3 i).2.2.1,(cs3 i).2.2.2];refine⟨?_,dd2 i hi q⟩;rw[ce3];split
   .rename_i e;subst e;dsimp only;have:(ce s2 i).Val.Weak≠1:=λq2=>hg ⟨q,q2⟩;omega
   .have q':(ce x.S i).State=2:=by rw[<-(ce2 i hi).1];exact q
    have:=((hx.wk i hi ht').2 q').1;rw[(ce2 i hi).2.2.2.2 ht'];split <;> omega
def XM(c:k8):w9:=⟨c.Target,c.Intact,c.Call⟩
def hO(x:Hp):mo:=⟨sO x.S,x.Roots,x.b7.map XM,x.T.map fk,Xu x.Q⟩
structure HB (x:Hp):Prop where
 sb:SB x.S
 fb:FB x.S
 rb:LB x.Roots
 cb:∀c∈x.b7,c.Target<=9223372036854775807
 tb:TB x.T
 qb:∀t∈x.Q.L,t.At<=9223372036854775807
theorem XX{R:Type}{f:Int->Option (Int ⊕ (Bool ⊕ Unit))}{κ:Bool ⊕ Unit->Option R}{Q:R->Prop}(n:Nat)(p:Nat->Prop)(hn:n<4611686018427387904)
  (hs:∀k:Nat,k<n->∃z,f (k:Int)=some z/\((p k/\z = .inl ((k+1:Nat):Int))\/(¬p k/\z = .inr (.inl false))))(he:f (n:Int)=some (.inr (.inr ())))
  (h1:(∀k,k<n->p k)->∃r,κ (.inr ())=some r/\Q r)(h0:(¬∀k,k<n->p k)->∃r,κ (.inl false)=some r/\Q r):∃r,(lp f 0).bind κ=some r/\Q r:=by
 obtain⟨e,e1,e2⟩:=Ci (f:=f) n (λk=>∀j,j<k->p j) (λe=>(e = .inr ()/\∀k,k<n->p k)\/(e = .inl false/\¬∀k,k<n->p k)) hn (λj hj=>by omega) (λk hk hP=>by
  obtain⟨z,z1,z2⟩:=hs k hk;rcases z2 with ⟨a,rfl⟩ | ⟨a,rfl⟩
  .refine .inl ⟨z1,λj hj=>?_⟩;rcases zF j k with q | q
   .exact hP j q
   .have:j=k:=by omega
    subst this;exact a
  .exact .inr ⟨_,z1,.inr ⟨rfl,λq=>a (q k hk)⟩⟩) (λhP=>⟨_,he,.inl ⟨rfl,hP⟩⟩)
 rw[e1];rcases e2 with ⟨rfl,h⟩ | ⟨rfl,h⟩;·exact h1 h
 .exact h0 h
section
variable{x:Hp}(hR:SR x.S)
include hR
theorem Oj{h:Int}(hh:h<=9223372036854775807):kR x h=some (decide (h∈lv x.S)):=by
 unfold kR;obtain⟨e,h1,h2⟩:=iI (A3.2 hR) hh;rw[h1,a0A];congr 1;rw[zbj,ms,zC,h2]
theorem O2{h:Int}(hh:h<=9223372036854775807):O9 x h=some (decide (h=0\/h∈lv x.S)):=by
 unfold O9;by_cases q:h=0
 .subst q;simp[A6]
 .have e:(h==0)=false:=by simpa using q
  rw[e];simp only[zW,bK,zcb];rw[Oj hR hh,a0A];simp[q]
theorem VN{c:Int}(hc:c<=9223372036854775807):qq c=some (ab c):=by
 unfold qq jL J4 ab;simp only[a0A];by_cases q:12<=c
 .rw[zb (by simpa using q),zb q,a0A]
 .rw[za (by simpa using q),za q,a0A];by_cases q2:c<0
  .rw[zb (show 0 > c from q2),zb q2];rfl
  .rw[za (show ¬0 > c from q2),za q2,V3 (by omega) (by omega)]
omit hR in
theorem PA {s:b6} (hR:SR s) {h:Int} (hh:h∈lv s) {n:Int} (hn:0<=n):U0 s h (BB (ob s h) n)=some (dh s h (BB (ob s h) n),0):=by
 have:=L1 hR hh;exact xU (o:=BB (ob s h) n) hR hh rfl ⟨this.s1,this.s2,hn,this.wk,this.p1,this.p2,this.fl⟩
theorem mr{h:Int}(hh:h<=9223372036854775807)(hB:∀k∈lv x.S,(ob x.S k).Strong<=9223372036854775807):bT x h=some (F3 x h):=by
 unfold bT Z9 F3 uV;obtain⟨e,h1,h2⟩:=iI (A3.2 hR) hh;rw[h1,a0A];by_cases q:h∈lv x.S
 .have e0:=h2.2 q;subst e0;rw[zb q,VN hR (hB h q)];simp only[zW,we,a0A];have:=PA hR q (F2 (L1 hR q).st);rw[this];rfl
 .have:(e==0)=false:=by simpa using λc=>q (h2.1 c)
  rw[this,za q];rfl
omit hR in
theorem Vq (c:Int) (h1 : -1000000<=c):fh c=some (lx c):=by
 unfold fh vq gp J4 lx;simp only[a0A];by_cases q:12<=c
 .rw[zb (by simpa using q),zb q];rfl
 .rw[za (by simpa using q),za q];by_cases q2:c<1
  .rw[zb (by simpa using q2),zb q2];rfl
  .rw[za (by simpa using q2),za q2,V3 (by omega) (by omega)];rfl
theorem gA{h:Int}(hh:h<=9223372036854775807):E8 x h=some (aP x h):=by
 unfold E8 Q6 aP uV;obtain⟨e,h1,h2⟩:=iI (A3.2 hR) hh;rw[h1,a0A];by_cases q:h∈lv x.S
 .have e0:=h2.2 q;subst e0;have ok:=L1 hR q;rw[zb q,Vq _ (by have:=ok.st;dsimp only;omega)];simp only[zW,we,a0A];have:=PA hR q (Q3 ok.st);rw[this];rfl
 .have:(e==0)=false:=by simpa using λc=>q (h2.1 c)
  rw[this,za q];rfl
end
theorem My{x:Hp}(hR:SR x.S)(hB:SB x.S):∀k∈lv x.S,(ob x.S k).Strong<=9223372036854775807:=λk hk=>(CC (A3.2 hR) hB hk).2
theorem uP(x:Hp)(h:Int):(F3 x h).Roots=x.Roots/\(F3 x h).b7=x.b7/\(F3 x h).T=x.T/\(F3 x h).Q=x.Q:=by
 rw[pR];exact⟨rfl,rfl,rfl,rfl⟩
theorem kg{x:Hp}(hR:SR x.S)(h:Int):SR (F3 x h).S:=(I9 hR h λc=>F2).sr
section
variable{x:Hp}(hx:K1 x)(hS:∀k∈lv x.S,(ob x.S k).Strong<=9223372036854775807)
include hx hS
theorem ug{h:Int}(hh:h=0\/h∈lv x.S):h<=9223372036854775807:=by
 rcases hh with q | q
 .omega
 .have:=I7 hx.sh.sr q;omega
theorem KE(k:Int){h:Int}(hh:h<=9223372036854775807):cD x k h=some (if k<0\/5<k then (x,6) else if h=0\/h∈lv x.S then (G9 x k.toNat h,0) else (x,3)):=by
 have hR:=hx.sh.sr;have r6:=hx.sh.r6;unfold cD;by_cases hk:k<0\/5<k
 .rw[zb hk,zb (by rw[r6];simp;omega)]
 .rw[za hk,za (by rw[r6];simp;omega),O2 hR hh,a0A];by_cases hn:h=0\/h∈lv x.S
  .rw[zb hn,zE hn,za (by simp)];obtain⟨n,rfl⟩:∃n:Nat,k=n:=⟨k.toNat,by omega⟩;have hn6:n<6:=by omega
   have hnl:n<x.Roots.length:=by omega
   have old:x.Roots[n]<=9223372036854775807:=ug hx hS (hx.sh.rt _ (zh hnl));have e1:=uP x h;have hn2:n<(F3 x h).Roots.length:=by rw[e1.1];exact hnl
   rw[u4 hnl,a0A];unfold H5 U2 y7;rw[mr hR hh hS,a0A];dsimp only;rw[cu (by omega) (by rw[e1.1];omega),a0A,u4 hn2,a0A,a0A];have hrel:=gA (x:=wR (F3 x h) (x.Roots.set n h)) (kg hR h) old;rw[zT,e1.1,show E8 ⟨(F3 x h).S,x.Roots.set n h,(F3 x h).b7,(F3 x h).T,(F3 x h).Q⟩ x.Roots[n]=_ from hrel];unfold G9;rw[zd,zc hnl];rfl
  .rw[za hn,zZ hn,zb (by simp)]
omit hx hS in
theorem ZD {l:List Int} {n:Nat} (hn:n<l.length):iW l n=some (l[n],0)/\DT l n=some (l[n],0):=by
 constructor
 .unfold iW gV;rw[a0A,za (by simp;omega),u4 hn,a0A]
 .unfold DT;rw[za (by simp;omega),u4 hn,a0A]
omit hx hS in
theorem Jn {l:List Int} {k:Int} (hk:¬(0<=k/\k<l.length)):iW l k=some (0,5)/\DT l k=some (0,5):=by
 constructor
 .unfold iW gV;rw[a0A,zb (by simp;omega)]
 .unfold DT;rw[zb (by simp;omega)]
theorem wF(h k:Int)(hh:h<=9223372036854775807):(∃e,e≠0/\K7 x.S h k=some (0,e)/\True) \/
  (h∈lv x.S/\∃n:Nat,k=n/\∃hn:n<(ob x.S h).Fields.length,K7 x.S h k=some ((ob x.S h).Fields[n],0)/\True):=by
 have hR:=hx.sh.sr;obtain⟨e,h1,h2⟩:=iI (A3.2 hR) hh;unfold K7;rw[h1,a0A];by_cases q:h∈lv x.S
 .have:=h2.2 q;subst this;rw[za (by simp)];by_cases hk:0<=k/\k<(ob x.S h).Fields.length
  .right;obtain⟨n,rfl⟩:∃n:Nat,k=n:=⟨k.toNat,by omega⟩;have hn:n<(ob x.S h).Fields.length:=by omega
   refine⟨q,n,rfl,hn,?_,?_⟩
   .rw[(ZD hn).1];rfl
   .trivial
  .left;refine⟨5,by decide,?_,?_⟩
   .rw[(Jn hk).1];rfl
   .trivial
 .left;have he:(e != 0)=true:=by simpa using λc=>q (h2.1 c)
  refine⟨e,by simpa using he,?_,?_⟩;·simp only[he,we]
  .trivial
theorem Py{s:b6}(hR:SR s){h:Int}(hh:h∈lv s){n:Nat}(hn:n<(ob s h).Fields.length)(v:Int) :
  qH s h n v=some (dh s h (rZ (ob s h) ((ob s h).Fields.set n v)),0)/\True:=by
 have ok:=L1 hR hh;have hf:=ok.fl;have hle:=I7 hR hh;have ho:Bc s (rZ (ob s h) ((ob s h).Fields.set n v)):=⟨ok.s1,ok.s2,ok.st,ok.wk,ok.p1,ok.p2,by simpa using hf⟩;have h1:=xU (o:=rZ (ob s h) ((ob s h).Fields.set n v)) hR hh rfl ho;constructor
 .unfold qH;rw[vH (A3.2 hR) hh,a0A,za (by simp)];unfold mH gV;dsimp only;rw[a0A,za (by simp;omega),kW (by omega) (by omega),a0A];have e:xK (List.replicate (ob s h).Fields.length (0:Int)) (ob s h).Fields=some (ob s h).Fields:=by
   unfold xK;rw[zb (by simp)];simp
  rw[e,a0A,u4 hn,a0A,a0A,za (by simp),zT];dsimp only;rw[show U0 s h ⟨(ob s h).Serial,(ob s h).Strong,(ob s h).Weak,(ob s h).Prog,(ob s h).Started,(ob s h).Fields.set n v⟩=_ from h1];rfl
 .trivial
theorem yx(h k v:Int)(hh:h<=9223372036854775807)(hv:v<=9223372036854775807) :
  (∃e,e≠0/\aI x h k v=some (x,e)/\True) \/
  (h∈lv x.S/\(v=0\/v∈lv x.S)/\∃n:Nat,k=n/\n<(ob x.S h).Fields.length/\aI x h k v=some (bS x h n v,0)/\True):=by
 have hR:=hx.sh.sr;unfold aI;rcases wF hx hS h k hh with ⟨e,he,f1,f2⟩ | ⟨hl,n,rfl,hn,f1,f2⟩
 .left;have he':(e != 0)=true:=by simpa using he
  refine⟨e,he,?_,?_⟩;·rw[f1,a0A,zb he']
  .trivial
 .rw[f1,a0A,za (by simp),O2 hR hv,a0A];by_cases hn2:v=0\/v∈lv x.S
  .right;refine⟨hl,hn2,n,rfl,hn,?_⟩;rw[zE hn2,za (by simp)];have xm:=I9 hR v (f:=ab) λc=>F2;have hR1:SR (F3 x v).S:=xm.sr;have hl1:h∈lv (F3 x v).S:=by rw[show lv (F3 x v).S=lv x.S from xm.lv];exact hl
   have hof:(ob (F3 x v).S h).Fields=(ob x.S h).Fields:=by
    obtain⟨m,e⟩:=xm.ob h hh;show (ob (uV x v ab).S h).Fields=_;rw[e]
   have hn1:n<(ob (F3 x v).S h).Fields.length:=by rw[hof];exact hn
   have old:(ob x.S h).Fields[n]<=9223372036854775807:=ug hx hS (hx.sh.fl h hl _ (zh hn));have ok:=L1 hR1 hl1;have sr2:SR (dh (F3 x v).S h (rZ (ob (F3 x v).S h) ((ob (F3 x v).S h).Fields.set n v))):=cd (o:=rZ (ob (F3 x v).S h) ((ob (F3 x v).S h).Fields.set n v)) hR1 hl1 rfl ⟨ok.s1,ok.s2,ok.st,ok.wk,ok.p1,ok.p2,by simpa using ok.fl⟩;obtain⟨p1,p2⟩:=Py hx hS hR1 hl1 hn1 v;have hd:(ob x.S h).Fields.getD n 0=(ob x.S h).Fields[n]:=by
    rw[zd,zc hn];rfl
   constructor
   .unfold G8 da;rw[mr hR hv hS,a0A];dsimp only;rw[p1,a0A,a0A];have hrel:=gA (x:=wS (F3 x v) (dh (F3 x v).S h (rZ (ob (F3 x v).S h) ((ob (F3 x v).S h).Fields.set n v)))) sr2 old;rw[show E8 ⟨dh (F3 x v).S h (rZ (ob (F3 x v).S h) ((ob (F3 x v).S h).Fields.set n v)),(F3 x v).Roots,(F3 x v).b7,(F3 x v).T,(F3 x v).Q⟩ (ob x.S h).Fields[n]=_ from hrel];unfold bS;rw[hd,hof];rfl
   .trivial
  .left;refine⟨3,by decide,?_,?_⟩;·rw[zZ hn2,zb (by simp)]
   .trivial
theorem Td(k v:Int)(hk:k<=9223372036854775807)(hv:v<=9223372036854775807) :
  (∃e,e≠0/\cC x k v=some (x,e)/\True) \/
  (k∈lv x.S/\(v=0\/v∈lv x.S)/\∃r,V5 x.T k v=some r/\r.2.2=0/\cC x k v=some (ja x v r.1 r.2.1,0)/\True):=by
 have hR:=hx.sh.sr;unfold cC;by_cases k0:k=0
 .left;subst k0;exact⟨2,by decide,by simp,trivial⟩
 .rw[za (by simpa using k0),O2 hR hk,a0A,O2 hR hv];have hkk:(k=0\/k∈lv x.S)↔k∈lv x.S:=by simp[k0]
  by_cases hl:k∈lv x.S/\(v=0\/v∈lv x.S)
  .obtain⟨hl,hn⟩:=hl;rw[zE (hkk.2 hl),zE hn];simp only[zbn,zW,bK,a0A,zcv,zD,q9];obtain⟨r,r1,r2,r3,r5⟩:=eh hx.sh.hr k v;rw[r1,a0A];by_cases h0:r.2.2=0
   .right;refine⟨hl,hn,r,rfl,h0,?_⟩;have e1:(r.2.2 != 0)=false:=by simpa using h0
    have old:r.2.1<=9223372036854775807:=by
     rcases r5 with ⟨_,rfl⟩ | ⟨_,_,⟨i,hi,rfl⟩ | ⟨_,rfl⟩⟩ | ⟨_,_,⟨i,hi,rfl⟩ | ⟨d,_,_,_,_,rfl⟩ | ⟨_,_,rfl⟩⟩;·simp
     .exact ug hx hS (.inr (hx.sh.pr k _ ⟨i,hi,rfl⟩).2)
     .simp
     .exact ug hx hS (.inr (hx.sh.pr k _ ⟨i,hi,rfl⟩).2)
     .simp
     .simp
    constructor
    .rw[e1];simp only[zD,q9];unfold E5 aJ;rw[mr hR hv hS,a0A,a0A];dsimp only;have hrel:=gA (x:=wT (F3 x v) r.1) (kg hR v) old;rw[show E8 ⟨(F3 x v).S,(F3 x v).Roots,(F3 x v).b7,r.1,(F3 x v).Q⟩ r.2.1=_ from hrel];rfl
    .trivial
   .left;have e1:(r.2.2 != 0)=true:=by simpa using h0
    refine⟨r.2.2,h0,by rw[zb e1],trivial⟩
  .left;refine⟨3,by decide,?_,?_⟩
   .by_cases hl2:k∈lv x.S
    .have:¬(v=0\/v∈lv x.S):=λq=>hl ⟨hl2,q⟩;rw[zE (hkk.2 hl2),zZ this];rfl
    .rw[zZ λq=>hl2 (hkk.1 q)];rfl
   .trivial
end
theorem JI{s:b6}(hR:SR s){h:Int}{i:Nat}(q:U9 s h i):R2 s.S h=some ((EG s i).S,0):=by
 have hi:=q.1;have hc:=hR.cell i hi;have l9:=hR.l9;unfold R2 EG;rw[xH hR q,a0A,za (by simp),JO hi,a0A];by_cases g:(ce s i).Gen=s.S.Last
 .rw[zb (by simpa using g),zb g,mK rfl hi hR.len];rfl
 .rw[za (by simpa using g),za g,mK rfl hi hR.len,V3 (by omega) (by omega)];rfl
section
variable{x:Hp}(hR:SR x.S)
include hR
theorem Ck{h d:Int}(hh:h<=9223372036854775807)(hw:U9 x.S h (E3 h) -> -1000<=(ce x.S (E3 h)).Val.Weak+d/\(ce x.S (E3 h)).Val.Weak+d<=1000):aA x h d=some (iN x h d):=by
 unfold aA iN;by_cases q:U9 x.S h (E3 h)
 .have:=hw q;rw[zb q,xH hR q,a0A];simp only[zW,we];rw[JO q.1,a0A,V3 (by omega) (by omega),PU hR q,a0A];rfl
 .have hno:∀i,¬U9 x.S h i:=λi hi=>q (by rw[hi.E3 hR];exact hi);rw[za q,yl hR hh hno,a0A];have:((if h=0 then 2 else 3:Int)==0)=false:=by simpa using tD h
  simp only[this,zD,q9]
theorem GQ{h:Int}(hh:h<=9223372036854775807)(hw:U9 x.S h (E3 h)->1<=(ce x.S (E3 h)).Val.Weak/\(ce x.S (E3 h)).Val.Weak<=1000):bg x h=some (qh x h):=by
 unfold bg;rw[Ck hR hh (λq=>by have:=hw q;omega),a0A];unfold iN qh;by_cases q:U9 x.S h (E3 h)
 .have hw:=hw q;rw[zb q,zb q];have XK:=vL hR q.1 q.2.1 (d:=-1) (by omega);have q1:U9 (lV x.S (E3 h) (-1)) h (E3 h):=(xG q.1 _).2 q;dsimp only;rw[xH XK q1,a0A,za (by simp),JO q1.1,a0A,fw hR q.1 q.2.1,zb rfl];dsimp only;by_cases c:(ce x.S (E3 h)).State=2/\(ce x.S (E3 h)).Val.Weak=1
  .rw[zb c,zb (by simp[c.1,c.2]),JI XK q1,a0A];rfl
  .rw[za c,za (by simp only[zy,ms];omega)]
 .have hno:∀i,¬U9 x.S h i:=λi hi=>q (by rw[hi.E3 hR];exact hi);rw[za q,za q,yl hR hh hno,a0A];have:((if h=0 then 2 else 3:Int) != 0)=true:=by simpa using tD h
  simp only[this,we]
end
theorem GX{l:List k8}(hl:l.length<=1000){n:Nat}(hn:n<l.length)(h call:Int):km l n h call=some (l.set n (fV h call),l[n].Target,0):=by
 unfold km ko cp;simp only[a0A];rw[za (by simp;omega),kW (by omega) (by omega),a0A];have e:xK (List.replicate l.length (⟨0,false,0⟩:k8)) l=some l:=by
  unfold xK;rw[zb (by simp)];simp
 rw[e,a0A,a0A,u4 hn,a0A,a0A,zT]
theorem OM(l:List k8)(h:Int):jy l h<=l.length:=zcl
theorem EB{x:Hp}(hx:K1 x)(k h call:Int)(hh:h<=9223372036854775807)(hc : -1<=call/\call<=5) :
  (∃e,e≠0/\T7 x k h call=some (x,e)/\True) \/
  ((h=0\/h∈lv x.S)/\∃n:Nat,k=n/\n<6/\xe x.Q n=false/\T7 x k h call=some (cW x n h call,0)/\True):=by
 have hR:=hx.sh.sr;have c6:=hx.sh.c6;have q30:=hx.sh.q30;unfold T7;by_cases hk:k<0\/5<k
 .left;have e1:((decide (k<0))||(decide (k>=(x.b7.length:Int))))=true:=by rw[c6];simp;omega
  refine⟨7,by decide,?_,?_⟩;·rw[e1];rfl
  .trivial
 .obtain⟨n,rfl⟩:∃n:Nat,k=n:=⟨k.toNat,by omega⟩;have hn6:n<6:=by omega
  have e1:((decide ((n:Int)<0))||(decide ((n:Int)>=(x.b7.length:Int))))=false:=by rw[c6];simp;omega
  rw[e1];simp only[zW,bK,zcb];have hwq:aS x.Q n=some (xe x.Q n):=xX (by omega);rw[hwq,a0A,O2 hR hh,a0A];by_cases hw:xe x.Q n=true
  .left;rw[zb hw];exact⟨7,by decide,rfl,trivial⟩
  .have hw:xe x.Q n=false:=by simpa using hw
   rw[hw,za (show ¬(false=true) by decide)];by_cases hl:h=0\/h∈lv x.S
   .right;refine⟨hl,n,rfl,hn6,hw,?_⟩;have hnl:n<x.b7.length:=by omega
    rw[zE hl,za (by simp),GX (by omega) hnl,a0A];have htg:mD x n=x.b7[n].Target:=by
     unfold mD;rw[zd,zc hnl];rfl
    have wkb:∀i,i<x.S.S.b7.length->Th (ce x.S i)->0<=(ce x.S i).Val.Weak/\(ce x.S i).Val.Weak<=6:=λi hi ht=>by
     have:=(hx.wk i hi ht).1;have:=OM x.b7 (1+(i:Int)+32*(ce x.S i).Gen);omega
    have mk1:∃s2,iN (wC x (x.b7.set n (fV h call))) h 1=wS (wC x (x.b7.set n (fV h call))) s2/\SR s2/\(∀k i,U9 s2 k i↔U9 x.S k i)/\(∀i,i<x.S.S.b7.length->Th (ce x.S i)->(ce x.S i).Val.Weak<=(ce s2 i).Val.Weak/\(ce s2 i).Val.Weak<=(ce x.S i).Val.Weak+1) /\
      (h≠0->True)/\(h=0->s2=x.S):=by
     unfold iN;by_cases h0:h=0
     .have hno:¬U9 x.S h (E3 h):=λq=>by have:=q.Ml hR;omega
      rw[za hno];exact⟨x.S,rfl,hR,λ_ _=>Iff.rfl,λi _ _=>by omega,λq=>absurd h0 q,λ_=>rfl⟩
     .have hll:=hl.resolve_left h0;have hp:=o5 hR hll;have hb:=wkb _ hp.1 (.inl hp.2.1);rw[zb hp.d];have kn:=nw hR hp.1 (.inl hp.2.1) (d:=1) (by omega);refine⟨_,rfl,kn.sr,kn.ad,λi hi ht=>?_,λ_=>trivial,λq=>absurd q h0⟩;rw[fw hR hp.1 (.inl hp.2.1)];split;·rename_i e;subst e;dsimp only;omega
      .omega
    obtain⟨s2,m1,m2,m3,m4,m5,m6⟩:=mk1;have hold:mD x n<=9223372036854775807:=by
     by_cases q:mD x n=0
     .omega
     .obtain⟨p,hp⟩:=(hx.sh.cl n hnl).2.2.2.1 (by rw[<-htg];exact q);have:=hp.Ml hR;rw[htg];omega
    have hun:U9 s2 (mD x n) (E3 (mD x n))->1<=(ce s2 (E3 (mD x n))).Val.Weak/\(ce s2 (E3 (mD x n))).Val.Weak<=1000:=λq=>by
     have q':=(m3 _ _).1 q;have r:=q'.Ml hR;have:=(hx.wk _ q'.1 q'.2.1).1;have hp:0<jy x.b7 x.b7[n].Target:=uz hnl (by rw[<-htg];omega);rw[<-htg,q'.2.2] at hp;have:=m4 _ q'.1 q'.2.1;have:=wkb _ q'.1 q'.2.1;omega
    have u1:=GQ (x:=wS (wC x (x.b7.set n (fV h call))) s2) m2 hold hun;have hwb:U9 x.S h (E3 h) -> -1000<=(ce x.S (E3 h)).Val.Weak+1/\(ce x.S (E3 h)).Val.Weak+1<=1000:=λq=>by
     have:=wkb _ q.1 q.2.1;omega
    have mm:=Ck (x:=wC x (x.b7.set n (fV h call))) (d:=1) hR hh hwb;constructor
    .dsimp only;rw[show aA ⟨x.S,x.Roots,x.b7.set n (fV h call),x.T,x.Q⟩ h 1=_ from mm,a0A,m1,<-htg,u1,a0A];unfold cW;rw[m1]
    .trivial
   .left;rw[zZ hl];exact⟨3,by decide,by rw[zb (by rfl)],trivial⟩
theorem at1{l:List Int}{n:Nat}(hn:n<l.length):iW l n=some (l[n],0):=by
 unfold iW gV;rw[a0A,za (by simp;omega),u4 hn,a0A]
section
variable{x:Hp}(hx:K1 x)(hS:∀k∈lv x.S,(ob x.S k).Strong<=9223372036854775807)
include hx hS
end
theorem JG{α:Type}{l:List α}{i:Nat}(h:i<l.length)(d:α):l.getD i d=l[i]:=by
 rw[zd,zc h];rfl
def TkS(a b:g5):Prop:=a.Kind=b.Kind/\a.At=b.At
instance(a b:g5):Decidable (TkS a b):=by unfold TkS;infer_instance
section
variable{x:Hp}(hR:SR x.S)
include hR
omit hR in
theorem LV (l:List k8) (hl:l.length<=1000) (h:Int):eU l h=some (jy l h:Int):=by
 unfold eU U7 gW;simp only[jn,a0A];have key:∃e,lp (S:=Int × (List Int)) (E:=(List Int)) (λ((s17,s18):Int × (List Int))=>
   if (decide (s17<(l.length:Int))) then
     (ix l s17).bind λv26=>
     if ((h != 0)&&(v26.Target==h)) then
      (app 8 s18 [s17]).bind λv28=>
      some (.inl (x4 (s17+1),v28))
     else
     some (.inl (x4 (s17+1),s18))
   else
   some (.inr s18)) (0,[])=some e/\e.length=jy l h:=by
  refine iM l.length (λk (acc:List Int)=>acc.length=jy (l.take k) h) (λ(e:List Int)=>e.length=jy l h) (by omega) rfl (λk acc hk hP=>?_) (λacc hP=>⟨acc,by simp,by rwa [zR] at hP⟩);left;have hle:acc.length<=k:=by
   rw[hP];exact zN (OM _ _) (by simp;omega)
  have hst:jy (l.take (k+1)) h=jy (l.take k) h+if ((h != 0)&&(l[k].Target==h))=true then 1 else 0:=by
   unfold jy;rw[zt hk,List.countP_append,List.countP_cons,List.countP_nil];omega
  simp only[wn,hk,ww,we,u4 hk,a0A];rw[n9];by_cases c:((h != 0)&&(l[k].Target==h))=true
  .rw[zb c,I6 (by omega) (by simp;omega),a0A];exact⟨_,rfl,by rw[hst,zb c];simp[hP]⟩
  .rw[za c];exact⟨_,rfl,by rw[hst,za c];simpa using hP⟩
 obtain⟨e,e1,e2⟩:=key;rw[show lp _ _=_ from e1,a0A,a0A,e2]
omit hR in
theorem NF:Uc x.S x.T (oJ x)↔aT x []:=by
 constructor
 .intro h k hk hlt;have:=h k hk hlt;unfold Mo inr at this;rw[zb hk] at this;rw[J0];unfold mb;omega
 .intro h k hk hlt;have:=h k hk hlt;rw[J0] at this;unfold mb at this;unfold Mo inr;rw[zb hk];omega
end
section
variable{x:Hp}(hx:K1 x)(hB:HB x)
include hx hB
end
theorem Xe{l:List w9}(h:l.length<=100000):uE l l=some true:=by
 unfold uE;rw[za (by simp)];simp only[jn];refine aK l.length (λ_=>True) (by omega) trivial (λk hk _=>.inl ⟨?_,trivial⟩) (λ_=>⟨.inr (),by simp,rfl⟩);rw[zb (by simpa using hk),u4 hk,a0A,a0A,za (by simp),n9 (by omega)]
def SL(x:Hp):Prop:=∀k∈lv x.S,(ob x.S k).Strong<=9223372036854775807
theorem SB.sl{x:Hp}(hR:SR x.S)(h:SB x.S):SL x:=λk hk=>My hR h k hk
theorem Yj{x:Hp}(hx:K1 x)(hS:SL x):HB x:=by
 have hR:=hx.sh.sr;have bd:∀v,v=0\/v∈lv x.S->v<=9223372036854775807:=λv q=>by
  rcases q with q | q
  .omega
  .have:=I7 hR q;omega
 refine⟨YU.2 λi hi=>?_,Yd.2 λi hi v hv=>?_,λv hv=>bd v (hx.sh.rt v hv),λc hc=>?_,λp hp=>?_,λt ht=>?_⟩
 .by_cases t:Th (ce x.S i)
  .rcases t with t | t
   .have q:At x.S (1+(i:Int)+32*(ce x.S i).Gen) i:=⟨hi,t,rfl⟩;have:=hS _ ((ig hR).2 ⟨i,q⟩);rwa [G2 hR q] at this
   .have:=((hx.wk i hi (.inr t)).2 t).2.2;omega
  .have:=(hR.no i hi t).2.1;simp only[oo] at this;omega
 .by_cases t:Th (ce x.S i)
  .rcases t with t | t
   .have q:At x.S (1+(i:Int)+32*(ce x.S i).Gen) i:=⟨hi,t,rfl⟩;have hm:=(ig hR).2 ⟨i,q⟩;exact bd v (hx.sh.fl _ hm v (by rw[G2 hR q];exact hv))
   .rw[((hx.wk i hi (.inr t)).2 t).2.1] at hv;cases hv
  .have:=(hR.no i hi t).2.2.2.2.2;simp only[oo] at this;rw[wd this] at hv;cases hv
 .obtain⟨i,hi,rfl⟩:=un hc;by_cases e:x.b7[i].Target=0
  .omega
  .obtain⟨p,hp⟩:=(hx.sh.cl i hi).2.2.2.1 e;have:=hp.Ml hR;omega
 .obtain⟨i,hi,rfl⟩:=un hp;have e:pt x.T i=x.T[i]:=by
   unfold pt;rw[zd,zc hi];rfl
  by_cases s1:(pt x.T i).State=1
  .obtain⟨a,b⟩:=hx.sh.pr (pt x.T i).Key (pt x.T i).Val ⟨i,⟨hi,s1,rfl⟩,rfl⟩;rw[e] at a b;exact⟨bd _ (.inr a),bd _ (.inr b)⟩
  .obtain⟨a,b⟩:=(hx.sh.hr.st i hi).2 s1;rw[e] at a b;omega
 .obtain⟨_,_,q | q⟩:=hx.sh.tk t ht;·exact bd _ (.inr q.2.1)
  .omega
theorem Sg(c:Int):ab c<=12:=by unfold ab;split <;> (try split) <;> omega
theorem RQ{c:Int}(h:c<=9223372036854775807):lx c<=9223372036854775807:=by unfold lx;split <;> (try split) <;> omega
theorem SL.of{x y:Hp}(h:SL x)(hl:lv y.S=lv x.S)(hs:∀k∈lv x.S,(ob y.S k).Strong=(ob x.S k).Strong):SL y:=λk hk=>by
 rw[hl] at hk;rw[hs k hk];exact h k hk
theorem SL.st{x:Hp}(h:SL x)(hR:SR x.S)(v:Int){f:Int->Int}(hf:∀c,0<=c->0<=f c)(hb:∀c,c<=9223372036854775807->f c<=9223372036854775807):SL (uV x v f):=λk hk=>by
 rw[(I9 hR v hf).lv] at hk;rw[wu hR v hf hk];split;·exact hb _ (h k hk)
 .exact h k hk
theorem SL.F3{x:Hp}(h:SL x)(hR:SR x.S)(v:Int):SL (F3 x v):=h.st hR v (λc=>F2) λc _=>by have:=Sg c;omega
theorem SL.QC{x:Hp}(h:SL x)(hR:SR x.S)(v:Int):SL (aP x v):=h.st hR v (λc=>Q3) λc hc=>RQ hc
theorem PH{x:Hp}(hR:SR x.S)(v:Int):SR (aP x v).S:=(I9 hR v λc=>Q3).sr
theorem pP{x:Hp}(hR:SR x.S)(h:SL x)(r:Nat)(v:Int):SL (G9 x r v):=by
 unfold G9;exact SL.QC (x:=wR (F3 x v) (x.Roots.set r v)) (h.F3 hR v) (kg hR v) _
theorem LA{x:Hp}(hR:SR x.S)(hS:SL x){h:Int}(hh:h∈lv x.S)(k:Nat)(v:Int):SL (bS x h k v):=by
 have xm:=I9 hR v (f:=ab) λc=>F2;have hR1:SR (F3 x v).S:=xm.sr;have hl1:h∈lv (F3 x v).S:=by rw[show lv (F3 x v).S=lv x.S from xm.lv];exact hh
 have hof:(ob (F3 x v).S h).Fields=(ob x.S h).Fields:=by
  obtain⟨m,e⟩:=xm.ob h (by have:=I7 hR hh;omega);show (ob (uV x v ab).S h).Fields=_;rw[e]
 have ok:=L1 hR1 hl1;have ho:Bc (F3 x v).S (rZ (ob (F3 x v).S h) ((ob x.S h).Fields.set k v)):=⟨ok.s1,ok.s2,ok.st,ok.wk,ok.p1,ok.p2,by have:=ok.fl;rw[hof] at this;simpa using this⟩;have sr2:=cd (o:=rZ (ob (F3 x v).S h) ((ob x.S h).Fields.set k v)) hR1 hl1 rfl ho;unfold bS;refine SL.QC (x:=wS (F3 x v) (dh (F3 x v).S h (rZ (ob (F3 x v).S h) ((ob x.S h).Fields.set k v)))) ?_ sr2 _;refine (hS.F3 hR v).of (iV hR1 hl1 rfl ho) λj hj=>?_;dsimp only;rw[gB (o:=rZ (ob (F3 x v).S h) ((ob x.S h).Fields.set k v)) hR1 hl1 rfl ho (by have:=I7 hR1 hj;omega)];split;·rename_i e;rw[e]
 .rfl
theorem Po{x:Hp}(hR:SR x.S)(hS:SL x)(v:Int)(t:Tb)(old:Int):SL (ja x v t old):=by
 unfold ja;exact SL.QC (x:=wT (F3 x v) t) (hS.F3 hR v) (kg hR v) _
theorem Wg{x:Hp}(hR:SR x.S)(hS:SL x)(h:Int){d:Int}(hd:U9 x.S h (E3 h)->0<=(ce x.S (E3 h)).Val.Weak+d):SL (iN x h d):=by
 unfold iN;split
 .rename_i q;exact hS.of (nw hR q.1 q.2.1 (hd q)).lv λk hk=>nx hR q.1 q.2.1 (hd q) hk
 .exact hS
theorem KR{x:Hp}(hR:SR x.S)(hS:SL x)(h:Int)(hd:U9 x.S h (E3 h)->1<=(ce x.S (E3 h)).Val.Weak):SL (qh x h):=by
 unfold qh;split
 .rename_i q;have hd:=hd q;have kn:=nw (d:=-1) hR q.1 q.2.1 (by omega);have s1:SL (wS x (lV x.S (E3 h) (-1))):=hS.of kn.lv λk hk=>nx hR q.1 q.2.1 (by omega) hk;split
  .rename_i c;have hi1:E3 h<(lV x.S (E3 h) (-1)).S.b7.length:=by rw[kn.len];exact q.1
   have hce:ce (lV x.S (E3 h) (-1)) (E3 h)=⟨(ce x.S (E3 h)).State,(ce x.S (E3 h)).Gen,Zz (ce x.S (E3 h)).Val ((ce x.S (E3 h)).Val.Weak + -1)⟩:=by
    rw[fw hR q.1 q.2.1,zb rfl]
   have h2:(ce (lV x.S (E3 h) (-1)) (E3 h)).State=2:=by rw[hce];exact c.1
   exact s1.of (Dq kn.sr hi1 h2) λk hk=>by
    dsimp only;rw[Dr kn.sr hi1 h2 hk]
  .exact s1
 .exact hS
theorem GV{x:Hp}(hx:K1 x)(hS:SL x){n:Nat}(hn:n<6)(h call:Int):SL (cW x n h call):=by
 have hR:=hx.sh.sr;have hnl:n<x.b7.length:=by have:=hx.sh.c6;omega
 have ok:∀k i,U9 x.S k i->0<=(ce x.S i).Val.Weak:=λk i q=>(hR.ok i q.1 q.2.1).wk;have tw:∀i,U9 x.S (mD x n) i->1<=(ce x.S i).Val.Weak:=λi q=>by
  have htg:mD x n=x.b7[n].Target:=by
   unfold mD;rw[zd,zc hnl];rfl
  have r:=q.Ml hR;have p:=uz hnl (by rw[<-htg];omega);rw[<-htg,q.2.2] at p;have:=(hx.wk i q.1 q.2.1).1;omega
 unfold cW;have s1:SL (iN (wC x (x.b7.set n (fV h call))) h 1):=Wg (x:=wC x (x.b7.set n (fV h call))) hR hS h λq=>by
  have:=ok _ _ q;dsimp only;omega
 by_cases q:U9 x.S h (E3 h)
 .have e:iN (wC x (x.b7.set n (fV h call))) h 1=wS (wC x (x.b7.set n (fV h call))) (lV x.S (E3 h) 1):=by
   unfold iN;rw[zb q]
  have hd:=ok _ _ q;have kn:=nw (d:=1) hR q.1 q.2.1 (by omega);rw[e] at s1 |-;refine KR kn.sr s1 _ λq2=>?_;dsimp only at q2 |-;have q3:=(kn.ad _ _).1 q2;have:=tw _ q3;rw[fw hR q.1 q.2.1];split
  .rename_i e2;rw[e2] at this;show 1<=(ce x.S (E3 h)).Val.Weak+1;omega
  .exact this
 .have e:iN (wC x (x.b7.set n (fV h call))) h 1=wC x (x.b7.set n (fV h call)):=by
   unfold iN;rw[za q]
  rw[e] at s1 |-;exact KR (x:=wC x (x.b7.set n (fV h call))) hR s1 _ λq2=>tw _ q2
section
variable{x:Hp}(hx:K1 x)(hS:SL x)
include hx hS
end
def Ud(x:Hp):Prop:=Sm x.S/\x.Roots.length<=20/\x.b7.length<=20/\x.T.length<=20/\x.Q.L.length<=60
instance(x:Hp):Decidable (Ud x):=by unfold Ud;infer_instance
def Sc:Hp:=⟨⟨⟨[],0⟩,0⟩,[],[],[],⟨[],0⟩⟩
theorem AH(x:Hp)(h:Int)(f:Int->Int):(uV x h f).Roots=x.Roots/\(uV x h f).b7=x.b7/\(uV x h f).T=x.T/\(uV x h f).Q=x.Q:=by
 unfold uV;split <;> exact⟨rfl,rfl,rfl,rfl⟩
theorem kf(x:Hp)(r:Nat)(h:Int):(G9 x r h).Roots=x.Roots.set r h/\(G9 x r h).b7=x.b7/\(G9 x r h).T=x.T/\(G9 x r h).Q=x.Q:=by
 obtain⟨a,b,c,d⟩:=AH (wR (F3 x h) (x.Roots.set r h)) (x.Roots.getD r 0) lx;obtain⟨a',b',c',d'⟩:=AH x h ab;exact⟨a,b.trans b',c.trans c',d.trans d'⟩
section
variable{x:Hp}(hB:HB x)
include hB
end
abbrev Lw(o:n8):n8:=⟨o.Serial,0,o.Weak,o.Prog,o.Started,[]⟩
def Ha(s:b6)(i:Nat):c9:=
 if (ce s i).Val.Weak=0 then (if (ce s i).Gen=s.S.Last then ⟨3,(ce s i).Gen,z0⟩ else ⟨0,(ce s i).Gen+1,z0⟩) else ⟨2,(ce s i).Gen,Lw (ce s i).Val⟩
def xl(s:b6)(d:Int):b6:=I8 s (E3 d) (Ha s (E3 d))
def oR(s:b6)(ds:List Int):b6:=ds.foldl xl s
theorem VC(s:b6)(i:Nat):(Ha s i).State≠1:=by
 unfold Ha;split;·split <;> simp
 .simp
theorem Im{s:b6}(hR:SR s){a b:Int}(ha:a∈lv s)(hb:b∈lv s)(h:a≠b):E3 a≠E3 b:=λe=>by
 have h1:=o5 hR ha;have h2:=o5 hR hb;rw[e] at h1;exact h (h1.2.2.trans h2.2.2.symm)
section
variable{s:b6}(hR:SR s){d:Int}(hd:d∈lv s)
include hR hd
theorem Dl:SR (xl s d):=by
 have q:=o5 hR hd;have hc:=hR.cell _ q.1;have ho:=hR.ok _ q.1 (.inl q.2.1);have no:KX (oo z0):=⟨rfl,rfl,rfl,rfl,rfl,rfl⟩;unfold xl Ha;split
 .split;·exact hR.I8 q.1 ⟨by simp,by simp,hc.2.2.1,hc.2.2.2⟩ (λ_=>no) (λq=>absurd q (by unfold Th;simp))
  .refine hR.I8 q.1 ⟨by simp,by simp,?_,?_⟩ (λ_=>no) (λq=>absurd q (by unfold Th;simp));·show 0<=(ce s (E3 d)).Gen+1;omega
   .show (ce s (E3 d)).Gen+1<=s.S.Last;omega
 .exact hR.I8 q.1 ⟨by simp,by simp,hc.2.2.1,hc.2.2.2⟩ (λq=>absurd (.inr rfl) q) (λ_=>⟨⟨ho.s1,ho.s2,zag _,ho.wk,ho.p1,ho.p2,zX _⟩,.inl q.2.1,rfl⟩)
theorem NU(j:Nat):ce (xl s d) j=if j=E3 d then Ha s (E3 d) else ce s j:=L6 (o5 hR hd).1 _ j
theorem NV:lv (xl s d)=(lv s).filter λh=>decide (h≠d):=by
 have hS:=Dl hR hd;unfold xl at hS |-;have hc:=VC s (E3 d);rw[JV hR (o5 hR hd).1 hc hS];refine or λh hh=>zbl.2 ⟨λq e=>q (by rw[e]),λq=>Im hR hh hd q⟩
theorem NW{k:Int}(hk:k∈lv s)(hne:k≠d):ob (xl s d) k=ob s k:=by
 have hS:=Dl hR hd;unfold xl at hS |-;exact Ki hR (o5 hR hd).1 hS hk (Im hR hk hd hne)
end
structure Gn (s s':b6) (ds:List Int):Prop where
 sr:SR s'
 len:s'.S.b7.length=s.S.b7.length
 last:s'.S.Last=s.S.Last
 bC:s'.Serial=s.Serial
 lv:lv s'=(lv s).filter λh=>decide (h∉ds)
 ob:∀k∈Sh.lv s,k∉ds->ob s' k=ob s k
 ce:∀j,ce s' j=if j∈ds.map E3 then Ha s j else ce s j
theorem ff:∀(ds:List Int) {s:b6} (hR:SR s),ds.Nodup->(∀d∈ds,d∈lv s)->Gn s (oR s ds) ds
 | [],s,hR,_,_=>⟨hR,rfl,rfl,rfl,(zbi.2 (λa _=>by simp)).symm,λ_ _ _=>rfl,λj=>by simp[oR]⟩
 | d::ds,s,hR,hn,hm=>by
  rw[zaa] at hn;have hd:=hm d (zg ..);have hlv:=NV hR hd;have hm':∀e∈ds,e∈lv (xl s d):=λe he=>by
   rw[hlv,zi,zC];exact⟨hm e (zo _ he),λq=>hn.1 (q▸he)⟩
  have ih:=ff ds (Dl hR hd) hn.2 hm';refine⟨ih.sr,ih.len.trans (W9 ..),ih.last,ih.bC,?_,λk hk hne=>?_,λj=>?_⟩
  .show lv (oR (xl s d) ds)=_;rw[ih.lv,hlv,zap];refine or λh hh=>?_;rw[zbj];simp only[zy,zC,zM,not_or];exact⟨λq=>⟨q.2,q.1⟩,λq=>⟨q.2,q.1⟩⟩
  .show ob (oR (xl s d) ds) k=_;rw[zM,not_or] at hne;rw[ih.ob k (by rw[hlv,zi,zC];exact⟨hk,hne.1⟩) hne.2,NW hR hd hk hne.1]
  .show ce (oR (xl s d) ds) j=_;have hg:∀e∈ds,E3 e≠E3 d:=λe he=>Im hR (hm e (zo _ he)) hd λq=>hn.1 (q▸he);rw[ih.ce];by_cases h1:j∈ds.map E3
   .obtain⟨e,he,rfl⟩:=zq.1 h1;rw[zb h1,zb (by rw[zQ];exact zo _ h1)];unfold Ha;rw[NU hR hd,za (hg e he)];rfl
   .rw[za h1,NU hR hd,zQ];by_cases h2:j=E3 d
    .subst h2;rw[zb rfl,zb (zg ..)]
    .rw[za h2,za];rw[zM];exact λq=>q.elim h2 h1
theorem CD{α:Type}(p:α->Bool)(f:α->Nat):∀l:List α,(l.map f).sum=((l.filter p).map f).sum+((l.filter λx => !p x).map f).sum
 | []=>rfl
 | x::l=>by
  rw[zQ,zbc,CD p f l,mt,mt];cases p x <;> simp <;> omega
theorem GO(f:Int->List Int)(y:Int):∀l:List Int,R4 (l.flatMap f) y=(l.map λx=>R4 (f x) y).sum
 | []=>J0 y
 | x::l=>by rw[zbe,G6,GO f y l,zQ,zbc]
theorem Gn.kD{s s':b6}{ds:List Int}(hR:SR s)(hn:ds.Nodup)(hm:∀d∈ds,d∈Sh.lv s)(g:Gn s s' ds)(y:Int):kD s' y+R4 (ds.flatMap (outs s)) y=kD s y:=by
 unfold Sh.kD;rw[g.lv,CD (λh=>decide (h∉ds)) (λx=>R4 (outs s x) y) (Sh.lv s),GO];have h1:((Sh.lv s).filter λh=>decide (h∉ds)).map (λx=>R4 (outs s' x) y)=((Sh.lv s).filter λh=>decide (h∉ds)).map λx=>R4 (outs s x) y:=zw λx hx=>by
  rw[zi,zC] at hx;unfold Sh.outs;rw[g.ob x hx.1 hx.2]
 have h2:((Sh.lv s).filter λx => !decide (x∉ds)).Perm ds:=by
  rw[List.perm_ext_iff_of_nodup ((uh (A3.2 hR)).filter _) hn];intro a;rw[zi];simp only[decide_not,Bool.not_not,zC];exact⟨λq=>q.2,λq=>⟨hm a q,q⟩⟩
 rw[h1,(h2.map λx=>R4 (outs s x) y).sum_nat]
theorem Ge{L:List g5}(hd:L.Pairwise λa b=>¬(a.Kind=b.Kind/\a.At=b.At))(k:Int):((L.filter (·.Kind==k)).map (·.At)).Nodup:=by
 unfold List.Nodup;rw[zbt];refine (hd.filter _).imp_of_mem λ{a b} ha hb h e=>?_;rw[zi,ms] at ha hb;exact h ⟨ha.2.trans hb.2.symm,e⟩
theorem AM{L:List g5}{m:List Int}(hd:L.Pairwise λa b=>¬(a.Kind=b.Kind/\a.At=b.At))(h:∀t∈L,(t.Kind=1/\t.At∈m)\/(t.Kind=2/\0<=t.At/\t.At<=5)):L.length<=m.length+6:=by
 have h1:L.length=(L.filter (·.Kind==1)).length+(L.filter (·.Kind==2)).length:=by
  rw[tG (λt:g5=>t.Kind==1) L];congr 2;refine or λt ht=>?_;rcases h t ht with q | q
  .simp[q.1]
  .simp[q.1]
 have h2:=ai (Ge hd 1) (m:=m) λa ha=>by
  obtain⟨t,ht,rfl⟩:=zq.1 ha;rw[zi,ms] at ht;rcases h t ht.1 with q | q
  .exact q.2
  .omega
 have h3:=ai (Ge hd 2) (m:=[0,1,2,3,4,5]) λa ha=>by
  obtain⟨t,ht,rfl⟩:=zq.1 ha;rw[zi,ms] at ht;rcases h t ht.1 with q | q
  .omega
  .simp only[zM,zcn,or_false];omega
 rw[zl] at h2 h3;simp only[zH,zah] at h3;omega
theorem gX{q:TQ}{w:Int}:xe q w=true↔∃t∈q.L,t.Kind=2/\t.At=w:=by
 unfold xe;rw[List.any_eq_true];simp
theorem lU{q:TQ}{h:Int}:h∈px q↔∃t∈q.L,t.Kind=1/\t.At=h:=by
 unfold px;rw[zq];simp only[zi,ms];exact⟨λ⟨t,⟨a,b⟩,c⟩=>⟨t,a,b,c⟩,λ⟨t,a,b,c⟩=>⟨t,⟨a,b⟩,c⟩⟩
abbrev cz:k8:=⟨0,false,0⟩
def jd(ds:List Int)(c:k8):Bool:=c.Intact&&c.Target != 0&&decide (c.Target∈ds)
def rQ(ds:List Int)(c:k8):k8:=if jd ds c then ⟨c.Target,false,c.Call⟩ else c
def lJ(l:List k8)(ds:List Int):List k8:=l.map (rQ ds)
def cls(l:List k8)(ds:List Int):List Nat:=(List.range l.length).filter λw=>jd ds (l.getD w cz)&&decide (0<=(l.getD w cz).Call)
def jJ(l:List k8)(ds:List Int):List g5:=(cls l ds).map λ(w:Nat)=>⟨2,(w:Int),(l.getD w cz).Call⟩
theorem oZ(ds:List Int)(c:k8):(rQ ds c).Target=c.Target/\(rQ ds c).Call=c.Call/\((rQ ds c).Intact=true↔c.Intact=true/\jd ds c=false):=by
 unfold rQ;cases h:jd ds c
 .rw[za (by simp)];simp
 .rw[zb rfl];simp
theorem DG(l:List k8)(ds:List Int)(h:Int):jy (lJ l ds) h=jy l h:=by
 unfold jy lJ;rw[List.countP_map];congr 1;funext c
 simp only[Function.comp_apply,(oZ ds c).1]
theorem gP{l:List k8}{ds:List Int}{t:g5}:t∈jJ l ds↔∃w,∃hw:w<l.length,t=⟨2,(w:Int),l[w].Call⟩/\jd ds l[w]=true/\0<=l[w].Call:=by
 unfold jJ cls;rw[zq];constructor
 .rintro⟨w,hw,rfl⟩;rw[zi,za6] at hw;obtain⟨h1,h2⟩:=hw;have e:l.getD w cz=l[w]:=by rw[zd,zc h1];rfl
  rw[e] at h2 |-;rw[zy,zC] at h2;exact⟨w,h1,rfl,h2.1,h2.2⟩
 .rintro⟨w,hw,rfl,h2,h3⟩;have e:l.getD w cz=l[w]:=by rw[zd,zc hw];rfl
  refine⟨w,?_,by rw[e]⟩;rw[zi,za6,e,zy,zC];exact⟨hw,h2,h3⟩
theorem BS(l:List k8)(ds:List Int):(jJ l ds).Pairwise λa b=>¬(a.Kind=b.Kind/\a.At=b.At):=by
 unfold jJ cls;rw[zbt];refine (zb6 _ (List.nodup_range (n:=l.length))).imp λ{a b} h=>?_;rintro⟨_,e⟩;dsimp only at e;omega
def jH(x:Hp)(ds:List Int)(t:Tb):Hp:=⟨oR x.S ds,x.Roots,lJ x.b7 ds,t,⟨x.Q.L++jJ x.b7 ds,x.Q.Cap⟩⟩
theorem yM(q:TQ)(l:List g5)(c:Int)(h:∀t∈l,t.Kind≠1):px ⟨q.L++l,c⟩=px q:=by
 unfold px;dsimp only;rw[zba];have:l.filter (λt=>t.Kind==1) = []:=by
  rw[List.filter_eq_nil_iff];intro t ht;simpa using h t ht
 rw[this,zay]
theorem Lp{x:Hp}(hx:K1 x){ds:List Int}(hn:ds.Nodup)(hm:∀d∈ds,d∈lv x.S)
  (ho:∀d∈ds,d∉oJ x)(hf:∀h∈lv x.S,h∉ds->∀v∈(ob x.S h).Fields,v∉ds)(hp:∀k v,Has x.T k v->k∉ds->v∉ds)
  {t:Tb}{vals:List Int}(ht:HR t)(h1:∀k v,Has t k v↔k∉ds/\Has x.T k v)(h2:∀y,own t y+R4 vals y=own x.T y) :
  kH (jH x ds t)/\Wk (jH x ds t)/\aT (jH x ds t) (ds.flatMap (outs x.S)++vals):=by
 have hS:=hx.sh;have hR:=hS.sr;have g:=ff ds hR hn hm;have hlv:∀h,h∈lv (oR x.S ds)↔h∈lv x.S/\h∉ds:=λh=>by rw[g.lv,zi,zC]
 have hlen:(lv x.S).length<=24:=N3 (A3.2 hR);have hcl:∀w (hw:w<x.b7.length),jd ds x.b7[w]=true->x.b7[w].Intact=true:=λw hw q=>by
  unfold jd at q;rw[zy,zy] at q;exact q.1.1
 have htd:(x.Q.L++jJ x.b7 ds).Pairwise λa b=>¬(a.Kind=b.Kind/\a.At=b.At):=by
  rw[zav];refine⟨hS.td,BS ..,λa ha b hb q=>?_⟩;obtain⟨w,hw,rfl,hh,_⟩:=gP.1 hb;have:=((hS.cl w hw).2.2.2.2 (hcl w hw hh)).2;rw[zbh] at this;exact this (gX.2 ⟨a,ha,q.1,q.2⟩)
 have htk:∀t∈x.Q.L++jJ x.b7 ds,0<=t.Prog/\t.Prog<=5/\((t.Kind=1/\t.At∈lv (oR x.S ds)/\(ob (oR x.S ds) t.At).Started=true)\/(t.Kind=2/\0<=t.At/\t.At<=5)):=λt htt=>by
  rcases zu.1 htt with q | q
  .obtain⟨a,b,c⟩:=hS.tk t q;refine⟨a,b,?_⟩;rcases c with ⟨c1,c2,c3⟩ | c
   .have hnd:t.At∉ds:=λhd=>ho _ hd (zu.2 (.inr (lU.2 ⟨t,q,c1,rfl⟩)));exact .inl ⟨c1,(hlv _).2 ⟨c2,hnd⟩,by rw[g.ob _ c2 hnd];exact c3⟩
   .exact .inr c
  .obtain⟨w,hw,rfl,hh,hc⟩:=gP.1 q;have c6:=hS.c6;have:=(hS.cl w hw).2.1;exact⟨hc,this,.inr ⟨rfl,by dsimp only;omega,by dsimp only;omega⟩⟩
 have hq30:(x.Q.L++jJ x.b7 ds).length<=30:=by
  have:=AM (m:=lv x.S) htd λt htt=>by
   rcases (htk t htt).2.2 with q | q
   .exact .inl ⟨q.1,((hlv _).1 q.2.1).1⟩
   .exact .inr q
  omega
 have hwts:∀i:Nat,xe x.Q i=false->(∀hi:i<x.b7.length,jd ds x.b7[i]=false)->xe ⟨x.Q.L++jJ x.b7 ds,x.Q.Cap⟩ i=false:=λi q1 q2=>by
  rw[zbh] at q1 |-;intro q;obtain⟨t,ht,a,b⟩:=gX.1 q;rcases zu.1 ht with c | c
  .exact q1 (gX.2 ⟨t,c,a,b⟩)
  .obtain⟨w,hw,rfl,hh,_⟩:=gP.1 c;dsimp only at b;have:w=i:=by omega
   subst this;rw[q2 hw] at hh;cases hh
 refine⟨⟨g.sr,ht,hS.r6,?_,hS.cap,hq30,htk,htd,λh hh=>?_,λh hh v hv=>?_,λk v hkv=>?_,λi hi=>?_⟩,λi hi hti=>?_,λh hh hlt=>?_⟩
 .unfold jH lJ;rw[zl];exact hS.c6
 .rcases hS.rt h hh with q | q
  .exact .inl q
  .have h0:h≠0:=λe=>fp hR (e▸q);exact .inr ((hlv h).2 ⟨q,λhd=>ho h hd (zu.2 (.inl (gx.2 ⟨hh,h0⟩)))⟩)
 .obtain⟨a,b⟩:=(hlv h).1 hh;have hv':v∈(ob x.S h).Fields:=by
   have e:=g.ob h a b;unfold jH at hv;rwa [e] at hv
  rcases hS.fl h a v hv' with q | q
  .exact .inl q
  .exact .inr ((hlv v).2 ⟨q,hf h a b v hv'⟩)
 .obtain⟨a,b⟩:=(h1 k v).1 hkv;obtain⟨c,d⟩:=hS.pr k v b;exact⟨(hlv k).2 ⟨c,a⟩,(hlv v).2 ⟨d,hp k v b a⟩⟩
 .have hi':i<x.b7.length:=by
   unfold jH lJ at hi;simpa using hi
  have e:(jH x ds t).b7[i]=rQ ds x.b7[i]:=t8 _;obtain⟨a1,a2,a3,a4,a5⟩:=hS.cl i hi';obtain⟨b1,b2,b3⟩:=oZ ds x.b7[i];rw[e,b1,b2];refine⟨a1,a2,λq=>?_,λq=>?_,λq=>?_⟩
  .rw[zbh];intro q2;rw[a3 q] at b3;exact absurd (b3.1 q2).1 (by decide)
  .obtain⟨p,hp1,hp2,hp3⟩:=a4 q;refine⟨p,by show p<(oR x.S ds).S.b7.length;rw[g.len];exact hp1,?_⟩;show Th (ce (oR x.S ds) p)/\_=1+(p:Int)+32*(ce (oR x.S ds) p).Gen;rw[g.ce];split
   .have hw:=(hx.wk p hp1 hp2).1;have:=uz hi' q;rw[hp3] at this;unfold Ha;rw[za (by omega)];exact⟨.inr rfl,hp3⟩
   .exact⟨hp2,hp3⟩
  .obtain⟨c1,c2⟩:=b3.1 q;obtain⟨d1,d2⟩:=a5 c1;have h0:x.b7[i].Target≠0:=λe=>fp hR (e▸d1);refine⟨(hlv _).2 ⟨d1,λhd=>?_⟩,hwts i d2 λ_=>c2⟩;have:jd ds x.b7[i]=true:=by
    unfold jd;simp[c1,h0,hd]
   rw[this] at c2;cases c2
 .have hi':i<x.S.S.b7.length:=by
   have:=g.len;have hi:i<(oR x.S ds).S.b7.length:=hi;omega
  show (ce (oR x.S ds) i).Val.Weak=(jy (lJ x.b7 ds) (1+(i:Int)+32*(ce (oR x.S ds) i).Gen):Int)/\((ce (oR x.S ds) i).State=2->_);have hti':Th (ce (oR x.S ds) i):=hti;show _/\((ce (oR x.S ds) i).State=2->1<=(ce (oR x.S ds) i).Val.Weak/\(ce (oR x.S ds) i).Val.Fields = []/\(ce (oR x.S ds) i).Val.Strong=0);rw[DG];rw[g.ce] at hti' |-;split
  .rename_i q;rw[zb q] at hti';obtain⟨d,hd,rfl⟩:=zq.1 q;have hp:=o5 hR (hm d hd);have hw:=(hx.wk _ hi' (.inl hp.2.1)).1;unfold Ha at hti' |-;split at hti'
   .exfalso;unfold Th at hti';split at hti' <;> simp at hti'
   .rename_i q2;rw[za q2];have:=(hR.ok _ hi' (.inl hp.2.1)).wk;exact⟨hw,λ_=>⟨by dsimp only;omega,rfl,rfl⟩⟩
  .rename_i q;rw[za q] at hti';exact hx.wk i hi' hti'
 .obtain⟨a,b⟩:=(hlv h).1 hh;have e:=g.ob h a b;have e':ob (jH x ds t).S h=ob x.S h:=e;rw[e'] at hlt |-;have hf:=hx.fair h a hlt;rw[J0] at hf;rw[hf];have i1:=g.kD hR hn hm h;have i2:=h2 h;have i3:px ⟨x.Q.L++jJ x.b7 ds,x.Q.Cap⟩=px x.Q:=yM _ _ _ λt ht=>by
   obtain⟨w,_,rfl,_⟩:=gP.1 ht;simp
  unfold mb oJ jH;dsimp only;rw[i3,G6 (ds.flatMap (outs x.S)),G6];omega
theorem As:∀(l:List Int) {x:Hp},kH x->Wk x->aT x l->K1 (l.foldl aP x)
 | [],x,h1,h2,h3=>⟨h1,h2,h3⟩
 | v::l,x,h1,h2,h3=>As l (h1.st v λc=>Q3) (h2.st h1.sr v λc=>Q3) (uM h1.sr h3)
abbrev fR(o:n8):n8:=⟨o.Serial,o.Strong,o.Weak,o.Prog,true,o.Fields⟩
abbrev Bf(x:Hp)(h:Int):g5:=⟨1,h,(ob x.S h).Prog⟩
noncomputable def gT(x:Hp)(h:Int):Hp:=F3 ⟨dh x.S h (fR (ob x.S h)),x.Roots,x.b7,x.T,⟨x.Q.L ++ [Bf x h],x.Q.Cap⟩⟩ h
theorem wb{x:Hp}(hx:K1 x){h:Int}(hh:h∈lv x.S)(hp:0<=(ob x.S h).Prog)(hs:(ob x.S h).Started=false):K1 (gT x h):=by
 have hS:=hx.sh;have hR:=hS.sr;have oko:=L1 hR hh;have ho:Bc x.S (fR (ob x.S h)):=⟨oko.s1,oko.s2,oko.st,oko.wk,oko.p1,oko.p2,oko.fl⟩;have r1:=cd (o:=fR (ob x.S h)) hR hh rfl ho;have l1:=iV (o:=fR (ob x.S h)) hR hh rfl ho;have o1:∀j,j∈lv x.S->ob (dh x.S h (fR (ob x.S h))) j=if j=h then fR (ob x.S h) else ob x.S j:=λj hj=>by
  have:=I7 hR hj;exact gB (o:=fR (ob x.S h)) hR hh rfl ho (by omega)
 have hlen:(lv x.S).length<=24:=N3 (A3.2 hR);have s1:kH (wS x (dh x.S h (fR (ob x.S h)))):=hS.of r1 l1 (λk i q=>(Ej (o:=fR (ob x.S h)) hR hh rfl ho).2 q) (λk hk q=>by
  rw[o1 k hk];split;·rfl
  .exact q) λk hk v hv=>by
  rw[o1 k hk] at hv;split at hv;·rename_i e;subst e;exact hS.fl k hk v hv
  .exact hS.fl k hk v hv
 have w1:Wk (wS x (dh x.S h (fR (ob x.S h)))):=λi hi ht=>by
  have fk:=o5 hR hh;have hc:=AD (o:=fR (ob x.S h)) hR hh rfl ho i;dsimp only at hi ht |-;rw[hc] at ht |-;have hi':i<x.S.S.b7.length:=by unfold dh at hi;rwa [K6] at hi
  split at ht
  .rename_i e;subst e;rw[zb rfl];dsimp only;have:=hx.wk _ hi' (.inl fk.2.1);rw[G2 hR fk];exact⟨this.1,λq=>absurd q (by rw[fk.2.1];decide)⟩
  .rename_i e;rw[za e];exact hx.wk i hi' ht
 have htd:(x.Q.L ++ [Bf x h]).Pairwise λa b=>¬(a.Kind=b.Kind/\a.At=b.At):=by
  rw[zav];refine⟨hS.td,by simp,λa ha b hb q=>?_⟩;rw[zn] at hb;subst hb;dsimp only at q;rcases (hS.tk a ha).2.2 with c | c
  .rw[q.2,hs] at c;exact absurd c.2.2 (by decide)
  .omega
 have htk:∀t∈x.Q.L ++ [Bf x h],0<=t.Prog/\t.Prog<=5/\((t.Kind=1/\t.At∈lv (dh x.S h (fR (ob x.S h)))/\(ob (dh x.S h (fR (ob x.S h))) t.At).Started=true)\/(t.Kind=2/\0<=t.At/\t.At<=5)):=λt ht=>by
  rcases zu.1 ht with q | q
  .exact s1.tk t q
  .rw[zn] at q;subst q;refine⟨hp,oko.p2,.inl ⟨rfl,by rw[l1];exact hh,?_⟩⟩;dsimp only;rw[o1 h hh,zb rfl]
 have hq30:(x.Q.L ++ [Bf x h]).length<=30:=by
  have:=AM (m:=lv x.S) htd λt ht=>by
   rcases (htk t ht).2.2 with q | q
   .exact .inl ⟨q.1,by rw[<-l1];exact q.2.1⟩
   .exact .inr q
  omega
 have s2:kH ⟨dh x.S h (fR (ob x.S h)),x.Roots,x.b7,x.T,⟨x.Q.L ++ [Bf x h],x.Q.Cap⟩⟩:=by
  refine⟨s1.sr,s1.hr,s1.r6,s1.c6,s1.cap,hq30,htk,htd,s1.rt,s1.fl,s1.pr,λi hi=>?_⟩;obtain⟨a,b,c,d,e⟩:=s1.cl i hi;refine⟨a,b,c,d,λq=>⟨(e q).1,?_⟩⟩;have:=(e q).2;rw[zbh] at this |-;intro q2;obtain⟨t,ht,k1,k2⟩:=gX.1 q2;rcases zu.1 ht with q3 | q3
  .exact this (gX.2 ⟨t,q3,k1,k2⟩)
  .rw[zn] at q3;subst q3;dsimp only at k1;omega
 have w2:Wk ⟨dh x.S h (fR (ob x.S h)),x.Roots,x.b7,x.T,⟨x.Q.L ++ [Bf x h],x.Q.Cap⟩⟩:=w1;refine⟨s2.st h λc=>F2,w2.st s2.sr h λc=>F2,λk hk hlt=>?_⟩;have hk':k∈lv x.S:=by
  have:lv (gT x h).S=lv x.S:=(I9 s2.sr h λc=>F2).lv.trans l1;rw[<-this];exact hk
 have hst:(ob (gT x h).S k).Strong=if k=h then ab (ob x.S k).Strong else (ob x.S k).Strong:=by
  have:=wu (x:=⟨dh x.S h (fR (ob x.S h)),x.Roots,x.b7,x.T,⟨x.Q.L ++ [Bf x h],x.Q.Cap⟩⟩) s2.sr h (f:=ab) (λc=>F2) (k:=k) (by rw[<-l1] at hk';exact hk');refine zcw this ?_;dsimp only;rw[o1 k hk'];by_cases e:k=h
  .subst e;rw[zb rfl,zb rfl,zb rfl]
  .rw[za e,za e,za e]
 have hnm:mb (gT x h) k=mb x k+if k=h then 1 else 0:=by
  have:=xW (x:=⟨dh x.S h (fR (ob x.S h)),x.Roots,x.b7,x.T,⟨x.Q.L ++ [Bf x h],x.Q.Cap⟩⟩) s2.sr h (f:=ab) (λc=>F2) k;refine zcw this ?_;have hi:=JM (o:=fR (ob x.S h)) hR hh rfl ho k;dsimp only at hi;have h0:k≠0:=λe=>fp hR (e▸hk');unfold mb oJ px;dsimp only;rw[zba,qr,G6,G6,G6];have:R4 (List.map (·.At) (List.filter (λt:g5=>t.Kind==1) [Bf x h])) k=if k=h then 1 else 0:=by
   show R4 [h] k=_;rw[I1,J0];by_cases e:k=h
   .rw[zb ⟨e.symm,h0⟩,zb e]
   .rw[za (λq=>e q.1.symm),za e]
  rw[this];omega
 rw[hst] at hlt |-;rw[hnm,J0];have hpos:=(L1 hR hk').st;by_cases e:k=h
 .rw[zb e] at hlt |-;rw[zb e];have:=hx.fair k hk' (by unfold ab at hlt;split at hlt <;> omega);rw[J0] at this;unfold ab at hlt |-;split at hlt;·omega
  .rename_i q;rw[za q,za (by omega)];omega
 .rw[za e] at hlt |-;rw[za e];have:=hx.fair k hk' hlt;rw[J0] at this;exact this
end Go.Sh
