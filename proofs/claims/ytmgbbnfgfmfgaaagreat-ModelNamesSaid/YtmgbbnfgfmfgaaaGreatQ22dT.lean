/- A part. -/
import Derived.Test.YtmgbbnfgfmfgaaaGreatQ22dSh
import Derived.Test.YtmgbbnfgfmfgaaaGreatQ22dSh1
set_option linter.unusedVariables false
set_option linter.unusedSimpArgs false
set_option linter.unusedSectionVars false
namespace Go.Sh
def BU(h:Int):Prop:=1<=h/\(h-1) % 32<24/\(h-1) / 32<=9
instance(h:Int):Decidable (BU h):=by unfold BU;infer_instance
theorem MG{h:Int}(q:BU h):1<=h/\h<=320:=by unfold BU at q;omega
theorem oI{i g:Int}(h1:0<=i)(h2:i<24)(h3:0<=g)(h4:g<=9):dP i g=some (1+i+32*g):=by
 unfold dP;rw[za (by simp;omega)];rw[show w7 (i*1)=i by rw[qj];omega,show w7 (1+i)=1+i by rw[qj];omega,show w7 (g*32)=32*g by rw[qj];omega,show w7 (1+i+32*g)=1+i+32*g by rw[qj];omega]
theorem nG{h:Int}(hh:h<=9223372036854775807):eI h=some (if BU h then ((h-1) % 32,(h-1) / 32,true) else (-1,-1,false)):=by
 unfold eI;split
 .rename_i q;rw[za (by unfold BU;simp at q;omega)]
 .rename_i q;have q:1<=h:=by simpa using q
  rw[O9 (n:=h-1),Dg (by omega) (by omega),YI,Je (by omega) (by omega) (by omega),YI,Je (by omega) (by omega) (by omega),YI,Int.ediv_one];split
  .rename_i q2;rw[za (by unfold BU;simp at q2;omega)]
  .rename_i q2;rw[zb (by unfold BU;simp at q2;omega)]
theorem oK{h:Int}(hh:h<=9223372036854775807):gM h=some (if BU h then (h-1) % 32 else -1):=by
 unfold gM;rw[nG hh,YI];split <;> rfl
theorem qG{h:Int}(hh:h<=9223372036854775807):jt h=some (if BU h then (h-1) / 32 else -1):=by
 unfold jt;rw[nG hh,YI];split <;> rfl
abbrev z0:n7:=⟨0,0,0,0,false,[]⟩
structure Ym (s:l4):Prop where
 len:s.b7.length<=24
 l0:0<=s.Last
 l9:s.Last<=9
 cell:∀i (h:i<s.b7.length),0<=s.b7[i].State/\s.b7[i].State<=3/\0<=s.b7[i].Gen/\s.b7[i].Gen<=s.Last
theorem md{s:l4}{i:Int}{k:Nat}{c:c8}(hi:i=k)(hk:k<s.b7.length)(hl:s.b7.length<=24):E0 s i c=some ⟨s.b7.set k c,s.Last⟩:=by
 subst hi;unfold E0 y6;rw[dj (by omega) (by omega),YI,s7 hk,YI,zR]
theorem Dy{s:l4}(hR:Ym s)(v:n7) :
  (∃i,∃h:i<s.b7.length,s.b7[i].State=0/\(∀j (hj:j<i),s.b7[j].State≠0)/\L4 s v=some (⟨s.b7.set i ⟨1,s.b7[i].Gen,v⟩,s.Last⟩,1+i+32*s.b7[i].Gen,0)) \/
  ((∀i (h:i<s.b7.length),s.b7[i].State≠0)/\L4 s v=some (s,0,4)):=by
 have hlen:=hR.len;by_cases q:∃i,∃h:i<s.b7.length,s.b7[i].State=0
 .obtain⟨i,⟨hi,h0⟩,hmin⟩:=dy (p:=λi=>∃h:i<s.b7.length,s.b7[i].State=0) q;left;refine⟨i,hi,h0,λj hj=>λe=>by have:=hmin j ⟨by omega,e⟩;omega,?_⟩;unfold L4;simp only[jn,Q2,YI];have hc:=hR.cell i hi;refine fR s.b7.length (λk=>k<=i) (by omega) (by omega) (λk hk hP=>?_) (λhP=>by omega);rcases zE k i with g | g
  .refine .inl ⟨?_,g⟩;have:s.b7[k].State≠0:=λe=>by have:=hmin k ⟨hk,e⟩;omega
   simp only[wp,hk,t6,wn,s7 hk,YI];rw[za (by simpa using this),n9]
  .have:k=i:=by omega
   subst this;refine .inr ⟨.inl _,?_,rfl⟩;simp only[wp,hk,t6,wn,s7 hk,YI,h0,md rfl hk hlen];rw[oI (by omega) (by omega) hc.2.2.1 (by have:=hR.l9;omega)];simp
 .right;refine⟨λi h e=>q ⟨i,h,e⟩,?_⟩;unfold L4;simp only[jn,Q2,YI];refine fR s.b7.length (λk=>True) (by omega) trivial (λk hk _=>?_) (λhP=>⟨.inr (),by simp,rfl⟩);refine .inl ⟨?_,trivial⟩;have:s.b7[k].State≠0:=λe=>q ⟨k,hk,e⟩;simp only[wp,hk,t6,wn,s7 hk,YI];rw[za (by simpa using this),n9]
def wh(s:l4)(h:Int)(i:Nat):Prop:=∃hi:i<s.b7.length,BU h/\(h-1) % 32=i/\s.b7[i].Gen=(h-1) / 32/\(s.b7[i].State=1\/s.b7[i].State=2)
theorem mM(s:l4){h:Int}(hh:h<=9223372036854775807) :
  (∃i,wh s h i/\z7 s h=some ((i:Int),0))\/((∀i,¬wh s h i)/\z7 s h=some (-1,if h=0 then 2 else 3)):=by
 unfold z7;by_cases h0:h=0
 .right;subst h0;exact⟨λi ⟨_,h1,_⟩=>by unfold BU at h1;omega,by simp⟩
 .rw[za (by simpa using h0),oK hh,YI,za h0];by_cases hd:BU h
  .rw[zb hd];have hd':=hd;unfold BU at hd';obtain⟨k,hk⟩:∃k:Nat,(h-1) % 32=k:=⟨((h-1) % 32).toNat,by omega⟩;rw[hk];by_cases hl:k<s.b7.length
   .rw[za (by simp;omega),s7 hl,YI,qG hh,YI,zb hd];by_cases g:s.b7[k].Gen=(h-1) / 32/\(s.b7[k].State=1\/s.b7[k].State=2)
    .left;refine⟨k,⟨hl,hd,hk,g⟩,?_⟩;rw[za];simp;omega
    .right;refine⟨λi ⟨hi,_,h2,h3⟩=>?_,?_⟩
     .have:i=k:=by omega
      subst this;exact g h3
     .rw[zb];simp;omega
   .right;refine⟨λi ⟨hi,_,h2,h3⟩=>by omega,?_⟩;rw[zb (by simp;omega)]
  .right;refine⟨λi ⟨hi,h1,_⟩=>hd h1,?_⟩;rw[za hd,zb (by simp)]
theorem uO{s:l4}{h:Int}{i:Nat}(hf:wh s h i):z7 s h=some ((i:Int),0):=by
 have hh:=MG hf.2.1;rcases mM s (h:=h) (by omega) with ⟨j,h1,h2⟩ | ⟨h1,_⟩
 .obtain⟨_,_,e1,_⟩:=hf;obtain⟨_,_,e2,_⟩:=h1;have:i=j:=by omega
  subst this;exact h2
 .exact absurd hf (h1 i)
theorem Bh{s:l4}{h:Int}(hh:h<=9223372036854775807)(hf:∀i,¬wh s h i):z7 s h=some (-1,if h=0 then 2 else 3):=by
 rcases mM s hh with ⟨j,h1,_⟩ | ⟨_,h2⟩;·exact absurd h1 (hf j)
 .exact h2
theorem sG(h:Int):(if h=0 then 2 else 3:Int)≠0:=by split <;> omega
theorem Ek{s:l4}{h:Int}{i:Nat}(hf:wh s h i):∃hi:i<s.b7.length,G9 s h=some (if s.b7[i].State=2 then (z0,3) else (s.b7[i].Val,0)):=by
 refine⟨hf.1,?_⟩;unfold G9;rw[uO hf,YI,za (by simp),s7 hf.1,YI];split <;> rename_i q
 .rw[zb (by simpa using q)]
 .rw[za (by simpa using q)]
theorem xZ{s:l4}{h:Int}(hh:h<=9223372036854775807)(hf:∀i,¬wh s h i):G9 s h=some (z0,if h=0 then 2 else 3):=by
 unfold G9;rw[Bh hh hf,YI,zb (by simpa using sG h)]
theorem Oq{s:l4}{h:Int}{v:n7}{i:Nat}(hl:s.b7.length<=24)(hf:wh s h i):∃hi:i<s.b7.length,az s h v=some (⟨s.b7.set i ⟨s.b7[i].State,s.b7[i].Gen,v⟩,s.Last⟩,0):=by
 refine⟨hf.1,?_⟩;unfold az;rw[uO hf,YI,za (by simp),s7 hf.1,YI,md rfl hf.1 hl,YI]
def oo(o:n7):xe:=⟨o.Serial,o.Strong,o.Weak,o.Prog,o.Started,o.Fields⟩
def cO(c:c8):lN:=⟨c.State,c.Gen,oo c.Val⟩
def sO(s:b6):je:=⟨s.S.b7.map cO,s.S.Last,s.Serial⟩
def Sm(s:b6):Prop:=s.S.b7.length<=30/\∀i (h:i<s.S.b7.length),s.S.b7[i].Val.Fields.length<=10
instance(s:b6):Decidable (Sm s):=by unfold Sm;infer_instance
def OQ(c:lN):Prop:=c.State=1\/c.State=2
instance(c:lN):Decidable (OQ c):=by unfold OQ;infer_instance
def VO(t:je)(o:xe):Prop:=1<=o.Serial/\o.Serial<=t.Serial/\0<=o.Strong/\0<=o.Weak /\ -1<=o.Prog/\o.Prog<=5/\o.Fields.length<=4
def JG(o:xe):Prop:=o.Serial=0/\o.Strong=0/\o.Weak=0/\o.Prog=0/\o.Started=false/\o.Fields.length=0
structure vF (t:je):Prop where
 len:t.b7.length<=24
 l0:0<=t.Last
 l9:t.Last<=9
 bg:0<=t.Serial
 cell:∀i (h:i<t.b7.length),0<=t.b7[i].State/\t.b7[i].State<=3/\0<=t.b7[i].Gen/\t.b7[i].Gen<=t.Last
 no:∀i (h:i<t.b7.length),¬OQ t.b7[i]->JG t.b7[i].Val
 ok:∀i (h:i<t.b7.length),OQ t.b7[i]->VO t t.b7[i].Val
 dif:∀i (h:i<t.b7.length) k (hk:k<i),OQ t.b7[i]->OQ t.b7[k]->t.b7[k].Val.Serial≠t.b7[i].Val.Serial
theorem Fp{c:Int->Int->Option Int}{xs:List Int}(key:Int->Int)(hc:∀x y,∃r,c x y=some r/\(r<0↔key x<key y))(hl:xs.length<4611686018427387904) :
  ∃ys,vy c xs=some ys/\ys.Perm xs/\ys.Pairwise (λa b=>key a<=key b):=by
 have hlt:∀x y,Go.Proofs.ltOf (λx y=>(c x y).getD 0) x y=decide (key x<key y):=λx y=>by
  obtain⟨r,h1,h2⟩:=hc x y;show decide ((c x y).getD 0<0)=_;rw[h1,ul];exact zbp.2 h2
 have hO:Go.Sort.SWO (Go.Proofs.ltOf λx y=>(c x y).getD 0):=by
  refine⟨λx=>?_,λx y z=>?_,λx y z=>?_⟩;·rw[hlt];simp
  .rw[hlt,hlt,hlt];simp;omega
  .rw[hlt,hlt,hlt];simp;omega
 have hcond:(∀x y,(c x y).isSome=true)/\Go.Sort.SWO (Go.Proofs.ltOf λx y=>(c x y).getD 0)/\xs.length<4611686018427387904:=⟨λx y=>by
  obtain⟨r,h1,_⟩:=hc x y;rw[h1];rfl,hO,hl⟩
 unfold vy;rw[zb hcond];refine⟨_,rfl,?_⟩;obtain⟨⟨p1,p2,p3⟩,p4⟩:=Go.Sort.pdq_sorts (Go.Proofs.ltOf λx y=>(c x y).getD 0) hO xs.toArray 0 xs.length (Go.Lib.bitLen xs.length) true true (zV _) (by simp) (Or.inl rfl);generalize Go.Sort.pdq (Go.Proofs.ltOf λx y=>(c x y).getD 0) xs.toArray 0 xs.length (Go.Lib.bitLen xs.length) true true=d at p1 p2 p3 p4 |-;have hs:d.size=xs.length:=by simpa using p1
 refine⟨?_,?_⟩
 .have e1:d.extract 0 xs.length=d:=by rw[<-hs];exact Array.extract_size
  have e2:xs.toArray.extract 0 xs.length=xs.toArray:=by
   simp
  rw[e1,e2] at p3;simpa using p3
 .rw[za6];intro i j hi hj hij;have hi':i<d.size:=by simpa using hi
  have hj':j<d.size:=by simpa using hj
  have:=p4 i j (zV _) hij (by omega);rw[hlt,getElem!_pos d j hj',getElem!_pos d i hi'] at this;have:=of_decide_eq_false this;simp only[Array.getElem_toList];omega
def cW:Nat->List c8->List Int
 | _,[]=>[]
 | k,c::r=>(if c.State=1 then [1+(k:Int)+32*c.Gen] else [])++cW (k+1) r
theorem uS(c:c8):∀(k:Nat) (xs:List c8),cW k (xs ++ [c])=cW k xs++(if c.State=1 then [1+((k+xs.length:Nat):Int)+32*c.Gen] else [])
 | k,[]=>by simp[cW]
 | k,x::r=>by
  simp only[List.cons_append,cW,uS c (k+1) r,zai,zI];rw[show k+1+r.length=k+(r.length+1) by omega]
theorem sZ:∀(k:Nat) (xs:List c8),(cW k xs).length<=xs.length
 | _,[]=>by simp[cW]
 | k,c::r=>by
  have:=sZ (k+1) r;simp only[cW,zK,zI];split <;> simp <;> omega
theorem oP{h:Int}:∀ {k:Nat} {xs:List c8},h∈cW k xs↔∃i,∃hi:i<xs.length,xs[i].State=1/\h=1+((k+i:Nat):Int)+32*xs[i].Gen
 | k,[]=>by simp[cW]
 | k,c::r=>by
  simp only[cW,zw,oP (k:=k+1) (xs:=r)];constructor
  .rintro (q | ⟨i,hi,q1,q2⟩)
   .by_cases hc:c.State=1
    .rw[zb hc] at q;exact⟨0,by simp,by simpa using hc,by simpa using q⟩
    .rw[za hc] at q;cases q
   .exact⟨i+1,by simpa using hi,by simpa using q1,by simp only[List.getElem_cons_succ];rw[q2,show k+1+i=k+(i+1) by omega]⟩
  .rintro⟨i,hi,q1,q2⟩;cases i with
   | zero=>
    left;simp only[List.getElem_cons_zero] at q1 q2;rw[zb q1];simp[q2]
   | succ i=>
    right;simp only[List.getElem_cons_succ] at q1 q2;exact⟨i,by simpa using hi,q1,by rw[q2,show k+1+i=k+(i+1) by omega]⟩
def sk(cs:List c8)(h:Int):Int:=match cs[((h-1) % 32).toNat]? with
 | some c=>c.Val.Serial
 | none=>0
theorem Fo{cs:List c8}{i:Nat}{g:Int}(h:i<cs.length)(h32:cs.length<=32):sk cs (1+(i:Int)+32*g)=cs[i].Val.Serial:=by
 unfold sk;have:((1+(i:Int)+32*g-1) % 32).toNat=i:=by omega
 rw[this,zc h]
structure XD (cs:List c8):Prop where
 len:cs.length<=24
 gen:∀i (h:i<cs.length),0<=cs[i].Gen/\cs[i].Gen<=9
theorem Bt{s:b6}(hR:XD s.S.b7):∃l,F6 s=some l/\l.Perm (cW 0 s.S.b7)/\l.Pairwise (λa b=>sk s.S.b7 a<=sk s.S.b7 b):=by
 have hlen:=hR.len;unfold F6;simp only[jn];have hh:=sZ 0 s.S.b7;have hloop:∃e:List (Int × Int) × List Int,lp (S:=Int × (List (Int × Int)) × (List Int)) (E:=((List (Int × Int)) × (List Int))) (λ((s23,s24,s25):Int × (List (Int × Int)) × (List Int))=>
   if (decide (s23<(s.S.b7.length:Int))) then
    ((ix s.S.b7 s23).bind λv35=>
     if (v35.State==1) then
      (dP s23 v35.Gen).bind λv36=>
      (app 8 s25 [v36]).bind λv37=>
      some (.inl (w7 (s23+1),(o7 s24 v36 v35.Val.Serial),v37))
     else
     some (.inl (w7 (s23+1),s24,s25)))
   else
   some (.inr (s24,s25))) (0,[],[])=some e/\e.2=cW 0 s.S.b7/\∀h∈e.2,y9 e.1 h=some (sk s.S.b7 h):=by
  refine jx (T:=List (Int × Int) × List Int) s.S.b7.length (λk e=>e.2=cW 0 (s.S.b7.take k)/\∀h∈e.2,y9 e.1 h=some (sk s.S.b7 h)) (λe:List (Int × Int) × List Int=>e.2=cW 0 s.S.b7/\∀h∈e.2,y9 e.1 h=some (sk s.S.b7 h)) (by omega) ⟨by simp[cW],by simp⟩ (λk e hk hP=>?_) (λe hP=>?_)
  .obtain⟨h1,h2⟩:=hP;obtain⟨m,l⟩:=e;simp only at h1 h2;left;have hc:=hR.gen k hk;have hl:l.length<=24:=by rw[h1];have:=sZ 0 (s.S.b7.take k);simp at this;omega
   have et:s.S.b7.take (k+1)=s.S.b7.take k ++ [s.S.b7[k]]:=by rw[List.take_add_one,zc hk];rfl
   have el:(s.S.b7.take k).length=k:=by simp;omega
   by_cases q:s.S.b7[k].State=1
   .refine⟨(o7 m (1+(k:Int)+32*s.S.b7[k].Gen) s.S.b7[k].Val.Serial,l ++ [1+(k:Int)+32*s.S.b7[k].Gen]),?_,?_,?_⟩
    .simp only[wp,hk,t6,wn,s7 hk,YI,q,mt];rw[oI (by omega) (by omega) hc.1 hc.2,YI,K3 (by omega) (by simp;omega),YI,n9]
    .simp only;rw[et,uS,zb q,el,h1,zaa]
    .intro h hh;simp only[zw,zt] at hh |-;rw[pR];rcases hh with hh | rfl
     .split;·rename_i e;rw[e,Fo hk (by omega)]
      .exact h2 h hh
     .rw[zb rfl,Fo hk (by omega)]
   .refine⟨(m,l),?_,?_,h2⟩
    .simp only[wp,hk,t6,wn,s7 hk,YI];rw[za (by simpa using q),n9]
    .simp only;rw[et,uS,za q,h1,zay]
  .obtain⟨h1,h2⟩:=hP;obtain⟨m,l⟩:=e;refine⟨(m,l),by simp only[zbg,zbz,zD,qr],?_,h2⟩;simpa using h1
 obtain⟨⟨m,l⟩,e1,e2,e3⟩:=hloop;rw[show lp _ _=_ from e1,YI];simp only at e2 e3 |-;subst e2;obtain⟨ys,q1,q2,q3⟩:=Fp (c:=λp q=>iU p q m) (xs:=cW 0 s.S.b7) (λh=>(y9 m h).getD 0) (λx y=>by
  unfold iU hZ cV;simp only[YI,bne_self_eq_false,zD,qr];generalize (y9 m x).getD 0=a;generalize (y9 m y).getD 0=b;by_cases h1:a<b
  .rw[zC h1];exact⟨-1,rfl,by simp[h1]⟩
  .rw[zY h1];by_cases h2:a > b
   .rw[zC h2];exact⟨1,rfl,by simp[h1]⟩
   .rw[zY h2];exact⟨0,rfl,by simp[h1]⟩) (by omega)
 refine⟨ys,by rw[q1];rfl,q2,q3.imp_of_mem λ{a b} ha hb hab=>?_⟩;rw[e3 a (q2.mem_iff.1 ha),e3 b (q2.mem_iff.1 hb)] at hab;simpa using hab
theorem rL{key:Int->Int}:∀ {l m:List Int},l.Perm m->l.Pairwise (λa b=>key a<=key b)->m.Pairwise (λa b=>key a<=key b)->(∀a∈l,∀b∈l,key a=key b->a=b)->l=m
 | [],m,hp,_,_,_=>(List.nil_perm.1 hp).symm
 | a::l,[],hp,_,_,_=>by simp at hp
 | a::l,b::m,hp,h1,h2,hk=>by
  have ha:=zbe.1 h1;have hb:=zbe.1 h2;have e:a=b:=by
   have m1:b∈a::l:=hp.mem_iff.2 (zf ..);have m2:a∈b::m:=hp.mem_iff.1 (zf ..);rcases zN.1 m1 with q | q
   .exact q.symm
   .rcases zN.1 m2 with q' | q'
    .exact q'
    .exact hk a (zf ..) b m1 (Int.le_antisymm (ha.1 b q) (hb.1 a q'))
  subst e;rw[rL (List.perm_cons a |>.1 hp) ha.2 hb.2 λx hx y hy=>hk x (zl _ hx) y (zl _ hy)]
theorem kY(s:b6):(sO s).b7.length=s.S.b7.length:=by simp[sO]
theorem pf{s:b6}(h:vF (sO s)):s.S.b7.length<=24:=by have:=h.len;rwa [kY] at this
theorem Dl{s:b6}(h:vF (sO s))(i:Nat)(hi:i<s.S.b7.length):0<=s.S.b7[i].State/\s.S.b7[i].State<=3/\0<=s.S.b7[i].Gen/\s.S.b7[i].Gen<=s.S.Last:=by
 have:=h.cell i (by rw[kY];exact hi);simpa[sO,cO] using this
theorem Hi{s:b6}(h:vF (sO s)):XD s.S.b7:=⟨pf h,λi hi=>by have:=Dl h i hi;have h9:s.S.Last<=9:=h.l9;omega⟩
theorem Og{s:b6}(h:vF (sO s))(i:Nat)(hi:i<s.S.b7.length)(ht:s.S.b7[i].State=1\/s.S.b7[i].State=2):VO (sO s) (oo s.S.b7[i].Val):=by
 have:=h.ok i (by rw[kY];exact hi);simp only[sO,q9,cO,OQ] at this;exact this ht
theorem Of{s:b6}(h:vF (sO s)){i j:Nat}(hi:i<s.S.b7.length)(hj:j<s.S.b7.length)(a:s.S.b7[i].State=1\/s.S.b7[i].State=2)(b:s.S.b7[j].State=1\/s.S.b7[j].State=2)(e:s.S.b7[i].Val.Serial=s.S.b7[j].Val.Serial):i=j:=by
 have key:∀i (hi:i<s.S.b7.length) j (hj:j<i),(s.S.b7[i].State=1\/s.S.b7[i].State=2)->(s.S.b7[j].State=1\/s.S.b7[j].State=2)->s.S.b7[j].Val.Serial≠s.S.b7[i].Val.Serial:=λi hi j hj a b=>by
  have:=h.dif i (by rw[kY];exact hi) j hj;simp only[sO,q9,cO,OQ,oo] at this;exact this a b
 rcases Nat.lt_trichotomy i j with q | q | q
 .exact absurd e (key j hj i q b a)
 .exact q
 .exact absurd e.symm (key i hi j q a b)
theorem oO{s:b6}(hR:vF (sO s)){x:Int}(hx:x∈cW 0 s.S.b7):∃i,∃hi:i<s.S.b7.length,s.S.b7[i].State=1/\x=1+(i:Int)+32*s.S.b7[i].Gen/\wh s.S x i/\sk s.S.b7 x=s.S.b7[i].Val.Serial/\x6 s x=some (s.S.b7[i].Val,0):=by
 obtain⟨i,hi,h1,h2⟩:=oP.1 hx;rw[zaa] at h2;have hl:=(pf hR);have hc:=(Hi hR).gen i hi;have hf:wh s.S x i:=⟨hi,by unfold BU;omega,by omega,by omega,.inl h1⟩;refine⟨i,hi,h1,h2,hf,by rw[h2];exact Fo hi (by omega),?_⟩;obtain⟨_,e⟩:=Ek hf;unfold x6;rw[e,za (by omega)];rfl
theorem Mr{s:b6}{x:Int}{i:Nat}(hf:wh s.S x i)(h1:∀hi:i<s.S.b7.length,s.S.b7[i].State=1):x∈cW 0 s.S.b7:=by
 obtain⟨hi,q1,q2,q3,_⟩:=hf;refine oP.2 ⟨i,hi,h1 hi,?_⟩;unfold BU at q1;rw[zaa];omega
theorem Hn{s:b6}(hR:vF (sO s)){x y:Int}(hx:x∈cW 0 s.S.b7)(hy:y∈cW 0 s.S.b7)(e:sk s.S.b7 x=sk s.S.b7 y):x=y:=by
 obtain⟨i,hi,a1,a2,_,a4,_⟩:=oO hR hx;obtain⟨j,hj,b1,b2,_,b4,_⟩:=oO hR hy;have:=(Of hR) hi hj (.inl a1) (.inl b1) (by rw[<-a4,<-b4];exact e);subst this;rw[a2,b2]
theorem mR:∀(k:Nat) (cs:List c8),k+cs.length<=32->(cW k cs).Nodup
 | _,[],_=>zb3
 | k,c::r,h=>by
  simp only[zI] at h;unfold cW;rw[zbu];refine⟨by split <;> simp,mR (k+1) r (by omega),λa ha b hb e=>?_⟩;split at ha
  .simp only[zt] at ha;subst ha;subst e;obtain⟨i,hi,h1,h2⟩:=oP.1 hb;have:((1+(k:Int)+32*c.Gen)-1) % 32=((1+((k+1+i:Nat):Int)+32*r[i].Gen)-1) % 32:=by rw[h2]
   omega
  .cases ha
theorem IC{s:b6}(hR:vF (sO s)):∃l,F6 s=some l/\l.Perm (cW 0 s.S.b7)/\l.Pairwise (λa b=>sk s.S.b7 a<sk s.S.b7 b):=by
 obtain⟨l,h1,h2,h3⟩:=Bt (Hi hR);refine⟨l,h1,h2,?_⟩;have hn:l.Nodup:=h2.nodup_iff.2 (mR 0 _ (by have:=(pf hR);omega));have:=List.Pairwise.and h3 hn;refine this.imp_of_mem λ{a b} ha hb ⟨q1,q2⟩=>?_;rcases Int.lt_or_eq_of_le q1 with q | q
 .exact q
 .exact absurd (Hn hR (h2.mem_iff.1 ha) (h2.mem_iff.1 hb) q) q2
theorem ta:∀(k:Nat) (cs:List c8) (i:Nat) (c:c8) (hi:i<cs.length),cs[i].State≠1->c.State=1->(cW k (cs.set i c)).Perm ((1+((k+i:Nat):Int)+32*c.Gen)::cW k cs)
 | _,[],i,_,hi,_,_=>by simp at hi
 | k,d::r,0,c,hi,h1,h2=>by
  simp only[List.getElem_cons_zero] at h1;simp only[List.set_cons_zero,cW,zb h2,za h1,zci,zbc];exact List.Perm.refl _
 | k,d::r,i+1,c,hi,h1,h2=>by
  simp only[List.getElem_cons_succ] at h1;simp only[List.set_cons_succ,cW];have:=ta (k+1) r i c (by simpa using hi) h1 h2;rw[show k+1+i=k+(i+1) by omega] at this;exact (List.Perm.append_left _ this).trans List.perm_middle
theorem Vl{cs:List c8}{i:Nat}{c:c8}{x:Int}(h:((x-1) % 32).toNat≠i):sk (cs.set i c) x=sk cs x:=by
 unfold sk;rw[List.getElem?_set_ne (by omega)]
theorem GN{s:b6}(hR:vF (sO s)){i:Nat}(hi:i<s.S.b7.length)(h0:s.S.b7[i].State=0)(o:n7)(ho:o.Serial=s.Serial+1){l:List Int}(hl:F6 s=some l) :
  F6 ⟨⟨s.S.b7.set i ⟨1,s.S.b7[i].Gen,o⟩,s.S.Last⟩,s.Serial+1⟩=some (l ++ [1+(i:Int)+32*s.S.b7[i].Gen]):=by
 obtain⟨l',e,l1,l2⟩:=IC hR;rw[hl] at e;cases e;have hlen:=pf hR;have hsl:XD (s.S.b7.set i ⟨1,s.S.b7[i].Gen,o⟩):=⟨by simpa using hlen,λj hj=>by
  rw[zcr];have:=(Hi hR).gen;split;·exact this i hi
  .exact this j (by simpa using hj)⟩
 obtain⟨m,m1,m2,m3⟩:=Bt (s:=⟨⟨s.S.b7.set i ⟨1,s.S.b7[i].Gen,o⟩,s.S.Last⟩,s.Serial+1⟩) hsl;have hp:=ta 0 s.S.b7 i ⟨1,s.S.b7[i].Gen,o⟩ hi (by omega) rfl;rw[zaa] at hp;have hold:∀x∈l,sk (s.S.b7.set i ⟨1,s.S.b7[i].Gen,o⟩) x=sk s.S.b7 x/\sk s.S.b7 x<=s.Serial:=λx hx=>by
  obtain⟨j,hj,a1,a2,a3,a4,_⟩:=oO hR (l1.mem_iff.1 hx);refine⟨Vl ?_,?_⟩
  .obtain⟨_,_,q,_⟩:=a3;intro e;have:j=i:=by omega
   subst this;omega
  .rw[a4];exact (Og hR j hj (.inl a1)).2.1
 have hnew:sk (s.S.b7.set i ⟨1,s.S.b7[i].Gen,o⟩) (1+(i:Int)+32*s.S.b7[i].Gen)=s.Serial+1:=by
  rw[Fo (by simpa using hi) (by simp;omega)];simp[ho]
 rw[m1];congr 1;refine rL (key:=sk (s.S.b7.set i ⟨1,s.S.b7[i].Gen,o⟩)) ?_ m3 ?_ ?_
 .refine m2.trans (hp.trans ?_);refine List.Perm.trans (List.Perm.cons _ l1.symm) ?_;exact (List.perm_append_singleton _ _).symm
 .rw[zau];refine⟨l2.imp_of_mem λ{a b} ha hb hab=>?_,by simp,λa ha b hb=>?_⟩;·rw[(hold a ha).1,(hold b hb).1];omega
  .rw[zt] at hb;subst hb;rw[hnew,(hold a ha).1];have:=(hold a ha).2;omega
 .have hm:∀a∈m,a∈l\/a=1+(i:Int)+32*s.S.b7[i].Gen:=λa ha=>by
   have:=hp.mem_iff.1 (m2.mem_iff.1 ha);rcases zN.1 this with q | q
   .exact .inr q
   .exact .inl (l1.mem_iff.2 q)
  intro a ha b hb hab;rcases hm a ha with qa | rfl <;> rcases hm b hb with qb | rfl
  .rw[(hold a qa).1,(hold b qb).1] at hab;exact Hn hR (l1.mem_iff.1 qa) (l1.mem_iff.1 qb) hab
  .rw[(hold a qa).1,hnew] at hab;have:=(hold a qa).2;omega
  .rw[(hold b qb).1,hnew] at hab;have:=(hold b qb).2;omega
  .rfl
theorem WI(n last:Int):∃a,jh n last=some a/\Db n last=some (sO a)/\vF (sO a)/\a.S.b7.length<=24/\∀i (h:i<a.S.b7.length),a.S.b7[i].Val.Fields.length<=4:=by
 unfold jh Db ay Jf;by_cases h:0<=n/\n<=24/\0<=last/\last<=9
 .obtain⟨h1,h2,h3,h4⟩:=h;obtain⟨k,rfl⟩:∃k:Nat,n=k:=⟨n.toNat,by omega⟩;rw[za (by simp;omega),za (by simp;omega),kD (by omega) (by omega),kD (by omega) (by omega)];simp only[YI,List.length_replicate];rw[kD (by omega) (by omega)];refine⟨_,rfl,?_,?_,by simp;omega,λi h=>by simp⟩;·simp[sO,cO,oo]
  .refine⟨by simp[sO];omega,h3,h4,by simp[sO],λi h=>?_,λi h=>?_,λi h q=>?_,λi h k hk q=>?_⟩;·simp[sO,cO];omega
   .simp[sO,cO,oo,JG]
   .exfalso;simp[sO,cO,oo,OQ] at q
   .exfalso;simp[sO,cO,oo,OQ] at q
 .rw[zb (by simp;omega),zb (by simp;omega)];simp only[YI,zah];rw[show mk 80 ((0:Nat):Int) (⟨0,0,⟨0,0,0,0,false,[]⟩⟩:lN)=some [] from rfl];refine⟨_,rfl,rfl,⟨by simp[sO],by simp[sO],by simp[sO],by simp[sO],?_,?_,?_,?_⟩,by simp,λi h=>by simp at h⟩ <;> (intro i h;simp[sO] at h)
noncomputable def lv(s:b6):List Int:=(F6 s).getD []
def ob(s:b6)(h:Int):n7:=((x6 s h).getD (z0,0)).1
def outs(s:b6)(h:Int):List Int:=nz (ob s h).Fields
def FB(s:b6):Prop:=∀c∈s.S.b7,∀x∈c.Val.Fields,x<=9223372036854775807
section
variable{s:b6}(hR:vF (sO s))
include hR
theorem mV:F6 s=some (lv s)/\(lv s).Perm (cW 0 s.S.b7)/\(lv s).Pairwise (λa b=>sk s.S.b7 a<sk s.S.b7 b):=by
 obtain⟨l,h1,h2,h3⟩:=IC hR;have:lv s=l:=by unfold lv;rw[h1];rfl
 rw[this];exact⟨h1,h2,h3⟩
theorem gw:F6 s=some (lv s):=(mV hR).1
theorem CH{h:Int}:h∈lv s↔h∈cW 0 s.S.b7:=(mV hR).2.1.mem_iff
theorem M0:(lv s).length<=24:=by
 rw[(mV hR).2.1.length_eq];exact zP (sZ 0 s.S.b7) (pf hR)
theorem oV:(lv s).Nodup:=(mV hR).2.1.nodup_iff.2 (mR 0 _ (by have:=(pf hR);omega))
theorem uW{h:Int}(hh:h∈lv s):x6 s h=some (ob s h,0):=by
 obtain⟨i,hi,_,_,_,_,e⟩:=oO hR ((CH hR).1 hh);unfold ob;rw[e];rfl
theorem CG{h:Int}(hh:h∈lv s):∃i,∃hi:i<s.S.b7.length,s.S.b7[i].State=1/\h=1+(i:Int)+32*s.S.b7[i].Gen/\wh s.S h i/\ob s h=s.S.b7[i].Val:=by
 obtain⟨i,hi,h1,h2,h3,_,e⟩:=oO hR ((CH hR).1 hh);refine⟨i,hi,h1,h2,h3,?_⟩;unfold ob;rw[e];rfl
theorem mU{h:Int}(hh:h∈lv s):1<=h/\h<=320:=by
 obtain⟨i,hi,_,_,hf,_⟩:=CG hR hh;exact MG hf.2.1
theorem SC{h:Int}(hh:h<=9223372036854775807)(hn:h∉lv s):∃e,e≠0/\x6 s h=some (z0,e):=by
 rcases mM s.S hh with ⟨i,hf,_⟩ | ⟨hf,_⟩
 .obtain⟨hi,e⟩:=Ek hf;unfold x6;rw[e];by_cases h2:s.S.b7[i].State=2
  .rw[zb h2];exact⟨3,by decide,rfl⟩
  .exact absurd ((CH hR).2 (Mr hf λ_=>hf.2.2.2.2.resolve_right h2)) hn
 .unfold x6;rw[xZ hh hf];exact⟨_,sG h,rfl⟩
theorem vM{h:Int}(hh:h<=9223372036854775807)(hn:h∉lv s):ob s h=z0:=by
 obtain⟨e,_,h1⟩:=SC hR hh hn;unfold ob;rw[h1];rfl
theorem ic{h:Int}(hh:h<=9223372036854775807):∃e,x6 s h=some (ob s h,e)/\(e=0↔h∈lv s):=by
 by_cases q:h∈lv s
 .exact⟨0,uW hR q,by simp[q]⟩
 .obtain⟨e,h0,h1⟩:=SC hR hh q;refine⟨e,?_,by simp[h0,q]⟩;rw[h1,vM hR hh q]
theorem Re{h:Int}(hh:h<=9223372036854775807)(hn:h∉lv s):outs s h = []:=by
 unfold outs;rw[vM hR hh hn];rfl
theorem IS(h:Int)(hh:h<=9223372036854775807):(ob s h).Fields.length<=4:=by
 by_cases q:h∈lv s
 .obtain⟨i,hi,h1,_,_,e⟩:=CG hR q;rw[e];exact (Og hR i hi (.inl h1)).2.2.2.2.2.2
 .rw[vM hR hh q];exact zV _
theorem yw(h:Int)(hh:h<=9223372036854775807):(outs s h).length<=4:=zP (Nn _) (IS hR h hh)
theorem Rc(hF:FB s){h x:Int}(hh:h<=9223372036854775807)(hx:x∈outs s h):x<=9223372036854775807:=by
 by_cases q:h∈lv s
 .obtain⟨i,hi,h1,_,_,e⟩:=CG hR q;unfold outs at hx;rw[e] at hx;exact hF _ (zh hi) x (fW.1 hx).1
 .rw[Re hR hh q] at hx;cases hx
end
theorem Rf{s:b6}{h x:Int}(hx:x∈outs s h):x≠0:=(fW.1 hx).2
theorem EI(v:List Int)(h:v.length<=1000000):ji v=some (nz v):=by
 unfold ji qh;simp only[jn,YI];rw[U4 v (λb x=>if x != 0 then b ++ [x] else b) id (λk b=>b.length<=k) (by omega) (by simp) (λk hk b hb=>?_) (λb _=>?_)]
 .simp only[YI,id];rw[foldl_filter];rfl
 .simp only[wp,hk,t6,wn,s7 hk,YI];by_cases q:(v[k] != 0)=true
  .rw[zb (by simpa using q),zb q,K3 (by omega) (by simp;omega),YI,n9];exact⟨rfl,by simp;omega⟩
  .rw[za (by simpa using q),za q,n9];exact⟨rfl,by omega⟩
 .simp only[zbg,zbz,zD,qr];rfl
noncomputable def jv(s:b6)(h:Int):Nat:=((lv s).map λx=>J3 (outs s x) h).sum
noncomputable def Yq(s:b6):List Int:=(lv s).flatMap λx=>(outs s x).filter λy=>decide (y∉lv s)
theorem SA{s:b6}(hR:vF (sO s)){k:Nat}(hk:k<(lv s).length):(lv s)[k]<=9223372036854775807:=by
 have:=mU hR (zh hk);omega
section
variable{s:b6}(hR:vF (sO s))
include hR
theorem ND{h:Int}(hh:h<=9223372036854775807):lQ s h=some (outs s h):=by
 obtain⟨e,h1,_⟩:=ic hR hh;unfold lQ;rw[h1,YI,EI _ (by have:=IS hR h hh;simp only;omega)];rfl
theorem MJ(h:Int):jv s h<=96:=by
 have:=Hq (λx=>J3 (outs s x) h) 4 (lv s) λx hx=>zP (Hr _ _) (yw hR x (by have:=mU hR hx;omega));have:=M0 hR;unfold jv;omega
theorem Wn(h:Int):xf s h=some (jv s h:Int):=by
 unfold xf nk;simp only[jn,YI];rw[show F6 s=_ from gw hR,YI];have hl:=M0 hR;rw[U4 (lv s) (λ(b:Int) x=>b+(J3 (outs s x) h:Int)) id (λk b=>0<=b/\b<=4*k) (by omega) (by simp) (λk hk b hb=>?_) (λb _=>?_)]
 .simp only[YI,id];have:=xR (λx=>J3 (outs s x) h) (lv s) 0;rw[show ((0:Nat):Int)=0 from rfl] at this;rw[this,zaa];rfl
 .have ho:=ND hR (SA hR hk);have hol:=yw hR _ (SA hR hk);have ht:=Hr (outs s (lv s)[k]) h;simp only[wp,hk,t6,wn,s7 hk,YI,ho];rw[U4 (outs s (lv s)[k]) (λ(b:Int) x=>if (x==h&&h != 0) then b+1 else b) id (λj c=>b<=c/\c<=b+j) (by omega) (by simp) (λj hj c hc=>?_) (λc _=>?_)]
  .simp only[YI,id];rw[Eg,n9];exact⟨rfl,by omega⟩
  .simp only[wp,hj,t6,wn,s7 hj,YI];have hne:=Rf (zh hj);by_cases q:(outs s (lv s)[k])[j]=h
   .have e2:((outs s (lv s)[k])[j]==h&&h != 0)=true:=by simp only[zA,me,bne_iff_ne];omega
    rw[e2,zb (by simpa using q),zb rfl,n9,O9 (n:=c+1) (by omega) (by omega)];exact⟨rfl,by omega⟩
   .have e2:((outs s (lv s)[k])[j]==h&&h != 0)=false:=by rw[zbk];simp only[ne_eq,zA,me,bne_iff_ne];omega
    rw[e2,za (by simpa using q),n9];exact⟨rfl,by simp;omega⟩
  .simp only[zbg,zbz,zD,qr];rfl
 .simp only[zbg,zbz,zD,qr];rfl
end
section
variable{s:b6}(hR:vF (sO s))(hF:FB s)
include hR hF
end
theorem Ox{α β:Type}(g:α->β->Nat)(l:List α):∀(m:List β),(l.map λx=>(m.map λy=>g x y).sum).sum=(m.map λy=>(l.map λx=>g x y).sum).sum:=by
 intro m;induction l with
 | nil=>
  simp only[List.map_nil,List.sum_nil];induction m with
  | nil=>rfl
  | cons y m ih=>simp only[zF,ww,<-ih,zbc]
 | cons x l ih=>
  simp only[zF,ww,ih];clear ih;induction m with
  | nil=>rfl
  | cons y m ih=>
   simp only[zF,ww];omega
theorem Jx{l:List Int}(hn:l.Nodup)(h0:(0:Int)∉l):∀(m:List Int),(l.map λh=>J3 m h).sum=(m.filter λy=>decide (y∈l)).length
 | []=>by
  have:∀l:List Int,(l.map λh=>J3 [] h).sum=0:=λl=>by
   induction l with
   | nil=>rfl
   | cons x l ih=>rw[zF,ww,ih];simp[J3]
  simp[this]
 | y::m=>by
  have ih:=Jx hn h0 m;have e:(l.map λh=>J3 (y::m) h).sum=(l.map λh=>J3 m h).sum+(if y∈l then 1 else 0):=by
   clear ih;induction l with
   | nil=>simp
   | cons x l ihl=>
    rw[pi] at hn;have:=ihl hn.2 (λq=>h0 (zl _ q));simp only[zF,ww,this];have hx:x≠0:=λq=>h0 (q▸zf ..);have ex:J3 (y::m) x=J3 m x+(if y=x then 1 else 0):=by
     unfold J3;rw[za hx,za hx,zcj];simp
    rw[ex];by_cases q:y=x
    .subst q;rw[zb rfl,za hn.1,zb (zf ..)];omega
    .rw[za q];by_cases q2:y∈l
     .rw[zb q2,zb (zl _ q2)];omega
     .rw[za q2,za (λq3=>(zN.1 q3).elim q q2)];omega
  rw[e,ih];by_cases q:y∈l
  .simp[q]
  .simp[q]
theorem mL{α:Type}(p:α->Bool):∀l:List α,l.length=(l.filter p).length+(l.filter λx => !p x).length
 | []=>rfl
 | x::l=>by
  have:=mL p l;by_cases h:p x
  .simp[h];omega
  .simp[h];omega
theorem BD{s:b6}(hR:vF (sO s)):((lv s).map λx=>(outs s x).length).sum=((lv s).map λx=>jv s x).sum+(Yq s).length:=by
 unfold jv Yq;rw[Ox (λx y=>J3 (outs s y) x) (lv s) (lv s)];have h0:(0:Int)∉lv s:=λq=>by have:=mU hR q;omega
 simp only[Jx (oV hR) h0];generalize lv s=m;have key:∀l:List Int,(l.map λx=>(outs s x).length).sum=(l.map λx=>((outs s x).filter λy=>decide (y∈m)).length).sum+(l.flatMap λx=>(outs s x).filter λy=>decide (y∉m)).length:=by
  intro l;induction l with
  | nil=>rfl
  | cons x l ih=>
   simp only[zF,ww,zba,zK];have:=mL (λy=>decide (y∈m)) (outs s x);simp only[<-decide_not] at this;omega
 exact key m
theorem Wu{s:b6}(hR:vF (sO s)){l:List Int}(hp:l.Perm (cW 0 s.S.b7))(hs:l.Pairwise (λa b=>sk s.S.b7 a<sk s.S.b7 b)):lv s=l:=by
 obtain⟨_,l2,l3⟩:=mV hR;exact rL (key:=sk s.S.b7) (l2.trans hp.symm) (l3.imp λh=>by omega) (hs.imp λh=>by omega) λa ha b hb e=>Hn hR (l2.mem_iff.1 ha) (l2.mem_iff.1 hb) e
inductive rV (s:b6) (l:List Int):Int->Prop
 | base {h:Int}:h∈l->h∈lv s->rV s l h
 | step {a b:Int}:rV s l a->b∈outs s a->b∈lv s->rV s l b
open Classical in
noncomputable def Hd (s:b6) (l:List Int):List Int:=(lv s).filter λh=>decide (rV s l h)
open Classical in
noncomputable def lst (s:b6) (l:List Int):List Int:=(lv s).filter λh=>decide (¬rV s l h)
def Cl(s:b6)(l:List Int):Prop:=∀a∈l,∀b∈outs s a,b∈lv s->b∈l
def LB(l:List Int):Prop:=∀x∈l,x<=9223372036854775807
theorem rV.live{s:b6}{l:List Int}{h:Int}(q:rV s l h):h∈lv s:=by cases q <;> assumption
open Classical in
theorem fp {s:b6} {l:List Int} {h:Int}:h∈Hd s l↔rV s l h:=by
 unfold Hd;rw[zk];exact⟨λq=>zbj q.2,λq=>⟨q.live,zC q⟩⟩
theorem Rr{s:b6}(hR:vF (sO s))(l:List Int):(Hd s l).length<=24:=zP (zy ..) (M0 hR)
theorem UW(s:b6)(l:List Int):Cl s (Hd s l):=λa ha b hb hl=>fp.2 (.step (fp.1 ha) hb hl)
theorem rV.least{s:b6}{l m:List Int}(hc:Cl s m)(hl:∀x∈l,x∈lv s->x∈m){h:Int}(q:rV s l h):h∈m:=by
 induction q with
 | base h1 h2=>exact hl _ h1 h2
 | step _ h1 h2 ih=>exact hc _ ih _ h1 h2
theorem rV.mono{s:b6}{l m:List Int}(hl:∀x∈l,x∈lv s->rV s m x){h:Int}(q:rV s l h):rV s m h:=by
 induction q with
 | base h1 h2=>exact hl _ h1 h2
 | step _ h1 h2 ih=>exact .step ih h1 h2
theorem KK{s:b6}{l m:List Int}(h:∀x,rV s l x↔rV s m x):Hd s l=Hd s m:=by
 unfold Hd;exact or λx _=>zbp.2 (h x)
theorem filter_lt{α:Type}{p q:α->Bool}:∀ {l:List α},(∀x∈l,p x=true->q x=true)->∀x∈l,q x=true->p x=false->(l.filter p).length<(l.filter q).length
 | [],_,x,hx,_,_=>by cases hx
 | y::l,h,x,hx,h1,h2=>by
  have hle:(l.filter p).length<=(l.filter q).length:=by
   have h':∀x∈l,p x=true->q x=true:=λx hx=>h x (zl _ hx);clear h hx;induction l with
   | nil=>simp
   | cons z l ih=>
    have:=ih λx hx=>h' x (zl _ hx);have hz:=h' z (zf ..);simp only[ms];by_cases a:p z=true
    .rw[zb a,zb (hz a)];simp only[zI];omega
    .rw[za a];split <;> (try simp only[zI]) <;> omega
  rcases zN.1 hx with rfl | hx'
  .simp only[ms,h1,h2,wn,zD,qr,zI];omega
  .have:=filter_lt (λx hx=>h x (zl _ hx)) x hx' h1 h2;have hy:=h y (zf ..);simp only[ms];by_cases a:p y=true
   .rw[zb a,zb (hy a)];simp only[zI];omega
   .rw[za a];split <;> (try simp only[zI]) <;> omega
theorem Y9{l m:List Int}(hn:l.Nodup)(h:∀x∈l,x∈m):l.length<=m.length:=by
 induction l generalizing m with
 | nil=>simp
 | cons x l ih=>
  rw[pi] at hn;have hx:=h x (zf ..);have:=ih (m:=m.erase x) hn.2 λy hy=>(List.mem_erase_of_ne (λe=>hn.1 (by subst e;exact hy))).2 (h y (zl _ hy));rw[List.length_erase_of_mem hx] at this;have:0<m.length:=List.length_pos_of_mem hx;simp only[zI];omega
section
variable{s:b6}(hR:vF (sO s))
include hR
theorem Kp{h:Int}(hh:h<=9223372036854775807):cq s h=some (decide (h∈lv s)):=by
 obtain⟨e,h1,h2⟩:=ic hR hh;unfold cq;rw[h1,YI];congr 1;rw[zbm,me,zH];exact h2
abbrev Mk(m:List (Int × Bool))(x:Int):Prop:=(y9 m x).getD false=true
noncomputable def Jz(s:b6)(m:List (Int × Bool)):Nat:=((lv s).filter λx => !(y9 m x).getD false).length
omit hR in
theorem dE (m:List (Int × Bool)) (x y:Int):Mk (o7 m x true) y↔y=x\/Mk m y:=by
 unfold Mk;rw[pR];by_cases q:y=x
 .simp[q]
 .simp[q]
omit hR in
theorem RQ {m:List (Int × Bool)} {x:Int} (hx:x∈lv s) (hm:¬Mk m x):Jz s (o7 m x true)<Jz s m:=by
 unfold Jz;refine filter_lt (λy _ h=>?_) x hx (by simpa[Mk] using hm) ?_
 .by_cases q:Mk m y
  .have:=(dE m x y).2 (.inr q);unfold Mk at this;rw[this] at h;cases h
  .simpa[Mk] using q
 .have:=(dE m x x).2 (.inl rfl);unfold Mk at this;rw[this];rfl
structure FU (s:b6) (l:List Int) (q:c9) (m:List (Int × Bool)):Prop where
 nd:q.L.Nodup
 cap:q.Cap=((lv s).length:Int)
 il:∀x∈q.L,Mk m x
 rc:∀x,Mk m x->rV s l x
omit hR in
theorem FU.room {l:List Int} {q:c9} {m:List (Int × Bool)} (h:FU s l q m) {x:Int} (hx:x∈lv s) (hm:¬Mk m x):q.L.length<(lv s).length:=by
 have:(x::q.L).length<=(lv s).length:=Y9 (pi.2 ⟨λk=>hm (h.il x k),h.nd⟩) λy hy=>by
  rcases zN.1 hy with rfl | k
  .exact hx
  .exact (h.rc y (h.il y k)).live
 simp only[zI] at this;omega
omit hR in
theorem Jc {q:c9} {x:Int} (h:(q.L.length:Int)<q.Cap) (h2:q.L.length<=1000):D2 q x=some (⟨q.L ++ [x],q.Cap⟩,0):=by
 unfold D2 H4 T0;rw[YI,za (by simp;omega)];have:=uJ (xs:=q.L) (i:=0) (j:=q.L.length) (by omega) (zG _);rw[show ((0:Nat):Int)=0 from rfl] at this;rw[this];simp only[zQ,List.drop_zero,YI];rw[K3 (by omega) (by simp;omega)];rfl
omit hR in
theorem NP {x:Int} {r:List Int} {c:Int} (h2:r.length<=1000):W2 ⟨x::r,c⟩=some (⟨r,c⟩,x,0):=by
 unfold W2 iz H4 T0;simp only[YI,zI];have e:(if (if (((r.length+1:Nat):Int))<1 then (((r.length+1:Nat):Int)) else 1) > 0 then (if (((r.length+1:Nat):Int))<1 then (((r.length+1:Nat):Int)) else 1) else 0:Int)=((1:Nat):Int):=by
  rw[za (show ¬(((r.length+1:Nat):Int)<1) by omega)];rfl
 rw[e];have h1:=uJ (xs:=x::r) (i:=0) (j:=1) (by omega) (by simp);have h3:=uJ (xs:=x::r) (i:=1) (j:=r.length+1) (by omega) (by simp);rw[show ((0:Nat):Int)=0 from rfl] at h1;rw[h1,h3];simp only[YI];have e1:List.drop 0 (List.take 1 (x::r)) = [x]:=by simp
 have e2:List.drop 1 (List.take (r.length+1) (x::r))=r:=by simp
 rw[e1,e2];rfl
abbrev ET(s:b6)(xs:List Int):Int × c9 × (List (Int × Bool))->Option ((Int × c9 × (List (Int × Bool))) ⊕ (c9 × (List (Int × Bool)))):=
 λ(s114,s115,s116)=>
   if (decide (s114<(xs.length:Int))) then
     (ix xs s114).bind λv126=>
     (cq s v126).bind λv127=>
     if (v127==true) then
      if (!((y9 s116 v126).getD (false:Bool))) then
       (D2 s115 v126).bind λv128=>
       some (.inl (w7 (s114+1),v128.1,(o7 s116 v126 true)))
      else
      some (.inl (w7 (s114+1),s115,s116))
     else
     some (.inl (w7 (s114+1),s115,s116))
   else
   some (.inr (s115,s116))
theorem BG{l xs:List Int}{q:c9}{m:List (Int × Bool)}(hxs:LB xs)(hlen:xs.length<=1000000)(h0:FU s l q m)(hr:∀x∈xs,x∈lv s->rV s l x) :
  ∃q' m',lp (ET s xs) (0,q,m)=some (q',m')/\FU s l q' m'/\(∀x,Mk m' x↔Mk m x\/x∈xs/\x∈lv s)/\(∀x,Mk m' x->Mk m x\/x∈q'.L)/\(∀x∈q.L,x∈q'.L)/\2*Jz s m'+q'.L.length<=2*Jz s m+q.L.length:=by
 have:=jx (f:=ET s xs) (t0:=(q,m)) xs.length (λk t=>FU s l t.1 t.2/\(∀x,Mk t.2 x↔Mk m x\/x∈xs.take k/\x∈lv s)/\(∀x,Mk t.2 x->Mk m x\/x∈t.1.L)/\(∀x∈q.L,x∈t.1.L)/\2*Jz s t.2+t.1.L.length<=2*Jz s m+q.L.length)
  (λt=>FU s l t.1 t.2/\(∀x,Mk t.2 x↔Mk m x\/x∈xs/\x∈lv s)/\(∀x,Mk t.2 x->Mk m x\/x∈t.1.L)/\(∀x∈q.L,x∈t.1.L)/\2*Jz s t.2+t.1.L.length<=2*Jz s m+q.L.length) (by omega)
  ⟨h0,λx=>by simp,λx h=>.inl h,λx h=>h,zG _⟩ (λk t hk hP=>?_) (λt hP=>?_)
 .obtain⟨⟨q',m'⟩,h1,h2⟩:=this;exact⟨q',m',h1,h2⟩
 .obtain⟨q1,m1⟩:=t;obtain⟨p1,p2,p3,p4,p5⟩:=hP;simp only at p1 p2 p3 p4 p5;left;have hle:=hxs _ (zh hk);have ht:∀x,x∈xs.take (k+1)↔x∈xs.take k\/x=xs[k]:=λx=>by rw[zu hk,zw,zt]
  simp only[ET,wp,hk,t6,wn,s7 hk,YI,Kp hR hle];by_cases hv:xs[k]∈lv s
  .rw[zb (by simpa using hv)];by_cases hm:Mk m1 xs[k]
   .rw[za (by rw[show (y9 m1 xs[k]).getD false=true from hm];decide),n9];refine⟨(q1,m1),rfl,p1,λx=>?_,p3,p4,p5⟩;rw[p2,ht];constructor
    .rintro (a | ⟨a,b⟩);·exact .inl a
     .exact .inr ⟨.inl a,b⟩
    .rintro (a | ⟨a | rfl,b⟩);·exact .inl a
     .exact .inr ⟨a,b⟩
     .exact (p2 _).1 hm
   .have hm':(y9 m1 xs[k]).getD false=false:=by simpa[Mk] using hm
    have hroom:=p1.room hv hm;have hl24:=M0 hR;rw[zb (by rw[hm'];decide),Jc (by rw[p1.cap];omega) (by omega),YI,n9];refine⟨(⟨q1.L ++ [xs[k]],q1.Cap⟩,o7 m1 xs[k] true),rfl,⟨?_,p1.cap,λx hx=>?_,λx hx=>?_⟩,λx=>?_,λx hx=>?_,λx hx=>?_,?_⟩
    .simp only;rw[zbu];refine⟨p1.nd,by simp,λa ha b hb e=>?_⟩;rw[zt] at hb;subst hb;subst e;exact hm (p1.il _ ha)
    .simp only[zw,zt] at hx;rw[dE];rcases hx with a | a
     .exact .inr (p1.il x a)
     .exact .inl a
    .rcases (dE m1 xs[k] x).1 hx with rfl | a
     .exact hr _ (zh hk) hv
     .exact p1.rc x a
    .simp only;rw[dE,p2,ht];constructor
     .rintro (rfl | a | ⟨a,b⟩);·exact .inr ⟨.inr rfl,hv⟩
      .exact .inl a
      .exact .inr ⟨.inl a,b⟩
     .rintro (a | ⟨a | a,b⟩);·exact .inr (.inl a)
      .exact .inr (.inr ⟨a,b⟩)
      .exact .inl a
    .simp only[zw,zt];rcases (dE m1 xs[k] x).1 hx with a | a
     .exact .inr (.inr a)
     .rcases p3 x a with b | b
      .exact .inl b
      .exact .inr (.inl b)
    .simp only[zw];exact .inl (p4 x hx)
    .have:=RQ hv hm;simp only[zK,List.length_singleton];omega
  .rw[za (by simpa using hv),n9];refine⟨(q1,m1),rfl,p1,λx=>?_,p3,p4,p5⟩;rw[p2,ht];constructor
   .rintro (a | ⟨a,b⟩);·exact .inl a
    .exact .inr ⟨.inl a,b⟩
   .rintro (a | ⟨a | rfl,b⟩);·exact .inl a
    .exact .inr ⟨a,b⟩
    .exact absurd b hv
 .obtain⟨q1,m1⟩:=t;refine⟨(q1,m1),?_,?_⟩;·simp only[ET,zbg,zbz,zD,qr]
  .simpa using hP
theorem BN(hF:FB s){l:List Int}(hl:LB l)(hlen:l.length<=1000000):∃m,fq s l=some m/\∀x,Mk m x↔rV s l x:=by
 unfold fq aR;simp only[jn,gw hR,YI];have h24:=M0 hR;obtain⟨q0,m0,e0,i0,i1,i2,i3,i4⟩:=BG hR (l:=l) (xs:=l) (q:=⟨[],((lv s).length:Int)⟩) (m:=[]) hl hlen ⟨zb3,rfl,(λx hx=>by cases hx),(λx hx=>by simp[Mk,y9] at hx)⟩ (λx h1 h2=>.base h1 h2);rw[show lp _ _=_ from e0,YI];simp only;have hu:Jz s []<=24:=zP (zy ..) h24;obtain⟨m,h1,h2⟩:=uV (s0:=(q0,m0)) (f:=λ((s70,s71):c9 × (List (Int × Bool)))=>
    (H4 s70).bind λv74=>
    if (decide (v74 > 0)) then
     (W2 s70).bind λv75=>
     (lQ s v75.2.1).bind λv76=>
      (lp (ET s v76) (0,v75.1,s71)).bind λe97=>
      (some (.inl (e97.1,e97.2)):Option ((c9 × List (Int × Bool)) ⊕ List (Int × Bool)))
    else
    some (.inr s71)) (λt=>FU s l t.1 t.2/\(∀x∈l,x∈lv s->Mk t.2 x)/\∀a,Mk t.2 a->a∈t.1.L\/∀b∈outs s a,b∈lv s->Mk t.2 b) (λm=>∀x,Mk m x↔rV s l x) (λt=>2*Jz s t.2+t.1.L.length)
   ⟨i0,λx h1 h2=>(i1 x).2 (.inr ⟨h1,h2⟩),λa ha=>.inl ((i2 a ha).resolve_left (by simp[Mk,y9]))⟩ (by show 2*Jz s m0+q0.L.length<_;simp only[zah] at i4;omega) (by
   rintro⟨q,m⟩ ⟨p1,p2,p3⟩;simp only at p1 p2 p3 |-;have hq:=Y9 p1.nd λx hx=>(p1.rc x (p1.il x hx)).live;unfold H4;rw[YI];cases hqL:q.L with
   | nil=>
    right;refine⟨m,by rw[za (by simp)],λx=>⟨p1.rc x,λh=>?_⟩⟩;induction h with
    | base a b=>exact p2 _ a b
    | step _ a b ih=>
     rcases p3 _ ih with c | c
     .rw[hqL] at c;cases c
     .exact c _ a b
   | cons a r=>
    left;have hqe:q=⟨a::r,q.Cap⟩:=by rw[<-hqL]
    have hal:a∈lv s:=(p1.rc a (p1.il a (by rw[hqL];exact zf ..))).live;have ha:a<=9223372036854775807:=by have:=mU hR hal;omega
    have hnd:=p1.nd;rw[hqL] at hnd hq;simp only[zI] at hq;obtain⟨q',m',e1,j0,j1,j2,j3,j4⟩:=BG hR (l:=l) (xs:=outs s a) (q:=⟨r,q.Cap⟩) (m:=m) (λx hx=>Rc hR hF ha hx) (by have:=yw hR a ha;omega) ⟨(pi.1 hnd).2,p1.cap,λx hx=>p1.il x (by rw[hqL];exact zl _ hx),p1.rc⟩ (λx h1 h2=>.step (p1.rc a (p1.il a (by rw[hqL];exact zf ..))) h1 h2);refine⟨(q',m'),?_,⟨j0,λx h1 h2=>(j1 x).2 (.inl (p2 x h1 h2)),λb hb=>?_⟩,?_⟩
    .rw[zb (by simp),hqe,NP (by omega),YI];simp only;rw[ND hR ha,YI,e1,YI]
    .simp only at hb |-;rcases j2 b hb with c | c
     .rcases p3 b c with d | d
      .rw[hqL] at d;rcases zN.1 d with rfl | d
       .exact .inr λy h1 h2=>(j1 y).2 (.inr ⟨h1,h2⟩)
       .exact .inl (j3 b d)
      .exact .inr λy h1 h2=>(j1 y).2 (.inl (d y h1 h2))
     .exact .inl c
    .show 2*Jz s m'+q'.L.length<2*Jz s m+(a::r).length;simp only[zI] at j4 |-;omega)
 refine⟨m,?_,h2⟩;rw[show lp _ _=_ from h1];rfl
end
theorem MI(l:List Int)(x:Int)(hl:l.length<=1000000):∃r:Int,H0 l x=some r/\(0<=r↔x∈l):=by
 unfold H0;simp only[jn];by_cases h:x∈l
 .obtain⟨i,hi,e⟩:=List.mem_iff_getElem.1 h;obtain⟨j,⟨hj,ej⟩,hmin⟩:=dy (p:=λi=>∃hi:i<l.length,l[i]=x) ⟨i,hi,e⟩;refine⟨(j:Int),?_,by simp[h]⟩;refine fR l.length (λk=>k<=j) (by omega) (zV _) (λk hk hP=>?_) (λhP=>by omega);simp only[wp,hk,t6,wn,s7 hk,YI];rcases zE k j with q | q
  .refine .inl ⟨?_,q⟩;rw[za (by
    rw[me];intro e;have:=hmin k ⟨hk,e.symm⟩;omega),n9]
  .have:k=j:=by omega
   subst this;exact .inr ⟨_,by rw[zb (by simpa using ej.symm)],rfl⟩
 .refine⟨-1,?_,by simp[h]⟩;refine fR l.length (λk=>True) (by omega) trivial (λk hk hP=>.inl ⟨?_,trivial⟩) (λhP=>⟨.inr (),by simp,rfl⟩);simp only[wp,hk,t6,wn,s7 hk,YI];rw[za (by
   rw[me];intro e;exact h (e▸zh hk)),n9]
theorem contains_eq(l:List Int)(x:Int)(hl:l.length<=1000000):E2 l x=some (decide (x∈l)):=by
 obtain⟨r,h1,h2⟩:=MI l x hl;unfold E2;rw[h1,YI];congr 1;exact zbp.2 h2
section
variable{s:b6}(hR:vF (sO s))
include hR
open Classical in
theorem Io (hF:FB s) {l:List Int} (hl:LB l) (hlen:l.length<=1000000):jJ s l=some (Hd s l):=by
 obtain⟨m,h1,h2⟩:=BN hR hF hl hlen;unfold jJ W3 iQ;rw[h1,YI];simp only[jn,gw hR,YI];have h24:=M0 hR;rw[U4 (lv s) (λacc x=>if decide (rV s l x) then acc ++ [x] else acc) id (λk acc=>acc.length<=k) (by omega) (by simp) (λk hk acc hb=>?_) (λb _=>?_)]
 .simp only[YI,id];rw[foldl_filter];rfl
 .simp only[wp,hk,t6,wn,s7 hk,YI];by_cases q:rV s l (lv s)[k]
  .rw[zb ((h2 _).2 q),zb (by simpa using q),K3 (by omega) (by simp;omega),YI,n9];exact⟨rfl,by simp;omega⟩
  .rw[za (λk=>q ((h2 _).1 k)),za (by simpa using q),n9];exact⟨rfl,by omega⟩
 .simp only[zbg,zbz,zD,qr];rfl
open Classical in
theorem QD (hF:FB s) {l:List Int} (hl:LB l) (hlen:l.length<=1000000):nj s l=some (lst s l):=by
 obtain⟨m,h1,h2⟩:=BN hR hF hl hlen;unfold nj W4 iR;rw[h1,YI];simp only[jn,gw hR,YI];have h24:=M0 hR;rw[U4 (lv s) (λacc x=>if decide (¬rV s l x) then acc ++ [x] else acc) id (λk acc=>acc.length<=k) (by omega) (by simp) (λk hk acc hb=>?_) (λb _=>?_)]
 .simp only[YI,id];rw[foldl_filter];rfl
 .simp only[wp,hk,t6,wn,s7 hk,YI];by_cases q:rV s l (lv s)[k]
  .have e:(y9 m (lv s)[k]).getD false=true:=(h2 _).2 q;rw[za (by rw[e];decide),za (by simpa using q),n9];exact⟨rfl,by omega⟩
  .have e:(y9 m (lv s)[k]).getD false=false:=by
    have:¬Mk m (lv s)[k]:=λk=>q ((h2 _).1 k);simpa[Mk] using this
   rw[zb (by rw[e];decide),zb (by simpa using q),K3 (by omega) (by simp;omega),YI,n9];exact⟨rfl,by simp;omega⟩
 .simp only[zbg,zbz,zD,qr];rfl
end
abbrev Tb:=List g5
abbrev eN(p:g5):I4:=⟨p.State,p.Key,p.Val⟩
def pt(t:Tb)(j:Nat):g5:=t.getD j ⟨0,0,0⟩
theorem lJ{t:Tb}{j:Nat}(h:j<t.length):pt t j=t[j]:=by unfold pt;rw[zd,zc h];rfl
theorem Ep{t:Tb}{j:Nat}(h:j<t.length):ix t (j:Int)=some (pt t j):=by rw[s7 h,lJ h]
theorem yx{t:Tb}{i:Nat}(h:i<t.length)(p:g5)(j:Nat):pt (t.set i p) j=if j=i then p else pt t j:=by
 unfold pt;rw[zd,zd,List.getElem?_set];by_cases e:i=j
 .subst e;simp[h]
 .rw[za e,za (za3 e)]
def hm(n:Nat)(k:Int):Nat:=(w7 ((w7 (5*k))+1) % (n:Int)).toNat
theorem Sw{n:Nat}(h:1<=n)(k:Int):hm n k<n:=by
 unfold hm;have h1:=Int.emod_nonneg (w7 ((w7 (5*k))+1)) (show (n:Int)≠0 by omega);have h2:=Int.emod_lt_of_pos (w7 ((w7 (5*k))+1)) (show (0:Int)<n by omega);omega
theorem Iv{n:Nat}(h:1<=n)(h2:n<=1000)(k:Int):dQ n k=some (hm n k:Int):=by
 unfold dQ hm;rw[za (by simp;omega)];generalize w7 ((w7 (5*k))+1)=a;have hp:=Int.emod_nonneg a (show (n:Int)≠0 by omega);have hl:=Int.emod_lt_of_pos a (show (0:Int)<n by omega);unfold rem;rw[za (by omega),YI,Int.toNat_of_nonneg hp];rw[Int.tmod_eq_emod];split;·rw[show a % (n:Int)-((0:Nat):Int)=a % n by simp,za (by simp;omega)]
 .have:((n:Int).natAbs:Int)=n:=by simp
  rw[this];rw[zb (by simp;omega),O9 (by omega) (by omega)];congr 1;omega
def pos(n:Nat)(k:Int)(d:Nat):Nat:=(hm n k+d) % n
theorem rF{n:Nat}(h:1<=n)(k:Int)(d:Nat):pos n k d<n:=Nat.mod_lt _ h
theorem SN{n:Nat}(h:1<=n)(h8:n<=8):n=1\/n=2\/n=3\/n=4\/n=5\/n=6\/n=7\/n=8:=by omega
theorem Ni{n m i:Nat}(h:1<=n)(h8:n<=8)(hm:m<n)(hi:i<n):∃d,d<n/\(m+d) % n=i:=by
 refine⟨(i+n-m) % n,Nat.mod_lt _ h,?_⟩;rcases SN h h8 with rfl | rfl | rfl | rfl | rfl | rfl | rfl | rfl <;> omega
theorem QN{n m d d':Nat}(h:1<=n)(h8:n<=8)(hd:d<n)(hd':d'<n)(e:(m+d) % n=(m+d') % n):d=d':=by
 rcases SN h h8 with rfl | rfl | rfl | rfl | rfl | rfl | rfl | rfl <;> omega
theorem EP{n:Nat}(h:1<=n)(h8:n<=8)(k:Int){i:Nat}(hi:i<n):∃d,d<n/\pos n k d=i:=Ni h h8 (Sw h k) hi
theorem Rj{n:Nat}(h:1<=n)(h8:n<=8){k:Int}{d d':Nat}(hd:d<n)(hd':d'<n)(e:pos n k d=pos n k d'):d=d':=QN h h8 hd hd' e
structure HR (t:Tb):Prop where
 l1:1<=t.length
 l8:t.length<=8
 st:∀i,i<t.length->((pt t i).State=0\/(pt t i).State=1\/(pt t i).State=2)/\((pt t i).State≠1->(pt t i).Key=0/\(pt t i).Val=0)
 uq:∀i j,i<t.length->j<t.length->(pt t i).State=1->(pt t j).State=1->(pt t i).Key=(pt t j).Key->i=j
 rd:∀i,i<t.length->(pt t i).State=1->∀d,d<t.length->(∀d',d'<=d->pos t.length (pt t i).Key d'≠i)->(pt t (pos t.length (pt t i).Key d)).State≠0
def Fk(t:Tb)(k:Int)(i:Nat):Prop:=i<t.length/\(pt t i).State=1/\(pt t i).Key=k
instance(t:Tb)(k:Int)(i:Nat):Decidable (Fk t k i):=by unfold Fk;infer_instance
theorem step_eq{n:Nat}(h:1<=n)(h2:n<=1000)(k:Int){d:Nat}(hd:d<n):rem (w7 ((hm n k:Int)+d)) n=some ((pos n k d:Nat):Int):=by
 have:=Sw h k;rw[O9 (by omega) (by omega),Dg (by omega) (by omega)];unfold pos;simp[Int.natCast_emod]
theorem Bi{t:Tb}(h1:1<=t.length)(h8:t.length<=8)(k:Int) :
  (∃d,d<t.length/\(∀j,j<d->(pt t (pos t.length k j)).State≠0/\¬Fk t k (pos t.length k j))/\Fk t k (pos t.length k d)/\aM t k=some ((pos t.length k d:Nat):Int)) \/
  (∃d,d<=t.length/\(∀j,j<d->(pt t (pos t.length k j)).State≠0/\¬Fk t k (pos t.length k j))/\(d=t.length\/(pt t (pos t.length k d)).State=0)/\aM t k=some (-1)):=by
 unfold aM;simp only[jn,iZ,YI];generalize hq:(lp (S:=Int) (E:=Int ⊕ Unit) _ 0)=q;have body:∀d:Nat,d<t.length->(if (decide ((d:Int)<(t.length:Int))) then
    (dQ (t.length:Int) k).bind λv14=>
    (rem (w7 (v14+d)) (t.length:Int)).bind λv15=>
    (ix t v15).bind λv16=>
    if (v16.State==0) then
     some (.inr (.inr ()))
    else
    if ((v16.State==1)&&(v16.Key==k)) then
     some (.inr (.inl v15))
    else
    some (.inl (w7 ((d:Int)+1)))
   else
   some (.inr (.inr ())):Option (Int ⊕ (Int ⊕ Unit)))=if (pt t (pos t.length k d)).State=0 then some (.inr (.inr ())) else if Fk t k (pos t.length k d) then some (.inr (.inl ((pos t.length k d:Nat):Int))) else some (.inl ((d+1:Nat):Int)):=λd hd=>by
  have hp:=rF h1 k d;rw[zb (by simpa using hd),Iv h1 (by omega),YI,step_eq h1 (by omega) k hd,YI,Ep hp,YI,n9 (by omega)];by_cases a:(pt t (pos t.length k d)).State=0
  .rw[zb (by simpa using a),zb a]
  .rw[za (by simpa using a),za a];by_cases b:Fk t k (pos t.length k d)
   .rw[zb (by simp[b.2.1,b.2.2]),zb b]
   .rw[za (by simp;exact λh1 h2=>b ⟨hp,h1,h2⟩),za b]
 have key:=Bv (f:=λ(s12:Int)=>if (decide (s12<(t.length:Int))) then
    (dQ (t.length:Int) k).bind λv14=>
    (rem (w7 (v14+s12)) (t.length:Int)).bind λv15=>
    (ix t v15).bind λv16=>
    if (v16.State==0) then
     some (.inr (.inr ()))
    else
    if ((v16.State==1)&&(v16.Key==k)) then
     some (.inr (.inl v15))
    else
    some (.inl (w7 (s12+1)))
   else
   some (.inr (.inr ()))) t.length (λd=>∀j,j<d->(pt t (pos t.length k j)).State≠0/\¬Fk t k (pos t.length k j))
   (λ(e:Int ⊕ Unit)=>(∃d,d<t.length/\(∀j,j<d->(pt t (pos t.length k j)).State≠0/\¬Fk t k (pos t.length k j))/\Fk t k (pos t.length k d)/\e = .inl ((pos t.length k d:Nat):Int)) \/
    (∃d,d<=t.length/\(∀j,j<d->(pt t (pos t.length k j)).State≠0/\¬Fk t k (pos t.length k j))/\(d=t.length\/(pt t (pos t.length k d)).State=0)/\e = .inr ())) (by omega) (λj hj=>by omega)
   (λd hd hP=>by
    rw[body d hd];by_cases a:(pt t (pos t.length k d)).State=0
    .rw[zb a];exact .inr ⟨_,rfl,.inr ⟨d,by omega,hP,.inr a,rfl⟩⟩
    .rw[za a];by_cases b:Fk t k (pos t.length k d)
     .rw[zb b];exact .inr ⟨_,rfl,.inl ⟨d,hd,hP,b,rfl⟩⟩
     .rw[za b];refine .inl ⟨rfl,λj hj=>?_⟩;rcases zE j d with q | q
      .exact hP j q
      .have:j=d:=by omega
       subst this;exact⟨a,b⟩)
   (λhP=>⟨.inr (),by simp,.inr ⟨t.length,zG _,hP,.inl rfl,rfl⟩⟩)
 obtain⟨e,he,hQ⟩:=key;rw[he] at hq;subst hq;rcases hQ with ⟨d,a1,a2,a3,rfl⟩ | ⟨d,a1,a2,a3,rfl⟩;·exact .inl ⟨d,a1,a2,a3,rfl⟩
 .exact .inr ⟨d,a1,a2,a3,rfl⟩
theorem sJ{t:Tb}(hR:HR t){k:Int}{i:Nat}(hi:Fk t k i):aM t k=some (i:Int):=by
 obtain⟨di,hdi,hpi⟩:=EP hR.l1 hR.l8 k hi.1;have road:∀d,d<di->(pt t (pos t.length k d)).State≠0:=λd hd=>by
  have:=hR.rd i hi.1 hi.2.1 d (by omega) (λd' hd' e=>by
   rw[hi.2.2] at e;have:=Rj hR.l1 hR.l8 (by omega) hdi (e.trans hpi.symm);omega)
  rwa [hi.2.2] at this
 rcases Bi hR.l1 hR.l8 k with ⟨d,a1,a2,a3,a4⟩ | ⟨d,a1,a2,a3,a4⟩;·rw[a4,hR.uq _ i (rF hR.l1 k d) hi.1 a3.2.1 hi.2.1 (by rw[a3.2.2,hi.2.2])]
 .exfalso;rcases zE di d with q | q
  .exact (a2 di q).2 (by rw[hpi];exact hi)
  .rcases a3 with rfl | a3
   .omega
   .rcases zE d di with q' | q'
    .exact road d q' a3
    .have:d=di:=by omega
     subst this;rw[hpi,hi.2.1] at a3;cases a3
theorem sI{t:Tb}(h1:1<=t.length)(h8:t.length<=8){k:Int}(hi:∀i,¬Fk t k i):aM t k=some (-1):=by
 rcases Bi h1 h8 k with ⟨d,a1,a2,a3,a4⟩ | ⟨d,a1,a2,a3,a4⟩;·exact absurd a3 (hi _)
 .exact a4
theorem Bj(t:Tb)(k:Int):(∃i,Fk t k i)\/∀i,¬Fk t k i:=by
 by_cases h:∃i,Fk t k i
 .exact .inl h
 .exact .inr λi hi=>h ⟨i,hi⟩
theorem Al{t:Tb}{i:Nat}(h8:t.length<=1000)(hi:i<t.length)(p:g5):dR t (i:Int) p=some (t.set i p):=by
 unfold dR E7;rw[dj (by omega) (by omega),YI,s7 hi,YI,zR]
inductive xq (t:Tb) (k v:Int):Tb × Int->Prop
 | old (i:Nat) (hi:Fk t k i):xq t k v (t.set i ⟨1,k,v⟩,0)
 | new (d:Nat) (hn:∀i,¬Fk t k i) (hd:d<t.length) (hb:∀j,j<d->(pt t (pos t.length k j)).State=1) (hf:(pt t (pos t.length k d)).State≠1):xq t k v (t.set (pos t.length k d) ⟨1,k,v⟩,0)
 | full (hn:∀i,¬Fk t k i) (ha:∀i,i<t.length->(pt t i).State=1):xq t k v (t,8)
theorem NT{t:Tb}(hR:HR t)(k v:Int):∃r,oN t k v=some r/\xq t k v r:=by
 have h1:=hR.l1;have h8:=hR.l8;unfold oN;rcases Bj t k with ⟨i,hi⟩ | hn
 .rw[sJ hR hi,YI,zb (by simp),Al (by omega) hi.1];exact⟨_,rfl,.old i hi⟩
 .rw[sI h1 h8 hn,YI,za (by decide)];simp only[jn,iZ,YI];have key:=Bv (f:=λ(s15:Int)=>
   if (decide (s15<(t.length:Int))) then
    (dQ (t.length:Int) k).bind λv17=>
    (rem (w7 (v17+s15)) (t.length:Int)).bind λv18=>
    (ix t v18).bind λv19=>
    if (v19.State != 1) then
     (dR t v18 (⟨1,k,v⟩:g5)).bind λv20=>
     some (Sum.inr (.inl (v20,(0:Int))))
    else
    some (.inl (w7 (s15+1)))
   else
   some (.inr (.inr ()))) t.length (λd=>∀j,j<d->(pt t (pos t.length k j)).State=1)
   (λ(e:(Tb × Int) ⊕ Unit)=>(∃r,e = .inl r/\xq t k v r)\/(e = .inr ()/\xq t k v (t,8))) (by omega) (λj hj=>by omega)
   (λd hd hP=>by
    have hp:=rF h1 k d;rw[zb (by simpa using hd),Iv h1 (by omega),YI,step_eq h1 (by omega) k hd,YI,Ep hp,YI];by_cases a:(pt t (pos t.length k d)).State=1
    .rw[za (by simpa using a),n9 (by omega)];refine .inl ⟨rfl,λj hj=>?_⟩;rcases zE j d with q | q
     .exact hP j q
     .have:j=d:=by omega
      subst this;exact a
    .rw[zb (by simpa using a),Al (by omega) hp,YI];exact .inr ⟨_,rfl,.inl ⟨_,rfl,.new d hn hd hP a⟩⟩)
   (λhP=>⟨.inr (),by simp,.inr ⟨rfl,.full hn λi hi=>by
    obtain⟨d,hd,rfl⟩:=EP h1 h8 k hi;exact hP d hd⟩⟩)
  obtain⟨e,he,hQ⟩:=key;rw[he,YI];rcases hQ with ⟨r,rfl,hr⟩ | ⟨rfl,hr⟩;·exact⟨r,rfl,hr⟩
  .exact⟨_,rfl,hr⟩
theorem Mv{t:Tb}(hR:HR t){k:Int}{i:Nat}(hi:Fk t k i):Y2 t k=some ((pt t i).Val,0):=by
 unfold Y2;rw[sJ hR hi,YI,za (by simp),Ep hi.1,YI]
theorem Mu{t:Tb}(hR:HR t){k:Int}(hi:∀i,¬Fk t k i):Y2 t k=some (0,9):=by
 unfold Y2;rw[sI hR.l1 hR.l8 hi,YI,zb (by decide)]
theorem sD{t:Tb}(hR:HR t){k:Int}{i:Nat}(hi:Fk t k i):aL t k=some (t.set i ⟨2,0,0⟩,(pt t i).Val,0):=by
 have:=hR.l8;unfold aL;rw[sJ hR hi,YI,za (by simp),Al (by omega) hi.1,YI,Ep hi.1,YI]
theorem sC{t:Tb}(hR:HR t){k:Int}(hi:∀i,¬Fk t k i):aL t k=some (t,0,9):=by
 unfold aL;rw[sI hR.l1 hR.l8 hi,YI,zb (by decide)]
theorem HR.set{t:Tb}(hR:HR t){i:Nat}(hi:i<t.length){p:g5}(h0:p.State=1\/p=⟨2,0,0⟩)
  (hu:p.State=1->∀j,j≠i->¬Fk t p.Key j)(hr:p.State=1->∀d,d<t.length->(∀d',d'<=d->pos t.length p.Key d'≠i)->(pt t (pos t.length p.Key d)).State≠0):HR (t.set i p):=by
 have hnz:p.State≠0:=by
  rcases h0 with h | rfl
  .omega
  .simp
 refine⟨by simpa using hR.l1,by simpa using hR.l8,λj hj=>?_,λj j' hj hj' s1 s2 hk=>?_,λj hj s1 d hd hne=>?_⟩ <;> simp only[zaq] at *
 .rw[yx hi];split
  .rcases h0 with h | rfl
   .exact⟨.inr (.inl h),λq=>absurd h q⟩
   .exact⟨.inr (.inr rfl),λ_=>⟨rfl,rfl⟩⟩
  .exact hR.st j hj
 .rw[yx hi] at s1 s2 hk;rw[yx hi] at hk;by_cases e1:j=i <;> by_cases e2:j'=i
  .rw[e1,e2]
  .rw[zb e1] at s1 hk;rw[za e2] at s2 hk;exact absurd ⟨hj',s2,hk.symm⟩ (hu s1 j' e2)
  .rw[za e1] at s1 hk;rw[zb e2] at s2 hk;exact absurd ⟨hj,s1,hk⟩ (hu s2 j e1)
  .rw[za e1] at s1 hk;rw[za e2] at s2 hk;exact hR.uq j j' hj hj' s1 s2 hk
 .simp only[yx hi] at s1 hne |-;by_cases e1:j=i
  .simp only[zb e1] at s1 hne |-;split;·exact hnz
   .exact hr s1 d hd (by rw[<-e1];exact hne)
  .simp only[za e1] at s1 hne |-;split;·exact hnz
   .exact hR.rd j hj s1 d hd hne
theorem yy{t:Tb}(hR:HR t){k v:Int}{r:Tb × Int}(h:xq t k v r):HR r.1:=by
 cases h with
 | old i hi=>
  refine hR.set hi.1 (.inl rfl) (λ_ j hj q=>hj (hR.uq j i q.1 hi.1 q.2.1 hi.2.1 (q.2.2.trans hi.2.2.symm))) λ_ d hd hne=>?_;have:=hR.rd i hi.1 hi.2.1 d hd (by rw[hi.2.2];exact hne);rwa [hi.2.2] at this
 | new d hn hd hb hf=>
  refine hR.set (rF hR.l1 k d) (.inl rfl) (λ_ j _=>hn j) λ_ d' hd' hne=>?_;rcases zE d' d with q | q
  .have:=hb d' q;simp only;omega
  .exact absurd rfl (hne d q)
 | full hn ha=>exact hR
theorem oB{t:Tb}(hR:HR t){i:Nat}(hi:i<t.length):HR (t.set i ⟨2,0,0⟩):=hR.set hi (.inr rfl) (λq=>by cases q) λq=>by cases q
theorem Xs{t:Tb}{j:Nat}(h:j<t.length):ix (t.map eN) (j:Int)=some (eN (pt t j)):=by rw[tg,Ep h];rfl
theorem Oa{t:Tb}(h8:t.length<=1000){k:Int}{i:Nat}(hi:Fk t k i)(hf:∀j,j<i->¬Fk t k j):lO (t.map eN) k=some (i:Int):=by
 unfold lO;simp only[jn];refine fR t.length (λj=>j<=i) (by omega) (zV _) (λj hj hP=>?_) (λhP=>by have:=hi.1;omega);rw[zb (by simpa using hj),Xs hj,YI];by_cases e:j=i
 .subst e;exact .inr ⟨.inl (j:Int),by rw[zb (by simp[eN,hi.2.1,hi.2.2])],rfl⟩
 .have:=hf j (by omega);refine .inl ⟨by rw[za (by simp[eN];exact λh1 h2=>this ⟨hj,h1,h2⟩),n9 (by omega)],by omega⟩
theorem NZ{t:Tb}(h8:t.length<=1000){k:Int}(hf:∀j,¬Fk t k j):lO (t.map eN) k=some (-1):=by
 unfold lO;simp only[jn];refine fR t.length (λj=>True) (by omega) trivial (λj hj hP=>?_) (λhP=>⟨.inr (),by simp,rfl⟩);rw[zb (by simpa using hj),Xs hj,YI];refine .inl ⟨by rw[za (by simp[eN];exact λh1 h2=>hf j ⟨hj,h1,h2⟩),n9 (by omega)],trivial⟩
theorem Mn{t:Tb}{k:Int}(h:∃i,Fk t k i):∃i,Fk t k i/\∀j,j<i->¬Fk t k j:=by
 obtain⟨i,h1,h2⟩:=dy h;exact⟨i,h1,λj hj q=>by have:=h2 j q;omega⟩
theorem KV{t:Tb}{i:Nat}(h8:t.length<=1000)(hi:i<t.length)(p:g5):yC (t.map eN) (i:Int) (eN p)=some ((t.set i p).map eN):=by
 unfold yC;rw[dj (by omega) (by simp;omega),YI,Xs hi,YI,zR,zcq]
def Has(t:Tb)(k v:Int):Prop:=∃i,Fk t k i/\(pt t i).Val=v
theorem TT{t:Tb}{k:Int}:(∀v,¬Has t k v)↔∀i,¬Fk t k i:=by
 constructor;·intro h i hi;exact h _ ⟨i,hi,rfl⟩
 .rintro h v ⟨i,hi,_⟩;exact h i hi
theorem TU(t:Tb)(k:Int):(∃v,Has t k v)\/∀v,¬Has t k v:=by
 by_cases h:∃v,Has t k v
 .exact .inl h
 .exact .inr λv hv=>h ⟨v,hv⟩
theorem Has.fn{t:Tb}(hR:HR t){k v v':Int}(h:Has t k v)(h':Has t k v'):v=v':=by
 obtain⟨i,a,rfl⟩:=h;obtain⟨j,b,rfl⟩:=h';rw[hR.uq i j a.1 b.1 a.2.1 b.2.1 (a.2.2.trans b.2.2.symm)]
theorem Iq{t:Tb}(hR:HR t){k v:Int}(h:Has t k v):Y2 t k=some (v,0):=by
 obtain⟨i,a,rfl⟩:=h;exact Mv hR a
theorem Ko{t:Tb}(hR:HR t){k:Int}(h:∀v,¬Has t k v):Y2 t k=some (0,9):=Mu hR (TT.1 h)
theorem Cz{t:Tb}{i:Nat}(hi:i<t.length){k v:Int}(p:g5)(h:∀j,j≠i->Fk t p.Key j->p.State≠1)(k' v':Int) :
  Has (t.set i p) k' v'↔(p.State=1/\p.Key=k'/\p.Val=v')\/∃j,j≠i/\Fk t k' j/\(pt t j).Val=v':=by
 unfold Has Fk;simp only[zaq,yx hi];constructor
 .rintro⟨j,⟨h1,h2,h3⟩,h4⟩;by_cases e:j=i
  .rw[zb e] at h2 h3 h4;exact .inl ⟨h2,h3,h4⟩
  .rw[za e] at h2 h3 h4;exact .inr ⟨j,e,⟨h1,h2,h3⟩,h4⟩
 .rintro (⟨h1,h2,h3⟩ | ⟨j,e,⟨h1,h2,h3⟩,h4⟩);·exact⟨i,by simp[hi,h1,h2,h3]⟩
  .exact⟨j,by simp[e,h1,h2,h3,h4]⟩
theorem xd{t:Tb}(hR:HR t){k v:Int}{r:Tb × Int}(h:xq t k v r)(h0:r.2=0)(k' v':Int):Has r.1 k' v'↔(k'=k/\v'=v)\/(k'≠k/\Has t k' v'):=by
 cases h with
 | old i hi=>
  rw[Cz (k:=k) (v:=v) hi.1 _ (λj hj q=>absurd (hR.uq j i q.1 hi.1 q.2.1 hi.2.1 (q.2.2.trans hi.2.2.symm)) hj)];constructor
  .rintro (⟨_,rfl,rfl⟩ | ⟨j,e,h1,h2⟩);·exact .inl ⟨rfl,rfl⟩
   .refine .inr ⟨λq=>?_,j,h1,h2⟩;subst q;exact e (hR.uq j i h1.1 hi.1 h1.2.1 hi.2.1 (h1.2.2.trans hi.2.2.symm))
  .rintro (⟨rfl,rfl⟩ | ⟨e,j,h1,h2⟩);·exact .inl ⟨rfl,rfl,rfl⟩
   .refine .inr ⟨j,λq=>?_,h1,h2⟩;subst q;exact e (h1.2.2.symm.trans hi.2.2)
 | new d hn hd hb hf=>
  rw[Cz (k:=k) (v:=v) (rF hR.l1 k d) _ (λj hj q=>absurd q (hn j))];constructor
  .rintro (⟨_,rfl,rfl⟩ | ⟨j,e,h1,h2⟩);·exact .inl ⟨rfl,rfl⟩
   .refine .inr ⟨λq=>?_,j,h1,h2⟩;subst q;exact hn j h1
  .rintro (⟨rfl,rfl⟩ | ⟨e,j,h1,h2⟩);·exact .inl ⟨rfl,rfl,rfl⟩
   .refine .inr ⟨j,λq=>?_,h1,h2⟩;subst q;exact hf h1.2.1
 | full hn ha=>cases h0
theorem sz{t:Tb}(hR:HR t){k:Int}{i:Nat}(hi:Fk t k i)(k' v':Int):Has (t.set i ⟨2,0,0⟩) k' v'↔k'≠k/\Has t k' v':=by
 rw[Cz (k:=k) (v:=0) hi.1 _ (λj hj q=>by simp)];constructor
 .rintro (⟨h,_⟩ | ⟨j,e,h1,h2⟩);·cases h
  .refine⟨λq=>?_,j,h1,h2⟩;subst q;exact e (hR.uq j i h1.1 hi.1 h1.2.1 hi.2.1 (h1.2.2.trans hi.2.2.symm))
 .rintro⟨e,j,h1,h2⟩;refine .inr ⟨j,λq=>?_,h1,h2⟩;subst q;exact e (h1.2.2.symm.trans hi.2.2)
def keys(t:Tb):List Int:=(t.filter (·.State==1)).map (·.Key)
theorem GB{α β:Type}(p:α->Bool)(f:α->β)(l:List α)(k:Nat)(h:k<l.length):((l.take (k+1)).filter p).map f=((l.take k).filter p).map f++(if p l[k] then [f l[k]] else []):=by
 rw[zu h,zao,pm];congr 1;simp only[ms,List.filter_nil];split <;> rfl
theorem keys_eq{t:Tb}(h:t.length<=1000):lz t=some (keys t):=by
 unfold lz keys;simp only[jn];refine bY t.length (λk l=>l=((t.take k).filter (·.State==1)).map (·.Key)) (by omega) (by simp) ?_ (λl hl=>⟨_,by simp;rfl,by rw[hl,zQ]⟩);rintro k l hk rfl;left;rw[GB _ _ _ _ hk];rw[zb (by simpa using hk),s7 hk,YI,n9 (by omega)];have hle:(List.map (·.Key) (List.filter (·.State==1) (List.take k t))).length<=1000:=by
  rw[zm];exact zP (zy ..) (by simp;omega)
 by_cases c:(t[k].State==1)=true
 .rw[zb c,zb c,K3 (by omega) (by simp only[zI,zah];omega),YI];exact⟨_,rfl,rfl⟩
 .rw[za c,za c];exact⟨_,rfl,by simp⟩
theorem NY{t:Tb}(hR:HR t)(k:Int):lO (t.map eN) k=aM t k:=by
 have h8:=hR.l8;rcases Bj t k with ⟨i,hi⟩ | hn
 .rw[sJ hR hi];obtain⟨f,hf1,hf2⟩:=Mn ⟨i,hi⟩;rw[Oa (by omega) hf1 hf2,hR.uq f i hf1.1 hi.1 hf1.2.1 hi.2.1 (hf1.2.2.trans hi.2.2.symm)]
 .rw[sI hR.l1 hR.l8 hn,NZ (by omega) hn]
theorem Vb{t:Tb}(hR:HR t)(k:Int):tQ (t.map eN) k=(aL t k).map λr=>(r.1.map eN,r.2):=by
 have h8:=hR.l8;rcases Bj t k with ⟨i,hi⟩ | hn
 .rw[sD hR hi];unfold tQ;rw[NY hR,sJ hR hi,YI,za (by simp)];have:=KV (t:=t) (by omega) hi.1 ⟨2,0,0⟩;dsimp only[eN] at this;rw[this,YI,Xs hi.1];rfl
 .rw[sC hR hn];unfold tQ;rw[NY hR,sI hR.l1 hR.l8 hn];rfl
theorem EU{t:Tb}{k v:Int}{r:Tb × Int}(h:xq t k v r):r.1.length=t.length:=by cases h <;> simp
theorem jw(t:Tb):(keys t).length=t.countP (·.State==1):=by
 unfold keys;rw[zm,zbw]
theorem th{t:Tb}{i:Nat}(h:i<t.length)(p:g5):(keys (t.set i p)).length+(if (pt t i).State=1 then 1 else 0)=(keys t).length+if p.State=1 then 1 else 0:=by
 rw[jw,jw,List.countP_set h,lJ h];simp only[me];have:(if t[i].State=1 then 1 else 0)<=t.countP λc=>c.State==1:=by
  split
  .rename_i e;exact zbx.2 ⟨t[i],zh h,by simpa using e⟩
  .exact zV _
 omega
theorem Kq{t:Tb}(h:∀i,i<t.length->(pt t i).State=1):(keys t).length=t.length:=by
 rw[jw,List.countP_eq_length];intro a ha;obtain⟨i,hi,rfl⟩:=wt ha;have:=h i hi;rw[lJ hi] at this;simpa using this
theorem Qy{t:Tb}{i:Nat}(hi:i<t.length)(h:(pt t i).State≠1):(keys t).length<t.length:=by
 have h1:(keys t).length<=t.length:=by rw[jw];exact zcl
 rcases zE (keys t).length t.length with q | q
 .exact q
 .exfalso;have e:(keys t).length=t.length:=by omega
  rw[jw,List.countP_eq_length] at e;have:=e t[i] (zh hi);rw[lJ hi] at h;exact h (by simpa using this)
structure TM {V:Type} (φ:V->Int->Prop) (t:Tb) (m:List (Int × V)):Prop where
 R:HR t
 nd:(m.map (·.1)).Nodup
 len:(keys t).length=m.length
 has:∀k,(∀v,Has t k v->∃u,y9 m k=some u/\φ u v)/\((y9 m k).isSome=true->∃v,Has t k v)
theorem TM.some{V:Type}{φ:V->Int->Prop}{t:Tb}{m:List (Int × V)}(h:TM φ t m)(k:Int):(∃v u,Has t k v/\y9 m k=some u/\φ u v)\/(y9 m k=none/\∀v,¬Has t k v):=by
 rcases TU t k with ⟨v,hv⟩ | hn
 .obtain⟨u,h1,h2⟩:=(h.has k).1 v hv;exact .inl ⟨v,u,hv,h1,h2⟩
 .refine .inr ⟨?_,hn⟩;cases hq:y9 m k with
  | none=>rfl
  | some u=>
   obtain⟨v,hv⟩:=(h.has k).2 (by rw[hq];rfl);exact absurd hv (hn v)
theorem TM.put{V:Type}{φ:V->Int->Prop}{t:Tb}{m:List (Int × V)}(h:TM φ t m)(k v:Int)(u:V)(hφ:φ u v):∃r,oN t k v = .some r/\r.1.length=t.length/\((r.2=0/\TM φ r.1 (o7 m k u)/\((y9 m k).isSome=true\/m.length<t.length))\/(r=(t,8)/\(y9 m k)=none/\m.length=t.length)):=by
 obtain⟨r,hr,hp⟩:=NT h.R k v;refine⟨r,hr,EU hp,?_⟩;have hRr:=yy h.R hp;by_cases h0:r.2=0
 .left;have hh:=xd h.R hp h0;have hmem:∀k',(∀w,Has r.1 k' w->∃x,y9 (o7 m k u) k' = .some x/\φ x w)/\((y9 (o7 m k u) k').isSome=true->∃w,Has r.1 k' w):=λk'=>by
   rw[pR];by_cases e:k'=k
   .subst e;rw[zb rfl];refine⟨λw hw=>?_,λ_=>⟨v,(hh _ _).2 (.inl ⟨rfl,rfl⟩)⟩⟩;rcases (hh _ _).1 hw with ⟨_,rfl⟩ | ⟨q,_⟩;·exact⟨u,rfl,hφ⟩
    .exact absurd rfl q
   .rw[za e];refine⟨λw hw=>?_,λq=>?_⟩
    .rcases (hh _ _).1 hw with ⟨q,_⟩ | ⟨_,q⟩;·exact absurd q e
     .exact (h.has k').1 w q
    .obtain⟨w,hw⟩:=(h.has k').2 q;exact⟨w,(hh _ _).2 (.inr ⟨e,hw⟩)⟩
  have hlen:(keys r.1).length=(o7 m k u).length/\((y9 m k).isSome=true\/m.length<t.length):=by
   rw[Nj];cases hp with
   | old i hi=>
    have h1:(y9 m k).isSome=true:=by
     obtain⟨x,h1,_⟩:=(h.has k).1 _ ⟨i,hi,rfl⟩;rw[h1];rfl
    have:=th hi.1 ⟨1,k,v⟩;rw[zb hi.2.1,zb rfl,h.len] at this;rw[zb h1];exact⟨by simp only;omega,.inl h1⟩
   | new d hn hd hb hf=>
    have h1:(y9 m k)=none:=by
     rcases h.some k with ⟨w,x,hw,_⟩ | ⟨q,_⟩
     .obtain⟨i,hi,_⟩:=hw;exact absurd hi (hn i)
     .exact q
    have hlt:=rF h.R.l1 k d;have:=th hlt ⟨1,k,v⟩;rw[za hf,zb rfl,h.len] at this;rw[h1];have h2:=Qy hlt hf;rw[h.len] at h2;exact⟨by simpa using this,.inr h2⟩
   | full hn ha=>cases h0
  exact⟨h0,⟨hRr,GO h.nd k u,hlen.1,hmem⟩,hlen.2⟩
 .right;cases hp with
  | old i hi=>exact absurd rfl h0
  | new d hn hd hb hf=>exact absurd rfl h0
  | full hn ha=>
   refine⟨rfl,?_,?_⟩
   .rcases h.some k with ⟨w,x,hw,_⟩ | ⟨q,_⟩
    .obtain⟨i,hi,_⟩:=hw;exact absurd hi (hn i)
    .exact q
   .rw[<-h.len,Kq ha]
theorem TM.drop{V:Type}{φ:V->Int->Prop}{t:Tb}{m:List (Int × V)}(h:TM φ t m)(k:Int):(∃r v u,aL t k = .some (r,v,0)/\r.length=t.length/\y9 m k = .some u/\φ u v/\TM φ r (uZ m k))\/(aL t k = .some (t,0,9)/\y9 m k=none/\uZ m k=m):=by
 rcases Bj t k with ⟨i,hi⟩ | hn
 .left;obtain⟨u,h1,h2⟩:=(h.has k).1 _ ⟨i,hi,rfl⟩;refine⟨_,_,u,sD h.R hi,by simp,h1,h2,oB h.R hi.1,(Nc m k).nodup h.nd,?_,λk'=>?_⟩
  .have:=th hi.1 ⟨2,0,0⟩;rw[zb hi.2.1,za (by decide),h.len] at this;rw[Nb,h1];simp only[Option.isSome_some,wn];omega
  .have hh:=sz h.R hi;rw[Ky h.nd];by_cases e:k'=k
   .subst e;rw[zb rfl];exact⟨λw hw=>absurd rfl ((hh _ _).1 hw).1,λq=>by cases q⟩
   .rw[za e];refine⟨λw hw=>(h.has k').1 w ((hh _ _).1 hw).2,λq=>?_⟩;obtain⟨w,hw⟩:=(h.has k').2 q;exact⟨w,(hh _ _).2 ⟨e,hw⟩⟩
 .right;have h1:y9 m k=none:=by
   rcases h.some k with ⟨w,x,hw,_⟩ | ⟨q,_⟩
   .obtain⟨i,hi,_⟩:=hw;exact absurd hi (hn i)
   .exact q
  refine⟨sC h.R hn,h1,?_⟩;have:∀(l:List (Int × V)),y9 l k=none->uZ l k=l:=by
   intro l;induction l with
   | nil=>intro _;rfl
   | cons p l ih=>
    intro q;unfold y9 at q;unfold uZ;by_cases e:k=p.1
    .rw[zb (by simpa using e)] at q;cases q
    .rw[za (by simpa using e)] at q;rw[za (by simpa using e),ih q]
  exact this m h1
theorem Us{n:Nat}(h1:1<=n)(h8:n<=8):sW (n:Int)=some (List.replicate n ⟨0,0,0⟩):=by
 unfold sW;rw[za (by simp;omega),kD (by omega) (by omega)];rfl
theorem vn{n j:Nat}:pt (List.replicate n ⟨0,0,0⟩) j=⟨0,0,0⟩:=by
 unfold pt;rw[zd,List.getElem?_replicate];split <;> rfl
theorem Vu{V:Type}(φ:V->Int->Prop){n:Nat}(h1:1<=n)(h8:n<=8):TM φ (List.replicate n ⟨0,0,0⟩) []:=by
 refine⟨⟨by simpa using h1,by simpa using h8,λi hi=>?_,λi j hi hj s=>?_,λi hi s=>?_⟩,by simp,?_,λk=>⟨λv hv=>?_,λq=>by cases q⟩⟩;·rw[vn];exact⟨.inl rfl,λ_=>⟨rfl,rfl⟩⟩
 .rw[vn] at s;cases s
 .rw[vn] at s;cases s
 .rw[jw,List.countP_replicate];rfl
 .obtain⟨i,hi,_⟩:=hv;have:=hi.2.1;rw[vn] at this;cases this
def jH(t:Tb):List g7:=(t.filter (·.State==1)).map λp=>⟨p.Key,p.Val⟩
theorem yf(t:Tb):keys t=(jH t).map (·.Key):=by
 unfold keys jH;rw[zaw];rfl
theorem iP(t:Tb):(jH t).length=(keys t).length:=by rw[yf,zm]
theorem rG{t:Tb}(h:t.length<=8):(jH t).length<=8:=by
 rw[iP,jw];exact zP zcl h
theorem ca{t:Tb}{p:g7}:p∈jH t↔Has t p.Key p.Val:=by
 unfold jH Has;rw[zn];constructor
 .rintro⟨q,hq,rfl⟩;obtain⟨h1,h2⟩:=zk.1 hq;obtain⟨i,hi,rfl⟩:=wt h1;refine⟨i,⟨hi,?_,?_⟩,?_⟩ <;> rw[lJ hi]
  simpa using h2
 .rintro⟨i,⟨hi,h1,h2⟩,h3⟩;rw[lJ hi] at h1 h2 h3;refine⟨t[i],zk.2 ⟨zh hi,by simpa using h1⟩,?_⟩;cases p;simp at h2 h3 |-;exact⟨h2,h3⟩
theorem Jb{t:Tb}(hR:HR t){j:Nat}(h:j<(jH t).length):Y2 t (jH t)[j].Key=some ((jH t)[j].Val,0):=Iq hR (ca.1 (zh h))
theorem Sg{E R:Type}{x:Option E}{r:E}{κ:E->Option R}{y:Option R}(h:x=some r)(hy:κ r=y):((x.bind λe=>some e).bind κ)=y:=by rw[h];exact hy
theorem NN{t:Tb}(hR:HR t):ko t=some (jH t):=by
 have h8:=hR.l8;have hp:=rG h8;unfold ko B2 dM gv;simp only[jn,YI];rw[keys_eq (by omega),YI];refine Sg (ud (jx (jH t).length (λk l=>l=(jH t).take k) (λe=>e=jH t) (by omega) (by simp) ?_ ?_)) rfl
 .rintro k l hk rfl;refine .inl ⟨_,?_,rfl⟩;dsimp only;rw[zb (by rw[<-iP];simpa using hk),s7 (by rw[<-iP];exact hk),YI];have e:(keys t)[k]'(by rw[<-iP];exact hk)=(jH t)[k].Key:=by simp[yf]
  rw[e,Jb hR hk,YI,zb (by trivial),K3 (by omega) (by simp;omega),YI,n9 (by omega),zu hk]
 .rintro l rfl;exact⟨_,by rw[<-iP];simp;rfl,by simp⟩
def own(t:Tb)(h:Int):Nat:=(jH t).countP λp=>(h != 0)&&(p.Val==h)
theorem NI{t:Tb}(hR:HR t)(h:Int):km t h=some (own t h:Int):=by
 have h8:=hR.l8;have hp:=rG h8;unfold km B1 dM gu;simp only[jn,YI];rw[keys_eq (by omega),YI];refine Sg (r:=(jH t).filter λp=>(h != 0)&&(p.Val==h)) (ud (jx (jH t).length (λk l=>l=((jH t).take k).filter λp=>(h != 0)&&(p.Val==h)) (λe=>e=(jH t).filter λp=>(h != 0)&&(p.Val==h)) (by omega) (by simp) ?_ ?_)) (by unfold own;rw[zbw])
 .rintro k l hk rfl;refine .inl ⟨((jH t).take (k+1)).filter λp=>(h != 0)&&(p.Val==h),?_,rfl⟩;dsimp only;rw[zb (by rw[<-iP];simpa using hk),s7 (by rw[<-iP];exact hk),YI];have e:(keys t)[k]'(by rw[<-iP];exact hk)=(jH t)[k].Key:=by simp[yf]
  have hle:(((jH t).take k).filter λp=>(h != 0)&&(p.Val==h)).length<=8:=zP (zy ..) (by simp;omega);rw[e,Jb hR hk,YI,n9 (by omega),zu hk,zao,ms,List.filter_nil];by_cases c:((h != 0)&&((jH t)[k].Val==h))=true
  .rw[zb c,zb c,K3 (by omega) (by simp only[zI,zah];omega),YI]
  .rw[za c,za c,zay]
 .rintro l rfl;exact⟨_,by rw[<-iP];simp;rfl,by simp⟩
theorem dJ{t:Tb}(hR:HR t)(k v:Int):∃r,U1 t k v=some r/\HR r.1/\r.1.length=t.length /\
  ((k=0/\r=(t,0,2))\/(k≠0/\v=0/\((∃i,Fk t k i/\r=(t.set i ⟨2,0,0⟩,(pt t i).Val,0))\/((∀i,¬Fk t k i)/\r=(t,0,0)))) \/
   (k≠0/\v≠0/\((∃i,Fk t k i/\r=(t.set i ⟨1,k,v⟩,(pt t i).Val,0))\/(∃d,(∀i,¬Fk t k i)/\d<t.length/\(pt t d).State≠1/\xq t k v (t.set d ⟨1,k,v⟩,0)/\r=(t.set d ⟨1,k,v⟩,0,0))\/((∀i,¬Fk t k i)/\(∀i,i<t.length->(pt t i).State=1)/\r=(t,0,8))))):=by
 unfold U1;by_cases hk:k=0
 .rw[zb (by simpa using hk)];exact⟨_,rfl,hR,rfl,.inl ⟨hk,rfl⟩⟩
 .rw[za (by simpa using hk)];obtain⟨g,hg,hgv⟩:∃g,Y2 t k=some g/\((∃i,Fk t k i/\g=((pt t i).Val,0))\/((∀i,¬Fk t k i)/\g=(0,9))):=by
   rcases Bj t k with ⟨i,hi⟩ | hn;·exact⟨_,Mv hR hi,.inl ⟨i,hi,rfl⟩⟩
   .exact⟨_,Mu hR hn,.inr ⟨hn,rfl⟩⟩
  rw[hg,YI];by_cases hv:v=0
  .rw[zb (by simpa using hv)];rcases hgv with ⟨i,hi,rfl⟩ | ⟨hn,rfl⟩
   .rw[sD hR hi,YI];exact⟨_,rfl,oB hR hi.1,by simp,.inr (.inl ⟨hk,hv,.inl ⟨i,hi,rfl⟩⟩)⟩
   .rw[sC hR hn,YI];exact⟨_,rfl,hR,rfl,.inr (.inl ⟨hk,hv,.inr ⟨hn,rfl⟩⟩)⟩
  .rw[za (by simpa using hv)];obtain⟨r,hr,hp⟩:=NT hR k v;rw[hr,YI];have hRr:=yy hR hp;have hl:=EU hp;have hp':=hp;cases hp with
   | old i hi=>
    rcases hgv with ⟨j,hj,rfl⟩ | ⟨hn,rfl⟩
    .rw[hR.uq j i hj.1 hi.1 hj.2.1 hi.2.1 (hj.2.2.trans hi.2.2.symm)];exact⟨_,rfl,hRr,hl,.inr (.inr ⟨hk,hv,.inl ⟨i,hi,rfl⟩⟩)⟩
    .exact absurd hi (hn i)
   | new d hn hd hb hf=>
    rcases hgv with ⟨j,hj,rfl⟩ | ⟨_,rfl⟩;·exact absurd hj (hn j)
    .exact⟨_,rfl,hRr,hl,.inr (.inr ⟨hk,hv,.inr (.inl ⟨_,hn,rF hR.l1 k d,hf,hp',rfl⟩)⟩)⟩
   | full hn ha=>exact⟨_,rfl,hR,rfl,.inr (.inr ⟨hk,hv,.inr (.inr ⟨hn,ha,rfl⟩)⟩)⟩
theorem BF(t:Tb)(h:Int):own t h=t.countP λp=>(p.State==1)&&((h != 0)&&(p.Val==h)):=by
 unfold own jH;rw[List.countP_map,List.countP_filter];congr 1;funext p
 simp[Bool.and_comm]
theorem Ja{t:Tb}{i:Nat}(hi:i<t.length)(p:g5)(h:Int):own (t.set i p) h+(if (((pt t i).State==1)&&((h != 0)&&((pt t i).Val==h)))=true then 1 else 0)=own t h+if ((p.State==1)&&((h != 0)&&(p.Val==h)))=true then 1 else 0:=by
 rw[BF,BF,List.countP_set hi,lJ hi];have:(if ((t[i].State==1)&&((h != 0)&&(t[i].Val==h)))=true then 1 else 0)<=t.countP λp=>(p.State==1)&&((h != 0)&&(p.Val==h)):=by
  split
  .rename_i e;exact zbx.2 ⟨t[i],zh hi,e⟩
  .exact zV _
 omega
theorem NH{t:Tb}(h8:t.length<=8)(h:Int):own t h<=8:=zP zcl (rG h8)
theorem wc{t:Tb}(hR:HR t)(ks:List Int)(hks:ks.length<=1000):∃a had,aK t ks=some (a,had)/\HR a/\a.length=t.length/\had.length<=ks.length/\pb (t.map eN) ks=some (a.map eN,had) /\
  (∀k v,Has a k v↔k∉ks/\Has t k v)/\(keys a).length+had.length=(keys t).length/\(∀k v,k∈ks->Has t k v->v∈had)/\∀y,own a y+J3 had y=own t y:=by
 have key:∀n,n<=ks.length->∃a had,HR a/\a.length=t.length/\had.length<=n/\(∀k v,Has a k v↔k∉ks.take n/\Has t k v)/\(keys a).length+had.length=(keys t).length/\(∀k v,k∈ks.take n->Has t k v->v∈had)/\(∀y,own a y+J3 had y=own t y) /\
   ∃f:Nat->Tb × List Int,f 0=(t,[])/\f n=(a,had)/\∀j,(hj:j<n)->HR (f j).1/\(f j).2.length<=j/\((∃i,∃hjk:j<ks.length,Fk (f j).1 ks[j] i/\f (j+1)=((f j).1.set i ⟨2,0,0⟩,(f j).2 ++ [(pt (f j).1 i).Val]))\/((∀i,∀hjk:j<ks.length,¬Fk (f j).1 ks[j] i)/\f (j+1)=f j)):=by
  intro n;induction n with
  | zero=>exact λ_=>⟨t,[],hR,rfl,by simp,by simp,by simp,by simp,λy=>by unfold J3;split <;> simp,λ_=>(t,[]),rfl,rfl,λj hj=>by omega⟩
  | succ n ih=>
   intro hn;obtain⟨a,had,h1,h2,h3,h4,h5,h6,h7,f,f0,fn,fs⟩:=ih (by omega);have hlt:n<ks.length:=by omega
   have htk:∀k,k∈ks.take (n+1)↔k∈ks.take n\/k=ks[n]:=λk=>by
    rw[zu hlt,zw,zt]
   rcases Bj a ks[n] with ⟨i,hi⟩ | hno
   .have hd:=sz h1 hi;refine⟨a.set i ⟨2,0,0⟩,had ++ [(pt a i).Val],oB h1 hi.1,by simpa using h2,by simp;omega,λk v=>?_,?_,λk v hk hv=>?_,λy=>?_,λj=>if j=n+1 then (a.set i ⟨2,0,0⟩,had ++ [(pt a i).Val]) else f j,by simp[f0],by simp,λj hj=>?_⟩
    .rw[hd,h4,htk];constructor;·rintro⟨q1,q2,q3⟩;exact⟨λq=>q.elim q2 q1,q3⟩
     .rintro⟨q1,q2⟩;exact⟨λq=>q1 (.inr q),λq=>q1 (.inl q),q2⟩
    .have:=th hi.1 ⟨2,0,0⟩;rw[zb hi.2.1,za (by decide)] at this;simp only[zK,zI,zah];omega
    .rw[zw];rcases (htk k).1 hk with q | q
     .exact .inl (h6 k v q hv)
     .subst q;by_cases q':ks[n]∈ks.take n
      .exact .inl (h6 _ v q' hv)
      .have:=(h4 _ _).2 ⟨q',hv⟩;rw[this.fn h1 ⟨i,hi,rfl⟩];exact .inr (by simp)
    .have:=Ja hi.1 ⟨2,0,0⟩ y;have h7':=h7 y;rw[F7];have e:J3 [(pt a i).Val] y=if (((pt a i).State==1)&&((y != 0)&&((pt a i).Val==y)))=true then 1 else 0:=by
      rw[hi.2.1];unfold J3;by_cases y0:y=0
      .simp[y0]
      .by_cases e:(pt a i).Val=y
       .simp[y0,e]
       .simp[y0,e]
     rw[e];rw[za (show ¬((((2:Int)==1)&&((y != 0)&&((0:Int)==y)))=true) by simp)] at this;omega
    .rcases zE j n with q | q
     .have:=fs j q;dsimp only;rw[za (by omega),za (by omega)];exact this
     .have:j=n:=by omega
      subst this;dsimp only;rw[za (by omega),zb rfl,fn];exact⟨h1,h3,.inl ⟨i,hlt,hi,rfl⟩⟩
   .refine⟨a,had,h1,h2,by omega,λk v=>?_,h5,λk v hk hv=>?_,h7,λj=>if j=n+1 then (a,had) else f j,by simp[f0],by simp,λj hj=>?_⟩
    .rw[h4,htk];constructor
     .rintro⟨q1,q2⟩;refine⟨λq=>q.elim q1 λq=>?_,q2⟩;subst q;obtain⟨i,hi,_⟩:=(h4 _ _).2 ⟨q1,q2⟩;exact hno i hi
     .rintro⟨q1,q2⟩;exact⟨λq=>q1 (.inl q),q2⟩
    .rcases (htk k).1 hk with q | q
     .exact h6 k v q hv
     .subst q;by_cases q':ks[n]∈ks.take n
      .exact h6 _ v q' hv
      .obtain⟨i,hi,_⟩:=(h4 _ _).2 ⟨q',hv⟩;exact absurd hi (hno i)
    .rcases zE j n with q | q
     .have:=fs j q;dsimp only;rw[za (by omega),za (by omega)];exact this
     .have:j=n:=by omega
      subst this;dsimp only;rw[za (by omega),zb rfl,fn];exact⟨h1,h3,.inr ⟨λi _=>hno i,rfl⟩⟩
 obtain⟨a,had,h1,h2,h3,h4,h5,h6,h7,f,f0,fn,fs⟩:=key ks.length (zG _);rw[zQ] at h4 h6;refine⟨a,had,?_,h1,h2,h3,?_,h4,h5,h6,h7⟩
 .unfold aK;simp only[jn];refine jy (λj=>((f j).1,(j:Int),(f j).2)) (by rw[f0];rfl) ks.length (λ_=>True) (by omega) trivial (λj hj _=>?_) (λ_=>⟨(a,had),by dsimp only;rw[za (by simp),fn],rfl⟩);obtain⟨g1,g2,g3⟩:=fs j hj;left;refine⟨?_,trivial⟩;dsimp only;rw[zb (by simpa using hj),s7 hj,YI,n9 (by omega)];rcases g3 with ⟨i,_,hi,e⟩ | ⟨hno,e⟩
  .rw[sD g1 hi,YI,e];dsimp only;rw[zb (by decide),K3 (by omega) (by simp;omega),YI]
  .rw[sC g1 (λi=>hno i hj),YI,e];dsimp only;rw[za (by decide)]
 .unfold pb;simp only[jn];refine jy (λj=>((f j).1.map eN,(j:Int),(f j).2)) (by rw[f0];rfl) ks.length (λ_=>True) (by omega) trivial (λj hj _=>?_) (λ_=>⟨(a.map eN,had),by dsimp only;rw[za (by simp),fn],rfl⟩);obtain⟨g1,g2,g3⟩:=fs j hj;left;refine⟨?_,trivial⟩;dsimp only;rw[zb (by simpa using hj),s7 hj,YI,n9 (by omega),Vb g1];rcases g3 with ⟨i,_,hi,e⟩ | ⟨hno,e⟩
  .rw[sD g1 hi,un,YI,e];dsimp only;rw[zb (by decide),K3 (by omega) (by simp;omega),YI]
  .rw[sC g1 (λi=>hno i hj),un,YI,e];dsimp only;rw[za (by decide)]
inductive aU (s:b6) (t:Tb) (l:List Int):Int->Prop
 | base {h:Int}:h∈l->h∈lv s->aU s t l h
 | step {a b:Int}:aU s t l a->b∈outs s a->b∈lv s->aU s t l b
 | pair {k v:Int}:Has t k v->aU s t l k->v∈lv s->aU s t l v
open Classical in
noncomputable def Kj (s:b6) (t:Tb) (l:List Int):List Int:=(lv s).filter λh=>decide (aU s t l h)
open Classical in
noncomputable def VE (s:b6) (t:Tb) (l:List Int):List Int:=(lv s).filter λh=>decide (¬aU s t l h)
noncomputable def DK(s:b6)(t:Tb)(l:List Int):List Int:=((jH t).filter λp=>decide (p.Key∈l/\p.Key∈lv s/\p.Val∈lv s)).map (·.Val)
def TB(t:Tb):Prop:=∀p∈t,p.Key<=9223372036854775807/\p.Val<=9223372036854775807
def JH(s:b6)(t:Tb)(l:List Int):Prop:=∀k v,Has t k v->k∈l->k∈lv s->v∈lv s->v∈l
theorem TB.has{t:Tb}(h:TB t){k v:Int}(q:Has t k v):k<=9223372036854775807/\v<=9223372036854775807:=by
 obtain⟨i,⟨h1,_,h2⟩,h3⟩:=q;rw[lJ h1] at h2 h3;have:=h _ (zh h1);rw[h2,h3] at this;exact this
theorem aU.live{s:b6}{t:Tb}{l:List Int}{h:Int}(q:aU s t l h):h∈lv s:=by cases q <;> assumption
open Classical in
theorem sM {s:b6} {t:Tb} {l:List Int} {h:Int}:h∈Kj s t l↔aU s t l h:=by
 unfold Kj;rw[zk];exact⟨λq=>zbj q.2,λq=>⟨q.live,zC q⟩⟩
theorem Im{s:b6}(hR:vF (sO s))(t:Tb)(l:List Int):(Kj s t l).length<=24:=zP (zy ..) (M0 hR)
theorem TH{s:b6}(hR:vF (sO s))(t:Tb)(l:List Int):LB (Kj s t l):=λx hx=>by have:=mU hR (sM.1 hx).live;omega
theorem UX{s:b6}(hR:vF (sO s))(l:List Int):LB (Hd s l):=λx hx=>by have:=mU hR (fp.1 hx).live;omega
theorem TG(s:b6)(t:Tb)(l:List Int):Cl s (Kj s t l):=λa ha b hb hl=>sM.2 (.step (sM.1 ha) hb hl)
theorem aU.least{s:b6}{t:Tb}{l m:List Int}(hc:Cl s m)(hp:JH s t m)(hl:∀x∈l,x∈lv s->x∈m){h:Int}(q:aU s t l h):h∈m:=by
 induction q with
 | base h1 h2=>exact hl _ h1 h2
 | step _ h1 h2 ih=>exact hc _ ih _ h1 h2
 | pair h1 h2 h3 ih=>exact hp _ _ h1 ih h2.live h3
theorem aU.mono{s:b6}{t u:Tb}{l m:List Int}(ht:∀k v,Has t k v->Has u k v)(hl:∀x∈l,x∈lv s->aU s u m x){h:Int}(q:aU s t l h):aU s u m h:=by
 induction q with
 | base h1 h2=>exact hl _ h1 h2
 | step _ h1 h2 ih=>exact .step ih h1 h2
 | pair h1 _ h3 ih=>exact .pair (ht _ _ h1) ih h3
theorem rV.XT{s:b6}(t:Tb){l:List Int}{h:Int}(q:rV s l h):aU s t l h:=by
 induction q with
 | base h1 h2=>exact .base h1 h2
 | step _ h1 h2 ih=>exact .step ih h1 h2
theorem tO{s:b6}{t:Tb}{l:List Int}{v:Int}:v∈DK s t l↔∃k,Has t k v/\k∈l/\k∈lv s/\v∈lv s:=by
 unfold DK;rw[zn];constructor
 .rintro⟨p,hp,rfl⟩;obtain⟨h1,h2⟩:=zk.1 hp;exact⟨p.Key,ca.1 h1,zbj h2⟩
 .rintro⟨k,h1,h2⟩;exact⟨⟨k,v⟩,zk.2 ⟨ca.2 h1,zC h2⟩,rfl⟩
theorem GV{s:b6}{t:Tb}{l:List Int}:(∀v∈DK s t l,v∈l)↔JH s t l:=by
 constructor;·exact λh k v h1 h2 h3 h4=>h v (tO.2 ⟨k,h1,h2,h3,h4⟩)
 .intro h v hv;obtain⟨k,h1,h2,h3,h4⟩:=tO.1 hv;exact h k v h1 h2 h3 h4
theorem IX{s:b6}{t:Tb}(hT:HR t)(l:List Int):(DK s t l).length<=8:=by
 unfold DK;rw[zm];exact zP (zy ..) (rG hT.l8)
theorem UI{s:b6}(hR:vF (sO s))(t:Tb)(l:List Int):LB (DK s t l):=λx hx=>by
 obtain⟨_,_,_,_,h⟩:=tO.1 hx;have:=mU hR h;omega
noncomputable def T4(s:b6)(t:Tb)(l:List Int):Nat->List Int
 | 0=>Hd s l
 | k+1=>Hd s (T4 s t l k++DK s t (T4 s t l k))
section
variable{s:b6}{t:Tb}{l:List Int}
theorem KO(k:Nat):T4 s t l (k+1)=Hd s (T4 s t l k++DK s t (T4 s t l k)):=rfl
theorem tX(k:Nat):∃m,T4 s t l k=Hd s m:=by
 cases k with
 | zero=>exact⟨_,rfl⟩
 | succ k=>exact⟨_,rfl⟩
theorem Ry(k:Nat):Cl s (T4 s t l k):=by
 obtain⟨m,e⟩:=tX (s:=s) (t:=t) (l:=l) k;rw[e];exact UW s m
theorem KM(k:Nat){x:Int}(h:x∈T4 s t l k):x∈lv s:=by
 obtain⟨m,e⟩:=tX (s:=s) (t:=t) (l:=l) k;rw[e] at h;exact (fp.1 h).live
theorem Fc(k:Nat){x:Int}(h:x∈T4 s t l k):x∈T4 s t l (k+1):=fp.2 (.base (zw.2 (.inl h)) (KM k h))
theorem KL(k:Nat):∀x∈l,x∈lv s->x∈T4 s t l k:=by
 induction k with
 | zero=>exact λx h1 h2=>fp.2 (.base h1 h2)
 | succ k ih=>exact λx h1 h2=>Fc k (ih x h1 h2)
theorem Od(k:Nat):∀x∈T4 s t l k,aU s t l x:=by
 induction k with
 | zero=>exact λx h=>(fp.1 h).XT t
 | succ k ih=>
  intro x h;have:=fp.1 h;induction this with
  | base h1 h2=>
   rcases zw.1 h1 with q | q
   .exact ih _ q
   .obtain⟨k',q1,q2,q3,q4⟩:=tO.1 q;exact .pair q1 (ih _ q2) q4
  | step h0 h1 h2 ih2=>exact .step (ih2 (fp.2 h0)) h1 h2
theorem KN{k:Nat}(h:JH s t (T4 s t l k)):T4 s t l k=Kj s t l:=by
 obtain⟨m,e⟩:=tX (s:=s) (t:=t) (l:=l) k;have hm:∀x,rV s m x↔aU s t l x:=λx=>by
  rw[<-fp,<-e];exact⟨Od k x,λq=>q.least (Ry k) h (KL k)⟩
 rw[e];unfold Hd Kj;exact or λx _=>zbp.2 (hm x)
theorem BI{k:Nat}(h:¬JH s t (T4 s t l k)):((jH t).filter λp=>decide (p.Val∈T4 s t l k)).length<((jH t).filter λp=>decide (p.Val∈T4 s t l (k+1))).length:=by
 obtain⟨v,hv,hn⟩:∃v,v∈DK s t (T4 s t l k)/\v∉T4 s t l k:=rx λq=>h (GV.1 λv hv=>rx λq2=>q ⟨v,hv,q2⟩);obtain⟨k',h1,h2,h3,h4⟩:=tO.1 hv;refine filter_lt (λp _ hp=>?_) ⟨k',v⟩ (ca.2 h1) ?_ ?_
 .rw[zH] at hp |-;exact Fc k hp
 .rw[zH];exact fp.2 (.base (zw.2 (.inr hv)) h4)
 .exact zY hn
theorem tW(s:b6)(t:Tb)(l:List Int):∃n,n<=(jH t).length/\JH s t (T4 s t l n)/\∀j,j<n->¬JH s t (T4 s t l j):=by
 have key:∀k,(∃j,j<=k/\JH s t (T4 s t l j))\/k<((jH t).filter λp=>decide (p.Val∈T4 s t l (k+1))).length:=by
  intro k;induction k with
  | zero=>
   by_cases h:JH s t (T4 s t l 0)
   .exact .inl ⟨0,zG _,h⟩
   .have:=BI h;exact .inr (by omega)
  | succ k ih=>
   rcases ih with ⟨j,h1,h2⟩ | ih;·exact .inl ⟨j,by omega,h2⟩
   .by_cases h:JH s t (T4 s t l (k+1))
    .exact .inl ⟨k+1,zG _,h⟩
    .have:=BI h;exact .inr (by omega)
 obtain⟨j,h1,h2⟩:∃j,j<=(jH t).length/\JH s t (T4 s t l j):=by
  rcases key (jH t).length with q | q
  .exact q
  .have:=zy (λp:g7=>decide (p.Val∈T4 s t l ((jH t).length+1))) (jH t);omega
 obtain⟨n,hn,hmin⟩:=dy (p:=λj=>JH s t (T4 s t l j)) ⟨j,h2⟩;exact⟨n,zP (hmin j h2) h1,hn,λi hi q=>by have:=hmin i q;omega⟩
end
noncomputable def VI(s:b6)(t:Tb)(l:List Int):Nat:=Classical.choose (tW s t l)
theorem Vf(s:b6)(t:Tb)(l:List Int):VI s t l<=(jH t).length:=(za0 (tW s t l)).1
theorem Oc(s:b6)(t:Tb)(l:List Int):JH s t (T4 s t l (VI s t l)):=(za0 (tW s t l)).2.1
theorem Rx(s:b6)(t:Tb)(l:List Int){j:Nat}(h:j<VI s t l):¬JH s t (T4 s t l j):=(za0 (tW s t l)).2.2 j h
section
variable{s:b6}(hR:vF (sO s)){t:Tb}(hT:HR t)(hTB:TB t)
include hR hT hTB
omit hT hTB in
theorem Bu {h:Int} (hh:h<=9223372036854775807):js h s=some (decide (h∈lv s)):=by
 obtain⟨e,h1,h2⟩:=ic hR hh;unfold js;rw[h1,YI];congr 1;rw[zbm,me,zH];exact h2
theorem IY{l:List Int}(hl:l.length<=1000000):sL s t l=some (DK s t l):=by
 unfold sL;simp only[jn,NN hT,YI];have h8:=rG hT.l8;rw[U4 ((jH t)) (λb p=>b++(if decide (p.Key∈l/\p.Key∈lv s/\p.Val∈lv s) then [p.Val] else [])) id (λk b=>b.length<=k) (by omega) (by simp) (λk hk b hb=>?_) (λb _=>?_)]
 .simp only[YI,id];rw[rp];congr 1;unfold DK;rw[zci];generalize jH t=P;induction P with
  | nil=>rfl
  | cons p P ih=>
   rw[zba,ms,ih];by_cases q:p.Key∈l/\p.Key∈lv s/\p.Val∈lv s
   .simp[q]
   .simp[q]
 .have hb':=hTB.has (ca.1 (zh hk));simp only[wp,hk,t6,wn,s7 hk,YI,contains_eq _ _ hl];rw[Bu hR hb'.1,Bu hR hb'.2];by_cases q1:(jH t)[k].Key∈l
  .rw[zC q1];simp only[mt,jG,YI,zbf];by_cases q2:(jH t)[k].Key∈lv s
   .rw[zC q2];simp only[mt,jG,YI,zbf];by_cases q3:(jH t)[k].Val∈lv s
    .rw[zb (by simpa using q3),K3 (by omega) (by simp;omega),YI,n9,zb (by simp[q1,q2,q3])];exact⟨rfl,by simp;omega⟩
    .rw[za (by simpa using q3),n9,za (by simp[q3]),zay];exact⟨rfl,by omega⟩
   .rw[zY q2];simp only[show ((false==true):Bool)=false from rfl,IV,YI,Bool.false_and,zD,qr];rw[n9,za (by simp[q2]),zay];exact⟨rfl,by omega⟩
  .rw[zY q1];simp only[show ((false==true):Bool)=false from rfl,IV,YI,Bool.false_and,zD,qr];rw[n9,za (by simp[q1]),zay];exact⟨rfl,by omega⟩
 .simp only[zbg,zbz,zD,qr];rfl
theorem MD(hF:FB s){l:List Int}(hl:LB l)(hlen:l.length<=1000000):pN s t l=some (Kj s t l,(VI s t l:Int)):=by
 unfold pN;rw[Io hR hF hl hlen,YI];simp only[jn];have hn:=Vf s t l;have h8:=rG hT.l8;have hstep:∀k,∃m,T4 s t l k=Hd s m:=tX;refine jy (p:=λk=>(T4 s t l k,(k:Int))) rfl (VI s t l) (λ_=>True) (by omega) trivial (λk hk _=>.inl ⟨?_,trivial⟩) (λ_=>?_)
 .obtain⟨m,hm⟩:=hstep k;have hlk:(T4 s t l k).length<=24:=by rw[hm];exact Rr hR m
  have hlb:LB (T4 s t l k):=by rw[hm];exact UX hR m
  have hno:=Rx s t l hk;simp only;rw[IY hR hT hTB (by omega),YI];have ho:=IX (s:=s) hT (T4 s t l k);obtain⟨j,⟨hj,hjn⟩,hmin⟩:=dy (p:=λj=>∃hj:j<(DK s t (T4 s t l k)).length,(DK s t (T4 s t l k))[j]∉T4 s t l k) (by
   refine rx λq=>hno (GV.1 λv hv=>rx λq2=>?_);obtain⟨j,hj,e⟩:=List.mem_iff_getElem.1 hv;exact q ⟨j,hj,by rw[e];exact q2⟩)
  refine fR (DK s t (T4 s t l k)).length (λi=>i<=j) (by omega) (zV _) (λi hi hP=>?_) (λhP=>by omega);simp only[wp,hi,t6,wn,s7 hi,YI];rw[contains_eq _ _ (by omega),YI];rcases zE i j with q | q
  .refine .inl ⟨?_,q⟩;have:(DK s t (T4 s t l k))[i]∈T4 s t l k:=rx λq2=>by have:=hmin i ⟨hi,q2⟩;omega
   rw[za (by simp[this]),n9]
  .have:i=j:=by omega
   subst this;refine .inr ⟨.inl (T4 s t l (k+1),((k+1:Nat):Int)),?_,rfl⟩;rw[zb (by simp[hjn]),K3 (by omega) (by omega),YI,Io hR hF (λx hx=>by
    rcases zw.1 hx with q | q
    .exact UI hR t _ x q
    .exact hlb x q) (by simp;omega),YI,n9,KO]
   rw[KK (l:=DK s t (T4 s t l k)++T4 s t l k) (m:=T4 s t l k++DK s t (T4 s t l k)) λx=>⟨λq=>q.mono λy hy hyl=>.base (zw.2 (zw.1 hy).symm) hyl,λq=>q.mono λy hy hyl=>.base (zw.2 (zw.1 hy).symm) hyl⟩]
 .have hst:=Oc s t l;have hfr:=KN hst;refine⟨(Kj s t l,(VI s t l:Int)),?_,rfl⟩;simp only;rw[hfr] at hst |-;have hfl:=Im hR t l;rw[IY hR hT hTB (by omega),YI];have ho:=IX (s:=s) hT (Kj s t l);refine fR (DK s t (Kj s t l)).length (λ_=>True) (by omega) trivial (λi hi _=>.inl ⟨?_,trivial⟩) (λ_=>⟨.inr (),by simp,rfl⟩);have:=GV.2 hst _ (zh hi);simp only[wp,hi,t6,wn,s7 hi,YI];rw[contains_eq _ _ (by omega),YI,za (by simp[this]),n9]
theorem Mi(hF:FB s){l:List Int}(hl:LB l)(hlen:l.length<=1000000):sK s t l=some (Kj s t l):=by
 unfold sK;rw[MD hR hT hTB hF hl hlen];rfl
omit hT hTB hR in
theorem Rt {l:List Int} {x:Int}:rV s (Kj s t l) x↔aU s t l x:=by
 constructor
 .intro q;exact sM.1 (rV.least (TG s t l) (λx h _=>h) q)
 .exact λq=>.base (sM.2 q) q.live
theorem Mq(hF:FB s){l:List Int}(hl:LB l)(hlen:l.length<=1000000):oG s t l=some (VE s t l):=by
 unfold oG;rw[Mi hR hT hTB hF hl hlen,YI,QD hR hF (TH hR t l) (by have:=Im hR t l;omega),YI];congr 1;unfold lst VE;exact or λx _=>zbp.2 (not_congr Rt)
end
section
variable(s:b6)(hF:FB s)(t:Tb)(hTB:TB t)
include hF hTB
end
def ce(s:b6)(i:Nat):c8:=s.S.b7.getD i ⟨0,0,z0⟩
theorem O1{s:b6}{i:Nat}(h:i<s.S.b7.length):ce s i=s.S.b7[i]:=by
 unfold ce;rw[zd,zc h];rfl
theorem Iy{s:b6}{i:Nat}(h:i<s.S.b7.length):ix s.S.b7 (i:Int)=some (ce s i):=by rw[s7 h,O1 h]
def Th(c:c8):Prop:=c.State=1\/c.State=2
instance(c:c8):Decidable (Th c):=by unfold Th;infer_instance
structure Ap (s:b6) (o:n7):Prop where
 s1:1<=o.Serial
 s2:o.Serial<=s.Serial
 st:0<=o.Strong
 wk:0<=o.Weak
 p1 : -1<=o.Prog
 p2:o.Prog<=5
 fl:o.Fields.length<=4
structure SR (s:b6):Prop where
 len:s.S.b7.length<=24
 l0:0<=s.S.Last
 l9:s.S.Last<=9
 bg:0<=s.Serial
 cell:∀i,i<s.S.b7.length->0<=(ce s i).State/\(ce s i).State<=3/\0<=(ce s i).Gen/\(ce s i).Gen<=s.S.Last
 no:∀i,i<s.S.b7.length->¬Th (ce s i)->JG (oo (ce s i).Val)
 ok:∀i,i<s.S.b7.length->Th (ce s i)->Ap s (ce s i).Val
 dif:∀i j,i<s.S.b7.length->j<s.S.b7.length->Th (ce s i)->Th (ce s j)->(ce s i).Val.Serial=(ce s j).Val.Serial->i=j
theorem A0{s:b6}:vF (sO s)↔SR s:=by
 constructor
 .intro h;refine⟨pf h,h.l0,h.l9,h.bg,λi hi=>?_,λi hi hn=>?_,λi hi ht=>?_,λi j hi hj a b e=>?_⟩;·rw[O1 hi];exact Dl h i hi
  .rw[O1 hi] at hn |-;have:=h.no i (by rw[kY];exact hi);simp only[sO,q9] at this;exact this hn
  .rw[O1 hi] at ht |-;obtain⟨a,b,c,d,e,f,g⟩:=Og h i hi ht;exact⟨a,b,c,d,e,f,g⟩
  .rw[O1 hi] at a e;rw[O1 hj] at b e;exact Of h hi hj a b e
 .intro h;refine⟨by rw[kY];exact h.len,h.l0,h.l9,h.bg,λi hi=>?_,λi hi hn=>?_,λi hi ht=>?_,λi hi k hk a b=>?_⟩
  .rw[kY] at hi;have:=h.cell i hi;rw[O1 hi] at this;simpa[sO,cO] using this
  .rw[kY] at hi;have:=h.no i hi;rw[O1 hi] at this;simp only[sO,q9] at hn |-;exact this hn
  .rw[kY] at hi;have:=h.ok i hi;rw[O1 hi] at this;simp only[sO,q9] at ht |-;obtain⟨a,b,c,d,e,f,g⟩:=this ht;exact⟨a,b,c,d,e,f,g⟩
  .rw[kY] at hi;have hk':k<s.S.b7.length:=by omega
   have:=h.dif i k hi hk';rw[O1 hi,O1 hk'] at this;simp only[sO,q9,cO,oo] at a b |-;intro e;have:=this a b e.symm;omega
def At(s:b6)(h:Int)(i:Nat):Prop:=i<s.S.b7.length/\(ce s i).State=1/\h=1+(i:Int)+32*(ce s i).Gen
def T5(s:b6)(h:Int)(i:Nat):Prop:=i<s.S.b7.length/\Th (ce s i)/\h=1+(i:Int)+32*(ce s i).Gen
theorem At.d{s:b6}{h:Int}{i:Nat}(q:At s h i):T5 s h i:=⟨q.1,.inl q.2.1,q.2.2⟩
theorem T5.one{s:b6}(hR:SR s){h:Int}{i j:Nat}(q:T5 s h i)(q':T5 s h j):i=j:=by
 obtain⟨a1,_,a2⟩:=q;obtain⟨b1,_,b2⟩:=q';have:=hR.len;omega
theorem T5.KP{s:b6}(hR:SR s){h:Int}{i:Nat}(q:T5 s h i):1<=h/\h<=320:=by
 obtain⟨a1,_,a2⟩:=q;have:=hR.len;have:=hR.cell i a1;have:=hR.l9;omega
theorem EE{s:b6}{h:Int}:h∈cW 0 s.S.b7↔∃i,At s h i:=by
 rw[oP];constructor
 .rintro⟨i,hi,h1,h2⟩;refine⟨i,hi,by rw[O1 hi];exact h1,?_⟩;rw[O1 hi,h2,zaa]
 .rintro⟨i,hi,h1,h2⟩;rw[O1 hi] at h1 h2;exact⟨i,hi,h1,by rw[h2,zaa]⟩
theorem gO{s:b6}(hR:SR s){h:Int}:h∈lv s↔∃i,At s h i:=by rw[CH (A0.2 hR),EE]
theorem rn{s:b6}(hR:SR s){h:Int}{i:Nat}:wh s.S h i↔T5 s h i:=by
 constructor
 .rintro⟨hi,h1,h2,h3,h4⟩;unfold BU at h1;refine⟨hi,by rw[O1 hi];exact h4,?_⟩;rw[O1 hi];omega
 .rintro⟨hi,h1,h2⟩;have l:=hR.len;have l9:=hR.l9;have c:=hR.cell i hi;rw[O1 hi] at h1 h2 c;exact⟨hi,by unfold BU;omega,by omega,by omega,h1⟩
theorem E9{s:b6}(hR:SR s){h:Int}{i:Nat}(q:At s h i):ob s h=(ce s i).Val:=by
 obtain⟨j,hj,h1,h2,_,e⟩:=CG (A0.2 hR) ((gO hR).2 ⟨i,q⟩);have:j=i:=T5.one hR ⟨hj,by rw[O1 hj];exact .inl h1,by rw[O1 hj];exact h2⟩ q.d;subst this;rw[e,O1 hj]
theorem HV{s:b6}(hR:SR s){h:Int}{i:Nat}(q:At s h i):sk s.S.b7 h=(ce s i).Val.Serial:=by
 have:=hR.len;have hi:=q.1;rw[q.2.2,Fo hi (by omega),O1 hi]
theorem wW{s:b6}(hR:SR s){h:Int}{i:Nat}(q:T5 s h i):z7 s.S h=some ((i:Int),0):=uO ((rn hR).2 q)
theorem xy{s:b6}(hR:SR s){h:Int}(hh:h<=9223372036854775807)(q:∀i,¬T5 s h i):z7 s.S h=some (-1,if h=0 then 2 else 3):=Bh hh λi hi=>q i ((rn hR).1 hi)
theorem MU{s s':b6}(hR:SR s)(hR':SR s')(P:Int->Bool)(hm:∀h,(∃i,At s' h i)↔(∃i,At s h i)/\P h=true)(hk:∀h i j,At s' h i->At s h j->(ce s' i).Val.Serial=(ce s j).Val.Serial):lv s'=(lv s).filter P:=by
 have hk':∀h∈lv s,P h=true->sk s'.S.b7 h=sk s.S.b7 h:=λh hh hp=>by
  obtain⟨j,hj⟩:=(gO hR).1 hh;obtain⟨i,hi⟩:=(hm h).2 ⟨⟨j,hj⟩,hp⟩;rw[HV hR' hi,HV hR hj,hk h i j hi hj]
 refine Wu (A0.2 hR') ?_ ?_
 .rw[List.perm_ext_iff_of_nodup ((oV (A0.2 hR)).filter _) (mR 0 _ (by have:=hR'.len;omega))];intro h;rw[zk,gO hR,EE,hm h]
 .refine ((mV (A0.2 hR)).2.2.filter P).imp_of_mem λ{a b} ha hb hab=>?_;rw[zk] at ha hb;rw[hk' a ha.1 ha.2,hk' b hb.1 hb.2];exact hab
theorem QH{s s':b6}(hR:SR s)(hR':SR s')(hl:s'.S.b7.length=s.S.b7.length)(h1:∀i,i<s.S.b7.length->((ce s' i).State=1↔(ce s i).State=1)/\(ce s' i).Gen=(ce s i).Gen/\(ce s' i).Val.Serial=(ce s i).Val.Serial):lv s'=lv s:=by
 have ha:∀h i,At s' h i↔At s h i:=λh i=>by
  unfold At;rw[hl];constructor
  .rintro⟨a,b,c⟩;obtain⟨x,y,z⟩:=h1 i a;exact⟨a,x.1 b,by rw[<-y];exact c⟩
  .rintro⟨a,b,c⟩;obtain⟨x,y,z⟩:=h1 i a;exact⟨a,x.2 b,by rw[y];exact c⟩
 rw[MU hR hR' (λ_=>true) (λh=>by simp only[and_true];exact⟨λ⟨i,q⟩=>⟨i,(ha h i).1 q⟩,λ⟨i,q⟩=>⟨i,(ha h i).2 q⟩⟩) (λh i j q q'=>by
  have:=T5.one hR ((ha h i).1 q).d q'.d;subst this;exact (h1 i q'.1).2.2)]
 simp
def fJ(s:b6)(i:Nat)(o:n7):b6:=⟨⟨s.S.b7.set i ⟨(ce s i).State,(ce s i).Gen,o⟩,s.S.Last⟩,s.Serial⟩
theorem J1(s:b6)(i:Nat)(o:n7):(fJ s i o).S.b7.length=s.S.b7.length:=by simp[fJ]
theorem xW{α:Type}{l:List α}{i:Nat}(hi:i<l.length)(c d:α)(j:Nat):(l.set i c).getD j d=if j=i then c else l.getD j d:=by
 rw[zd,zd,List.getElem?_set];by_cases h:j=i
 .subst h;rw[zb rfl,zb hi,zb rfl];rfl
 .rw[za (za3 h),za h]
theorem mC{s:b6}{i:Nat}(hi:i<s.S.b7.length)(o:n7)(j:Nat):ce (fJ s i o) j=if j=i then ⟨(ce s i).State,(ce s i).Gen,o⟩ else ce s j:=xW hi _ _ j
theorem Aa{s:b6}{i:Nat}(hi:i<s.S.b7.length)(o:n7)(j:Nat):(ce (fJ s i o) j).State=(ce s j).State/\(ce (fJ s i o) j).Gen=(ce s j).Gen:=by
 rw[mC hi];split;·rename_i q;subst q;exact⟨rfl,rfl⟩
 .exact⟨rfl,rfl⟩
theorem wV{s:b6}{i:Nat}(hi:i<s.S.b7.length)(o:n7){h:Int}{j:Nat}:T5 (fJ s i o) h j↔T5 s h j:=by
 unfold T5 Th;rw[J1,(Aa hi o j).1,(Aa hi o j).2]
theorem xz{s:b6}{i:Nat}(hi:i<s.S.b7.length)(o:n7){h:Int}{j:Nat}:At (fJ s i o) h j↔At s h j:=by
 unfold At;rw[J1,(Aa hi o j).1,(Aa hi o j).2]
theorem Oo{s:b6}(hR:SR s){h:Int}{i:Nat}(q:T5 s h i)(o:n7):R5 s h o=some (fJ s i o,0):=by
 obtain⟨hi,e⟩:=Oq (v:=o) hR.len ((rn hR).2 q);unfold R5;rw[e];simp[fJ,O1 hi]
theorem SR.put{s:b6}(hR:SR s){i:Nat}(hi:i<s.S.b7.length)(ht:Th (ce s i)){o:n7}(hs:o.Serial=(ce s i).Val.Serial)(ho:Ap s o):SR (fJ s i o):=by
 have hst:=Aa hi o;have hse:∀j,(ce (fJ s i o) j).Val.Serial=(ce s j).Val.Serial:=λj=>by
  rw[mC hi];split;·rename_i q;subst q;exact hs
  .rfl
 refine⟨by rw[J1];exact hR.len,hR.l0,hR.l9,hR.bg,λj hj=>?_,λj hj hn=>?_,λj hj hn=>?_,λj k hj hk a b e=>?_⟩
 .rw[J1] at hj;rw[(hst j).1,(hst j).2];exact hR.cell j hj
 .rw[J1] at hj;unfold Th at hn;rw[(hst j).1] at hn;rw[mC hi];split;·rename_i q;subst q;exact absurd ht hn
  .exact hR.no j hj hn
 .rw[J1] at hj;unfold Th at hn;rw[(hst j).1] at hn;rw[mC hi];split;·exact⟨ho.s1,ho.s2,ho.st,ho.wk,ho.p1,ho.p2,ho.fl⟩
  .have:=hR.ok j hj hn;exact⟨this.s1,this.s2,this.st,this.wk,this.p1,this.p2,this.fl⟩
 .rw[J1] at hj hk;unfold Th at a b;rw[(hst j).1] at a;rw[(hst k).1] at b;rw[hse,hse] at e;exact hR.dif j k hj hk a b e
theorem MT{s:b6}(hR:SR s){i:Nat}(hi:i<s.S.b7.length){o:n7}(hs:o.Serial=(ce s i).Val.Serial)(hR':SR (fJ s i o)):lv (fJ s i o)=lv s:=by
 refine QH hR hR' (J1 ..) λj hj=>?_;rw[mC hi];split;·rename_i q;subst q;exact⟨Iff.rfl,rfl,hs⟩
 .exact⟨Iff.rfl,rfl,rfl⟩
theorem UC{s:b6}(hR:SR s){h:Int}{i:Nat}(q:At s h i){o:n7}(hR':SR (fJ s i o)){k:Int}(hk:k<=9223372036854775807):ob (fJ s i o) k=if k=h then o else ob s k:=by
 by_cases e:k=h
 .subst e;rw[zb rfl,E9 hR' ((xz q.1 o).2 q),mC q.1,zb rfl]
 .rw[za e];by_cases hl:∃j,At s k j
  .obtain⟨j,hj⟩:=hl;rw[E9 hR' ((xz q.1 o).2 hj),E9 hR hj,mC q.1,za];intro e2;subst e2;exact e (hj.2.2.trans q.2.2.symm)
  .rw[vM (A0.2 hR) hk (λq2=>hl ((gO hR).1 q2)),vM (A0.2 hR') hk λq2=>hl (by
    obtain⟨j,hj⟩:=(gO hR').1 q2;exact⟨j,(xz q.1 o).1 hj⟩)]
def D3(h:Int):Nat:=((h-1) % 32).toNat
theorem T5.D3{s:b6}(hR:SR s){h:Int}{i:Nat}(q:T5 s h i):D3 h=i:=by
 obtain⟨a,_,c⟩:=q;have:=hR.len;unfold Sh.D3;omega
def cT(s:b6)(h:Int)(o:n7):b6:=fJ s (D3 h) o
theorem o0{s:b6}(hR:SR s){h:Int}(hh:h∈lv s):At s h (D3 h):=by
 obtain⟨i,hi⟩:=(gO hR).1 hh;rw[hi.d.D3 hR];exact hi
theorem J7{s:b6}(hR:SR s){h:Int}(hh:h∈lv s):Ap s (ob s h):=by
 have q:=o0 hR hh;rw[E9 hR q];exact hR.ok _ q.1 (.inl q.2.1)
theorem H5{s:b6}(hR:SR s){h:Int}(hh:h∈lv s):1<=h/\h<=320:=(o0 hR hh).d.KP hR
theorem eP{s:b6}(hR:SR s):(0:Int)∉lv s:=λh=>by have:=H5 hR h;omega
section
variable{s:b6}(hR:SR s){h:Int}(hh:h∈lv s){o:n7}(hs:o.Serial=(ob s h).Serial)(ho:Ap s o)
include hR hh hs ho
theorem bN:SR (cT s h o):=by
 have q:=o0 hR hh;exact hR.put q.1 (.inl q.2.1) (by rw[hs,E9 hR q]) ho
theorem iA:lv (cT s h o)=lv s:=by
 have q:=o0 hR hh;exact MT hR q.1 (by rw[hs,E9 hR q]) (bN hR hh hs ho)
theorem ga{k:Int}(hk:k<=9223372036854775807):ob (cT s h o) k=if k=h then o else ob s k:=UC hR (o0 hR hh) (bN hR hh hs ho) hk
theorem xg:R5 s h o=some (cT s h o,0):=Oo hR (o0 hR hh).d o
theorem Ds{k:Int}{i:Nat}:T5 (cT s h o) k i↔T5 s k i:=wV (o0 hR hh).1 o
theorem yP(i:Nat):ce (cT s h o) i=if i=D3 h then ⟨(ce s i).State,(ce s i).Gen,o⟩ else ce s i:=by
 unfold cT;rw[mC (o0 hR hh).1];split;·rename_i q;rw[q]
 .rfl
end
abbrev AP(o:n7)(n:Int):n7:=⟨o.Serial,n,o.Weak,o.Prog,o.Started,o.Fields⟩
structure vE (s s':b6):Prop where
 sr:SR s'
 len:s'.S.b7.length=s.S.b7.length
 last:s'.S.Last=s.S.Last
 bg:s'.Serial=s.Serial
 lv:lv s'=lv s
 ad:∀k i,T5 s' k i↔T5 s k i
 ob:∀k,k<=9223372036854775807->∃n,ob s' k=(AP (ob s k) (n))
 ce:∀i,i<s.S.b7.length->(ce s' i).State=(ce s i).State/\(ce s' i).Gen=(ce s i).Gen/\(ce s' i).Val.Weak=(ce s i).Val.Weak/\(ce s' i).Val.Fields=(ce s i).Val.Fields/\((ce s i).State≠1->ce s' i=ce s i)
theorem vE.refl{s:b6}(hR:SR s):vE s s:=⟨hR,rfl,rfl,rfl,rfl,λ_ _=>Iff.rfl,λk _=>⟨_,rfl⟩,λi _=>⟨rfl,rfl,rfl,rfl,λ_=>rfl⟩⟩
theorem vE.trans{a b c:b6}(h:vE a b)(q:vE b c):vE a c:=by
 refine⟨q.sr,q.len.trans h.len,q.last.trans h.last,q.bg.trans h.bg,q.lv.trans h.lv,λk i=>(q.ad k i).trans (h.ad k i),λk hk=>?_,λi hi=>?_⟩
 .obtain⟨n,e⟩:=h.ob k hk;obtain⟨m,f⟩:=q.ob k hk;exact⟨m,by rw[f,e]⟩
 .obtain⟨a1,a2,a3,a4,a5⟩:=h.ce i hi;obtain⟨b1,b2,b3,b4,b5⟩:=q.ce i (by rw[h.len];exact hi);refine⟨b1.trans a1,b2.trans a2,b3.trans a3,b4.trans a4,λhn=>?_⟩;rw[b5 (by rw[a1];exact hn),a5 hn]
theorem vE.outs{s s':b6}(k:vE s s'){h:Int}(hh:h<=9223372036854775807):outs s' h=outs s h:=by
 obtain⟨n,e⟩:=k.ob h hh;unfold Sh.outs;rw[e]
theorem vE.jv{s s':b6}(hR:SR s)(k:vE s s')(h:Int):jv s' h=jv s h:=by
 unfold Sh.jv;rw[k.lv];congr 1;refine zo λx hx=>?_;rw[k.outs (by have:=H5 hR hx;omega)]
theorem QA{s:b6}(hR:SR s){h:Int}(hh:h∈lv s){n:Int}(hn:0<=n):vE s (cT s h (AP (ob s h) (n))):=by
 have ho:Ap s (AP (ob s h) (n)):=by
  have:=J7 hR hh;exact⟨this.s1,this.s2,hn,this.wk,this.p1,this.p2,this.fl⟩
 have q:=o0 hR hh;refine⟨bN hR hh rfl ho,J1 ..,rfl,rfl,iA hR hh rfl ho,λk i=>Ds (o:=(AP (ob s h) (n))) hR hh rfl ho,λk hk=>?_,λi hi=>?_⟩
 .rw[ga (o:=(AP (ob s h) (n))) hR hh rfl ho hk];split;·rename_i e;subst e;exact⟨n,rfl⟩
  .exact⟨_,rfl⟩
 .rw[yP (o:=(AP (ob s h) (n))) hR hh rfl ho];split
  .rename_i e;subst e;rw[E9 hR q];exact⟨rfl,rfl,rfl,rfl,λhn=>absurd q.2.1 hn⟩
  .exact⟨rfl,rfl,rfl,rfl,λ_=>rfl⟩
def SB(s:b6):Prop:=∀c∈s.S.b7,c.Val.Strong<=9223372036854775807
theorem Wd{s:b6}:FB s↔∀i,i<s.S.b7.length->∀x∈(ce s i).Val.Fields,x<=9223372036854775807:=by
 constructor
 .intro h i hi x hx;rw[O1 hi] at hx;exact h _ (zh hi) x hx
 .intro h c hc x hx;obtain⟨i,hi,rfl⟩:=wt hc;exact h i hi x (by rw[O1 hi];exact hx)
theorem Xb{s:b6}:SB s↔∀i,i<s.S.b7.length->(ce s i).Val.Strong<=9223372036854775807:=by
 constructor
 .intro h i hi;rw[O1 hi];exact h _ (zh hi)
 .intro h c hc;obtain⟨i,hi,rfl⟩:=wt hc;have:=h i hi;rwa [O1 hi] at this
noncomputable def inr(s:b6)(t:Tb)(h:Int):Nat:=jv s h+own t h
noncomputable def KS(s:b6)(t:Tb)(h:Int):Int:=if h∈lv s then (ob s h).Strong-(inr s t h:Int) else 0
noncomputable def GK(s:b6)(t:Tb):List Int:=(lv s).filter λh=>decide (0<KS s t h\/12<=(ob s h).Strong)
def Sc(s:b6)(t:Tb)(l:List Int):Prop:=∀h∈lv s,(ob s h).Strong<12->KS s t h=(J3 l h:Int)
noncomputable instance(s:b6)(t:Tb)(l:List Int):Decidable (Sc s t l):=Classical.propDecidable _
section
variable{s:b6}(hR:vF (sO s)){t:Tb}(hT:HR t)
include hR hT
theorem MK(h:Int):kL s t h=some (inr s t h:Int):=by
 unfold kL;have h1:=MJ hR h;have h2:=NH hT.l8 h;rw[Wn hR,YI,NI hT,YI,O9 (by omega) (by omega)];unfold inr;simp
theorem Ua(h:Int):inr s t h<=104:=by
 have h1:=MJ hR h;have h2:=NH hT.l8 h;unfold inr;omega
omit hT in
theorem BP (hB:SB s) {h:Int} (hh:h∈lv s):0<=(ob s h).Strong/\(ob s h).Strong<=9223372036854775807:=by
 obtain⟨i,hi⟩:=(gO (A0.1 hR)).1 hh;rw[E9 (A0.1 hR) hi];refine⟨((A0.1 hR).ok i hi.1 (.inl hi.2.1)).st,?_⟩;rw[O1 hi.1];exact hB _ (zh _)
theorem Rw(hB:SB s){h:Int}(hh:h<=9223372036854775807):nD s t h=some (KS s t h):=by
 unfold nD;obtain⟨e,h1,h2⟩:=ic hR hh;rw[h1,YI];by_cases q:h∈lv s
 .have:=h2.2 q;subst this;have h3:=Ua hR hT h;have h4:=BP hR hB q;rw[za (by simp),MK hR hT,YI,O9 (by dsimp only;omega) (by dsimp only;omega)];unfold KS;rw[zb q]
 .rw[zb (by simpa using λq2=>q (h2.1 q2))];unfold KS;rw[za q]
omit hT in
theorem Wt {k:Nat} (hk:k<(lv s).length):(lv s)[k]<=9223372036854775807:=by
 have:=mU hR (zh hk);omega
theorem Qr(hB:SB s):nB s t=some (GK s t):=by
 unfold nB;simp only[jn];have h24:=M0 hR;rw[gw hR,YI,U4 (lv s) (λb x=>if decide (0<KS s t x\/12<=(ob s x).Strong) then b ++ [x] else b) id (λk b=>b.length<=k) (by omega) (by simp) (λk hk b hI=>?_) (λb _=>by simp),YI]
 .rw[foldl_filter];rfl
 .have hm:=zh hk;have hle:=Wt hR hk;simp only[wp,hk,t6,wn,s7 hk,YI];rw[uW hR hm,YI];unfold nC oz I0;rw[Rw hR hT hB hle,YI,YI];by_cases q:0<KS s t (lv s)[k]
  .rw[zC (show KS s t (lv s)[k] > 0 from q)];simp only[show ((true==false):Bool)=false from rfl,IV,YI,Bool.true_or,wn];rw[K3 (by omega) (by simp;omega),YI,n9,zb (zC (.inl q))];exact⟨rfl,by simp;omega⟩
  .rw[zY (show ¬KS s t (lv s)[k] > 0 from q)];simp only[mt,jG,YI,zcb];by_cases q2:12<=(ob s (lv s)[k]).Strong
   .rw[zb (zC q2),K3 (by omega) (by simp;omega),YI,n9,zb (zC (.inr q2))];exact⟨rfl,by simp;omega⟩
   .rw[za (by simpa using q2),n9,za (by simp only[decide_eq_true_eq];exact λc=>c.elim q q2)];exact⟨rfl,by omega⟩
omit hT in
theorem Qt:(GK s t).length<=24:=zP (zy ..) (M0 hR)
omit hR hT in
theorem pQ {h:Int}:h∈GK s t↔h∈lv s/\(0<KS s t h\/12<=(ob s h).Strong):=by
 unfold GK;rw[zk,decide_eq_true_eq]
omit hT in
theorem TV:LB (GK s t):=λx hx=>by have:=mU hR (pQ.1 hx).1;omega
theorem GH(hTB:TB t)(hF:FB s)(hB:SB s):df s t=some (VE s t (GK s t)):=by
 unfold df;have:=Qt hR (t:=t);rw[Qr hR hT hB,YI,Mq hR hT hTB hF (TV hR) (by omega)];rfl
end
abbrev TQ:=j5
def VK(q:TQ)(t:e6):TQ × Int:=if q.Cap<=q.L.length then (q,4) else (⟨q.L ++ [t],q.Cap⟩,0)
def RN(q:TQ):TQ × e6 × Int:=match q.L with
 | []=>(q,⟨0,0,0⟩,10)
 | t::l=>(⟨l,q.Cap⟩,t,0)
theorem SK{q:TQ}(t:e6)(h:q.L.length<=1000):pz q t=some (VK q t):=by
 unfold VK;unfold pz V2 L3 G8;simp only[YI];by_cases c:q.Cap<=q.L.length
 .rw[zb (by simpa using c),zb c,YI]
 .rw[za (by simpa using c),za c];have e:cut q.L 0 (q.L.length:Int)=some q.L:=by
   have:=uJ (xs:=q.L) (i:=0) (j:=q.L.length) (zV _) (zG _);simpa using this
  rw[e,YI,YI,K3 (by omega) (by simp;omega),YI,YI]
theorem yW{q:TQ}:aT q=some (RN q):=by
 unfold RN;unfold aT cM bf L3 G8;simp only[YI];cases hl:q.L with
 | nil=>
  have e:cut ([]:List e6) 0 0=some []:=rfl;simp[e]
 | cons t l=>
  have hm:(if (if (((t::l).length:Nat):Int)<1 then (((t::l).length:Nat):Int) else 1) > 0 then (if (((t::l).length:Nat):Int)<1 then (((t::l).length:Nat):Int) else 1) else 0)=1:=by
   rw[za (show ¬(((t::l).length:Nat):Int)<1 by simp;omega)];simp
  rw[hm];have e1:cut (t::l) 0 1=some [t]:=by
   have:=uJ (xs:=t::l) (i:=0) (j:=1) (zV _) (by simp);simpa using this
  have e2:cut (t::l) 1 (((t::l).length:Nat):Int)=some l:=by
   have:=uJ (xs:=t::l) (i:=1) (j:=(t::l).length) (by simp) (zG _);simpa using this
  rw[e1,e2];simp[ix]
theorem Ki{α β:Type}(p:α->Bool)(f:α->β)(l:List α)(k:Nat)(h:k<l.length):((l.take (k+1)).filter p).map f=((l.take k).filter p).map f++(if p l[k] then [f l[k]] else []):=by
 rw[zu h,zao,pm];congr 1;simp only[ms,List.filter_nil];split <;> rfl
theorem Oy{q:TQ}(h:q.L.length<=1000):gh q=some ((q.L.filter (·.Kind==1)).map (·.At)):=by
 unfold gh qd;simp only[jn,YI];refine bY q.L.length (λk l=>l=((q.L.take k).filter (·.Kind==1)).map (·.At)) (by omega) (by simp) ?_ (λl hl=>⟨_,by simp;rfl,by rw[hl,zQ]⟩);rintro k l hk rfl;left;rw[Ki _ _ _ _ hk];simp only[wp,hk,t6,wn,s7 hk,YI];have hle:(List.map (·.At) (List.filter (·.Kind==1) (List.take k q.L))).length<=1000:=by
  rw[zm];exact zP (zy ..) (by simp;omega)
 by_cases c:(q.L[k].Kind==1)=true
 .rw[c,zb (by decide),K3 (by omega) (by simp only[zI,zah];omega),YI,n9];exact⟨_,rfl,rfl⟩
 .have c:(q.L[k].Kind==1)=false:=by simpa using c
  rw[c,za (by decide),n9];exact⟨_,rfl,by simp⟩
theorem xj{q:TQ}{w:Int}(h:q.L.length<=1000):aA q w=some (q.L.any λt=>t.Kind==2&&t.At==w):=by
 unfold aA qd;simp only[jn,YI];refine fR q.L.length (λk=>(q.L.take k).any (λt=>t.Kind==2&&t.At==w)=false) (by omega) (by simp) ?_ (λhl=>⟨.inr (),by simp,by rw[zQ] at hl;rw[hl]⟩);intro k hk hP;simp only[wp,hk,t6,wn,s7 hk,YI];rw[zu hk,List.any_append,hP,zcb];by_cases c:(q.L[k].Kind==2)=true
 .rw[c,zb (by decide)];by_cases d:(q.L[k].At==w)=true
  .right;rw[d,zb rfl];refine⟨.inl true,rfl,?_⟩;simp only[zW];symm
   rw[List.any_eq_true];exact⟨_,zh hk,by rw[c,d];rfl⟩
  .have d:(q.L[k].At==w)=false:=by simpa using d
   left;rw[d,za (by decide),n9];exact⟨rfl,by simp[d]⟩
 .have c:(q.L[k].Kind==2)=false:=by simpa using c
  left;rw[c,za (by decide),n9];exact⟨rfl,by simp[c]⟩
def YE(t:e6):EY:=⟨t.Kind,t.At,t.Prog⟩
def YF(q:TQ):pS:=⟨q.L.map YE,q.Cap⟩
abbrev Hp:=b9
abbrev wS(x:Hp)(s:b6):Hp:=⟨s,x.Roots,x.b7,x.T,x.Q⟩
abbrev wR(x:Hp)(l:List Int):Hp:=⟨x.S,l,x.b7,x.T,x.Q⟩
abbrev wC(x:Hp)(l:List k7):Hp:=⟨x.S,x.Roots,l,x.T,x.Q⟩
abbrev wT(x:Hp)(t:Tb):Hp:=⟨x.S,x.Roots,x.b7,t,x.Q⟩
abbrev wQ(x:Hp)(q:TQ):Hp:=⟨x.S,x.Roots,x.b7,x.T,q⟩
def jb(l:List k7)(h:Int):Nat:=l.countP λc=>(h != 0)&&(c.Target==h)
def nW(q:TQ):List Int:=(q.L.filter (·.Kind==1)).map (·.At)
def wg(q:TQ)(w:Int):Bool:=q.L.any λt=>t.Kind==2&&t.At==w
def nZ(x:Hp):List Int:=nz x.Roots++nW x.Q
noncomputable def lH(x:Hp)(h:Int):Nat:=jv x.S h+own x.T h+J3 (nZ x) h
def H6(s:b6)(i:Nat)(c:c8):b6:=⟨⟨s.S.b7.set i c,s.S.Last⟩,s.Serial⟩
theorem V3(s:b6)(i:Nat)(c:c8):(H6 s i c).S.b7.length=s.S.b7.length:=by simp[H6]
theorem K4{s:b6}{i:Nat}(hi:i<s.S.b7.length)(c:c8)(j:Nat):ce (H6 s i c) j=if j=i then c else ce s j:=xW hi _ _ j
theorem SR.H6{s:b6}(hR:SR s){i:Nat}(hi:i<s.S.b7.length){c:c8}(h1:0<=c.State/\c.State<=3/\0<=c.Gen/\c.Gen<=s.S.Last)(h2:¬Th c->JG (oo c.Val))(h3:Th c->Ap s c.Val/\Th (ce s i)/\c.Val.Serial=(ce s i).Val.Serial):SR (H6 s i c):=by
 have key:∀j,Th (ce (Sh.H6 s i c) j)->Th (ce s j)/\(ce (Sh.H6 s i c) j).Val.Serial=(ce s j).Val.Serial:=λj hj=>by
  rw[K4 hi] at hj |-;split at hj
  .rename_i e;subst e;rw[zb rfl];exact (h3 hj).2
  .rename_i e;rw[za e];exact⟨hj,rfl⟩
 refine⟨by rw[V3];exact hR.len,hR.l0,hR.l9,hR.bg,λj hj=>?_,λj hj hn=>?_,λj hj hn=>?_,λj k hj hk a b e=>?_⟩
 .rw[V3] at hj;rw[K4 hi];split;·exact h1
  .exact hR.cell j hj
 .rw[V3] at hj;rw[K4 hi] at hn |-;split at hn
  .rename_i e;rw[zb e];exact h2 hn
  .rename_i e;rw[za e];exact hR.no j hj hn
 .rw[V3] at hj;rw[K4 hi] at hn |-;split at hn
  .rename_i e;rw[zb e];have:=(h3 hn).1;exact⟨this.s1,this.s2,this.st,this.wk,this.p1,this.p2,this.fl⟩
  .rename_i e;rw[za e];have:=hR.ok j hj hn;exact⟨this.s1,this.s2,this.st,this.wk,this.p1,this.p2,this.fl⟩
 .rw[V3] at hj hk;obtain⟨a1,a2⟩:=key j a;obtain⟨b1,b2⟩:=key k b;rw[a2,b2] at e;exact hR.dif j k hj hk a1 b1 e
theorem DQ{s:b6}{i:Nat}(hi:i<s.S.b7.length)(c:c8){h:Int}{j:Nat}(hj:j≠i):T5 (H6 s i c) h j↔T5 s h j:=by
 unfold T5;rw[V3,K4 hi,za hj]
theorem wX{s:b6}{i:Nat}(hi:i<s.S.b7.length)(c:c8){h:Int}{j:Nat}(hj:j≠i):At (H6 s i c) h j↔At s h j:=by
 unfold At;rw[V3,K4 hi,za hj]
theorem IG{s:b6}(hR:SR s){i:Nat}(hi:i<s.S.b7.length){c:c8}(hc:c.State≠1)(hR':SR (H6 s i c)):lv (H6 s i c)=(lv s).filter λh=>decide (D3 h≠i):=by
 have hno:∀h,¬At (H6 s i c) h i:=λh q=>by
  have:=q.2.1;rw[K4 hi,zb rfl] at this;exact hc this
 refine MU hR hR' _ (λh=>?_) (λh j k q q'=>?_)
 .rw[zH];constructor
  .rintro⟨j,hj⟩;have hne:j≠i:=λe=>hno h (e▸hj);have:=(wX hi c hne).1 hj;exact⟨⟨j,this⟩,by rw[this.d.D3 hR];exact hne⟩
  .rintro⟨⟨j,hj⟩,hp⟩;rw[hj.d.D3 hR] at hp;exact⟨j,(wX hi c hp).2 hj⟩
 .have hne:j≠i:=λe=>hno h (e▸q);have q2:=(wX hi c hne).1 q;have:=T5.one hR q2.d q'.d;subst this;rw[K4 hi,za hne]
theorem IT{s:b6}(hR:SR s){i:Nat}(hi:i<s.S.b7.length){c:c8}(hR':SR (H6 s i c)){k:Int}(hk:k∈lv s)(hp:D3 k≠i):ob (H6 s i c) k=ob s k:=by
 have q:=o0 hR hk;rw[E9 hR' ((wX hi c hp).2 q),E9 hR q,K4 hi,za hp]
structure Kn (s s':b6):Prop where
 sr:SR s'
 len:s'.S.b7.length=s.S.b7.length
 lv:lv s'=lv s
 ad:∀k i,T5 s' k i↔T5 s k i
 ob:∀k,k∈Sh.lv s->∃n m,ob s' k=⟨(ob s k).Serial,n,m,(ob s k).Prog,(ob s k).Started,(ob s k).Fields⟩
theorem vE.kn{s s':b6}(hR:SR s)(k:vE s s'):Kn s s':=⟨k.sr,k.len,k.lv,k.ad,λh hh=>by
 obtain⟨n,e⟩:=k.ob h (by have:=H5 hR hh;omega);exact⟨n,_,e⟩⟩
theorem Kn.jv{s s':b6}(k:Kn s s')(h:Int):jv s' h=jv s h:=by
 unfold Sh.jv;rw[k.lv];congr 1;refine zo λx hx=>?_;obtain⟨n,m,e⟩:=k.ob x hx;unfold Sh.outs;rw[e]
structure kc (x:Hp):Prop where
 sr:SR x.S
 hr:HR x.T
 r6:x.Roots.length=6
 c6:x.b7.length=6
 cap:x.Q.Cap=30
 q30:x.Q.L.length<=30
 tk:∀t∈x.Q.L,0<=t.Prog/\t.Prog<=5/\((t.Kind=1/\t.At∈lv x.S/\(ob x.S t.At).Started=true)\/(t.Kind=2/\0<=t.At/\t.At<=5))
 td:x.Q.L.Pairwise λa b=>¬(a.Kind=b.Kind/\a.At=b.At)
 rt:∀h∈x.Roots,h=0\/h∈lv x.S
 fl:∀h∈lv x.S,∀v∈(ob x.S h).Fields,v=0\/v∈lv x.S
 pr:∀k v,Has x.T k v->k∈lv x.S/\v∈lv x.S
 cl:∀i (hi:i<x.b7.length),-1<=x.b7[i].Call/\x.b7[i].Call<=5/\(x.b7[i].Target=0->x.b7[i].Intact=false)/\(x.b7[i].Target≠0->∃p,T5 x.S x.b7[i].Target p)/\(x.b7[i].Intact=true->x.b7[i].Target∈lv x.S/\wg x.Q i=false)
def Wk(x:Hp):Prop:=∀i,i<x.S.S.b7.length->Th (ce x.S i)->(ce x.S i).Val.Weak=(jb x.b7 (1+(i:Int)+32*(ce x.S i).Gen):Int)/\((ce x.S i).State=2->1<=(ce x.S i).Val.Weak/\(ce x.S i).Val.Fields = []/\(ce x.S i).Val.Strong=0)
def aB(x:Hp)(L:List Int):Prop:=∀h∈lv x.S,(ob x.S h).Strong<12->(ob x.S h).Strong=((lH x h+J3 L h:Nat):Int)
structure J8 (x:Hp):Prop where
 sh:kc x
 wk:Wk x
 fair:aB x []
theorem kc.of{x:Hp}(h:kc x){s':b6}(hS:SR s')(hl:lv s'=lv x.S)(hd:∀k i,T5 x.S k i->T5 s' k i)(hst:∀k∈lv x.S,(ob x.S k).Started=true->(ob s' k).Started=true)(hfl:∀k∈lv x.S,∀v∈(ob s' k).Fields,v=0\/v∈lv x.S):kc (wS x s'):=by
 refine⟨hS,h.hr,h.r6,h.c6,h.cap,h.q30,λt ht=>?_,h.td,λk hk=>?_,λk hk=>?_,λk v hkv=>?_,λi hi=>?_⟩
 .obtain⟨a,b,c⟩:=h.tk t ht;refine⟨a,b,?_⟩;rcases c with ⟨c1,c2,c3⟩ | c;·exact .inl ⟨c1,by rw[hl];exact c2,hst _ c2 c3⟩
  .exact .inr c
 .dsimp only;rw[hl];exact h.rt k hk
 .dsimp only at hk |-;rw[hl] at hk |-;exact hfl k hk
 .dsimp only;rw[hl];exact h.pr k v hkv
 .obtain⟨a,b,c,d,e⟩:=h.cl i hi;refine⟨a,b,c,λq=>?_,λq=>?_⟩
  .obtain⟨p,hp⟩:=d q;exact⟨p,hd _ _ hp⟩
  .dsimp only;rw[hl];exact e q
theorem kc.kn{x:Hp}(h:kc x){s':b6}(k:Kn x.S s'):kc (wS x s'):=by
 refine h.of k.sr k.lv (λj i q=>(k.ad j i).2 q) (λj hj q=>?_) (λj hj=>?_)
 .obtain⟨n,m,e⟩:=k.ob j hj;rw[e];exact q
 .obtain⟨n,m,e⟩:=k.ob j hj;rw[e];exact h.fl j hj
theorem kc.wu{x:Hp}(h:kc x){s':b6}(k:vE x.S s'):kc (wS x s'):=h.kn (k.kn h.sr)
theorem Wk.wu{x:Hp}(h:Wk x){s':b6}(k:vE x.S s'):Wk (wS x s'):=by
 intro i hi ht;dsimp only at hi ht |-;rw[k.len] at hi;obtain⟨a,b,c,d,e⟩:=k.ce i hi;unfold Th at ht;rw[a] at ht;obtain⟨f,g⟩:=h i hi ht;rw[a,b,c];refine⟨f,λq=>?_⟩;have e':=e (by omega);rw[<-c,e'];exact g q
theorem kc.roots{x:Hp}(h:kc x){l:List Int}(hl:l.length=6)(hr:∀v∈l,v=0\/v∈lv x.S):kc (wR x l):=⟨h.sr,h.hr,hl,h.c6,h.cap,h.q30,h.tk,h.td,hr,h.fl,h.pr,h.cl⟩
theorem kc.table{x:Hp}(h:kc x){t:Tb}(hr:HR t)(hp:∀k v,Has t k v->k∈lv x.S/\v∈lv x.S):kc (wT x t):=⟨h.sr,hr,h.r6,h.c6,h.cap,h.q30,h.tk,h.td,h.rt,h.fl,hp,h.cl⟩
def Y5(c:Int):Int:=if 12<=c then 12 else if c<0 then 1 else c+1
def kR(c:Int):Int:=if 12<=c then 12 else if c<1 then c else c-1
theorem E4{c:Int}(h:0<=c):0<=Y5 c:=by unfold Y5;split <;> (try split) <;> omega
theorem P3{c:Int}(h:0<=c):0<=kR c:=by unfold kR;split <;> (try split) <;> omega
noncomputable def ue(x:Hp)(h:Int)(f:Int->Int):Hp:=if h∈lv x.S then wS x (cT x.S h (AP (ob x.S h) (f (ob x.S h).Strong))) else x
noncomputable def E5(x:Hp)(h:Int):Hp:=ue x h Y5
noncomputable def ax(x:Hp)(h:Int):Hp:=ue x h kR
theorem yT(x:Hp)(h:Int)(f:Int->Int):ue x h f=wS x (ue x h f).S:=by
 unfold ue;split <;> rfl
theorem pg(x:Hp)(h:Int):E5 x h=wS x (E5 x h).S:=yT x h Y5
theorem Vd(x:Hp)(h:Int):ax x h=wS x (ax x h).S:=yT x h kR
section
variable{x:Hp}(hR:SR x.S)(h:Int){f:Int->Int}(hf:∀c,0<=c->0<=f c)
include hR hf
theorem H7:vE x.S (ue x h f).S:=by
 unfold ue;split
 .rename_i q;exact QA hR q (hf _ (J7 hR q).st)
 .exact vE.refl hR
theorem vz{k:Int}(hk:k∈lv x.S):(ob (ue x h f).S k).Strong=if k=h then f (ob x.S k).Strong else (ob x.S k).Strong:=by
 unfold ue;split
 .rename_i q;dsimp only;have ho:Ap x.S (AP (ob x.S h) (f (ob x.S h).Strong)):=by
   have:=J7 hR q;exact⟨this.s1,this.s2,hf _ this.st,this.wk,this.p1,this.p2,this.fl⟩
  rw[ga (o:=AP (ob x.S h) (f (ob x.S h).Strong)) hR q rfl ho (by have:=H5 hR hk;omega)];split;·rename_i e;subst e;rfl
  .rfl
 .rename_i q;rw[za];intro e;subst e;exact q hk
theorem xi(k:Int):lH (ue x h f) k=lH x k:=by
 rw[yT];unfold lH nZ;dsimp only;rw[(H7 hR h hf).jv hR]
end
theorem kc.st{x:Hp}(h:kc x)(k:Int){f:Int->Int}(hf:∀c,0<=c->0<=f c):kc (ue x k f):=by
 rw[yT];exact h.wu (H7 h.sr k hf)
theorem Wk.st{x:Hp}(h:Wk x)(hR:SR x.S)(k:Int){f:Int->Int}(hf:∀c,0<=c->0<=f c):Wk (ue x k f):=by
 rw[yT];exact h.wu (H7 hR k hf)
theorem G6(h:Int):J3 [] h=0:=by unfold J3;split <;> rfl
theorem G3(v:Int)(L:List Int)(h:Int):J3 (v::L) h=J3 L h+if v=h/\h≠0 then 1 else 0:=by
 unfold J3;by_cases h0:h=0
 .simp[h0]
 .rw[za h0,za h0,zcj];by_cases e:v=h
  .simp[e,h0]
  .simp[e]
theorem Ff{x:Hp}(hR:SR x.S){L:List Int}(hf:aB x L)(v:Int):aB (E5 x v) (v::L):=by
 intro h hh hlt;unfold E5 at hh hlt |-;rw[(H7 hR v λc=>E4).lv] at hh;rw[vz hR v (λc=>E4) hh] at hlt |-;rw[xi hR v λc=>E4,G3];have h0:h≠0:=λe=>eP hR (e▸hh);have hp:=(J7 hR hh).st;by_cases e:h=v
 .subst e;rw[zb rfl] at hlt |-;have:=hf h hh (by unfold Y5 at hlt;split at hlt <;> omega);rw[zb ⟨rfl,h0⟩];unfold Y5 at hlt |-;split at hlt;·omega
  .rename_i q;rw[za q,za (by omega)];omega
 .rw[za e] at hlt |-;rw[za (λq=>e q.1.symm)];exact hf h hh hlt
theorem tV{x:Hp}(hR:SR x.S){L:List Int}{v:Int}(hf:aB x (v::L)):aB (ax x v) L:=by
 intro h hh hlt;unfold ax at hh hlt |-;rw[(H7 hR v λc=>P3).lv] at hh;rw[vz hR v (λc=>P3) hh] at hlt |-;rw[xi hR v λc=>P3];have h0:h≠0:=λe=>eP hR (e▸hh);have hp:=(J7 hR hh).st;by_cases e:h=v
 .subst e;rw[zb rfl] at hlt |-;have:=hf h hh (by unfold kR at hlt;split at hlt <;> omega);rw[G3,zb ⟨rfl,h0⟩] at this;unfold kR at hlt |-;split at hlt;·omega
  .rename_i q;rw[za q,za (by omega)];omega
 .rw[za e] at hlt |-;have:=hf h hh hlt;rw[G3,za (λq=>e q.1.symm)] at this;exact this
theorem aB.mv{x x':Hp}{L L':List Int}(hf:aB x L)(hl:lv x'.S=lv x.S)(hs:∀h∈lv x.S,(ob x'.S h).Strong=(ob x.S h).Strong)(hn:∀h∈lv x.S,lH x' h+J3 L' h=lH x h+J3 L h):aB x' L':=by
 intro h hh hlt;rw[hl] at hh;rw[hs h hh] at hlt |-;rw[hf h hh hlt,hn h hh]
theorem xl:∀ {l:List Int} {r:Nat} (hr:r<l.length) (h k:Int),J3 (l.set r h) k+J3 [l.getD r 0] k=J3 l k+J3 [h] k
 | [],_,hr,_,_=>by simp at hr
 | a::l,0,_,h,k=>by
  rw[List.set_cons_zero,List.getD_cons_zero,G3 h l,G3 a l,G3 a [],G3 h [],G6];omega
 | a::l,r+1,hr,h,k=>by
  rw[List.set_cons_succ,List.getD_cons_succ,G3 a,G3 a l];have:=xl (l:=l) (r:=r) (by simpa using hr) h k;omega
theorem rO{x x1:Hp}(hx:J8 x){old new:Int}(h1:kc (E5 x new)->Wk (E5 x new)->kc x1/\Wk x1)
  (hl:lv x1.S=lv (E5 x new).S)(hs:∀h∈lv x.S,(ob x1.S h).Strong=(ob (E5 x new).S h).Strong)(hn:∀h∈lv x.S,lH x1 h+J3 [old] h=lH x h+J3 [new] h):J8 (ax x1 old):=by
 have l1:lv (E5 x new).S=lv x.S:=(H7 hx.sh.sr new λc=>E4).lv;have f1:aB (E5 x new) [new]:=Ff hx.sh.sr hx.fair new;obtain⟨h2,w2⟩:=h1 (hx.sh.st new λc=>E4) (hx.wk.st hx.sh.sr new λc=>E4);have f2:aB x1 [old]:=f1.mv hl (λh hh=>hs h (l1▸hh)) λh hh=>by
  rw[hn h (l1▸hh)];unfold E5;rw[xi hx.sh.sr new λc=>E4]
 exact⟨h2.st _ λc=>P3,w2.st h2.sr _ λc=>P3,tV h2.sr f2⟩
noncomputable def G0(x:Hp)(r:Nat)(h:Int):Hp:=ax (wR (E5 x h) (x.Roots.set r h)) (x.Roots.getD r 0)
theorem bM{x:Hp}(hx:J8 x){r:Nat}(hr:r<6){h:Int}(hh:h=0\/h∈lv x.S):J8 (G0 x r h):=by
 have l1:lv (E5 x h).S=lv x.S:=(H7 hx.sh.sr h λc=>E4).lv;refine rO hx (λa b=>⟨a.roots (by rw[zaq];exact hx.sh.r6) (λv hv=>?_),b⟩) rfl (λ_ _=>rfl) (λk hk=>?_)
 .rw[l1];rcases zav hv with q | q
  .exact hx.sh.rt v q
  .exact q▸hh
 .have hi:=(H7 hx.sh.sr h λc=>E4).jv hx.sh.sr k;rw[pg];unfold lH nZ;dsimp only;rw[show jv (E5 x h).S k=jv x.S k from hi,F7,F7,pA,pA];have:=xl (l:=x.Roots) (r:=r) (by rw[hx.sh.r6];exact hr) h k;omega
theorem Jw{α:Type}:∀ {l:List α} (hn:l.Nodup) {a:α} (ha:a∈l) (f g:α->Nat) (h:∀x∈l,x≠a->f x=g x),(l.map g).sum+f a=(l.map f).sum+g a
 | [],_,_,ha,_,_,_=>by cases ha
 | b::l,hn,a,ha,f,g,h=>by
  rw[pi] at hn;rw[zF,zF,ww,ww];rcases zN.1 ha with e | e
  .subst e;have:l.map g=l.map f:=zo λx hx=>(h x (zl _ hx) λe=>hn.1 (e▸hx)).symm;rw[this];omega
  .have:=Jw hn.2 e f g λx hx=>h x (zl _ hx);have:=h b (zf ..) λq=>hn.1 (q▸e);omega
abbrev rm(o:n7)(l:List Int):n7:=⟨o.Serial,o.Strong,o.Weak,o.Prog,o.Started,l⟩
theorem Iw{s:b6}(hR:SR s){h:Int}(hh:h∈lv s){o:n7}(hs:o.Serial=(ob s h).Serial)(ho:Ap s o)(y:Int):jv (cT s h o) y+J3 (ob s h).Fields y=jv s y+J3 o.Fields y:=by
 have hle:=H5 hR hh;have:=Jw (oV (A0.2 hR)) hh (λx=>J3 (outs s x) y) (λx=>J3 (outs (cT s h o) x) y) λx hx hne=>by
  have:=H5 hR hx;unfold outs;rw[ga hR hh hs ho (by omega),za hne]
 have e:J3 (outs (cT s h o) h) y=J3 o.Fields y:=by
  unfold outs;rw[ga hR hh hs ho (by omega),zb rfl,pA]
 have e2:J3 (outs s h) y=J3 (ob s h).Fields y:=pA _ _;rw[e,e2] at this;unfold jv;rw[iA hR hh hs ho];exact this
noncomputable def bD(x:Hp)(h:Int)(k:Nat)(v:Int):Hp:=ax (wS (E5 x v) (cT (E5 x v).S h (rm (ob (E5 x v).S h) ((ob x.S h).Fields.set k v)))) ((ob x.S h).Fields.getD k 0)
theorem Cp{x:Hp}(hx:J8 x){h:Int}(hh:h∈lv x.S){k:Nat}(hk:k<(ob x.S h).Fields.length){v:Int}(hv:v=0\/v∈lv x.S):J8 (bD x h k v):=by
 have wu:=H7 hx.sh.sr v (f:=Y5) λc=>E4;have l1:lv (E5 x v).S=lv x.S:=wu.lv;have hR1:SR (E5 x v).S:=wu.sr;have hh1:h∈lv (E5 x v).S:=by rw[l1];exact hh
 have hle:=H5 hx.sh.sr hh;have hof:(ob (E5 x v).S h).Fields=(ob x.S h).Fields:=by
  obtain⟨n,e⟩:=wu.ob h (by omega);show (ob (ue x v Y5).S h).Fields=_;rw[e]
 have ho:Ap (E5 x v).S (rm (ob (E5 x v).S h) ((ob x.S h).Fields.set k v)):=by
  have:=J7 hR1 hh1;refine⟨this.s1,this.s2,this.st,this.wk,this.p1,this.p2,?_⟩;have h4:=this.fl;rw[hof] at h4;simpa using h4
 have hob:∀j,j∈lv x.S->ob (cT (E5 x v).S h (rm (ob (E5 x v).S h) ((ob x.S h).Fields.set k v))) j=if j=h then rm (ob (E5 x v).S h) ((ob x.S h).Fields.set k v) else ob (E5 x v).S j:=λj hj=>by
  have:=H5 hx.sh.sr hj;exact ga (o:=rm (ob (E5 x v).S h) ((ob x.S h).Fields.set k v)) hR1 hh1 rfl ho (by omega)
 refine rO hx (λa b=>⟨?_,?_⟩) (iA (o:=rm (ob (E5 x v).S h) ((ob x.S h).Fields.set k v)) hR1 hh1 rfl ho) (λj hj=>?_) (λj hj=>?_)
 .refine a.of (bN (o:=rm (ob (E5 x v).S h) ((ob x.S h).Fields.set k v)) hR1 hh1 rfl ho) (iA (o:=rm (ob (E5 x v).S h) ((ob x.S h).Fields.set k v)) hR1 hh1 rfl ho) (λj i q=>(Ds (o:=rm (ob (E5 x v).S h) ((ob x.S h).Fields.set k v)) hR1 hh1 rfl ho).2 q) (λj hj q=>?_) (λj hj u hu=>?_)
  .rw[hob j (l1▸hj)];split;·rename_i e;subst e;exact q
   .exact q
  .rw[hob j (l1▸hj)] at hu;split at hu
   .rename_i e;subst e;rcases zav hu with q | q
    .exact a.fl j hj u (by rw[hof];exact q)
    .rw[l1,q];exact hv
   .exact a.fl j hj u hu
 .intro i hi ht;dsimp only at hi ht |-;have hp:=o0 hR1 hh1;unfold cT at hi;rw[J1] at hi;have hce:=yP (o:=rm (ob (E5 x v).S h) ((ob x.S h).Fields.set k v)) hR1 hh1 rfl ho i;rw[hce] at ht |-;split at ht
  .rename_i e;subst e;rw[zb rfl];have:=b _ hp.1 (.inl hp.2.1);dsimp only;refine⟨?_,λq=>absurd q (by rw[hp.2.1];decide)⟩;rw[<-this.1,E9 hR1 hp]
  .rename_i e;rw[za e];exact b i hi ht
 .rw[hob j hj];split;·rename_i e;subst e;rfl
  .rfl
 .have hi:=Iw (o:=rm (ob (E5 x v).S h) ((ob x.S h).Fields.set k v)) hR1 hh1 rfl ho j;have hi2:=wu.jv hx.sh.sr j;have hi2:jv (E5 x v).S j=jv x.S j:=hi2;rw[hi2,hof] at hi;dsimp only at hi;have:=xl hk v j;have hrest:E5 x v=wS x (E5 x v).S:=pg x v;unfold lH nZ;dsimp only;rw[show (E5 x v).T=x.T by rw[hrest],show (E5 x v).Roots=x.Roots by rw[hrest],show (E5 x v).Q=x.Q by rw[hrest]];omega
theorem NM{t:Tb}(hT:HR t){k v:Int}{r:Tb × Int × Int}(h:U1 t k v=some r)(h0:r.2.2=0):HR r.1/\(∀y,own r.1 y+J3 [r.2.1] y=own t y+J3 [v] y)/\∀k' v',Has r.1 k' v'->Has t k' v'\/(k'=k/\v'=v/\v≠0):=by
 obtain⟨r',e1,e2,_,e3⟩:=dJ hT k v;rw[h] at e1;cases e1;refine⟨e2,?_⟩;have hos:∀(i:Nat) (p:g5) (y:Int),i<t.length->own (t.set i p) y+(if (pt t i).State=1/\(pt t i).Val=y/\y≠0 then 1 else 0)=own t y+if p.State=1/\p.Val=y/\y≠0 then 1 else 0:=λi p y hi=>by
  have key:∀q:g5,(if ((q.State==1)&&((y != 0)&&(q.Val==y)))=true then 1 else 0:Nat)=if q.State=1/\q.Val=y/\y≠0 then 1 else 0:=λq=>by
   by_cases c:q.State=1/\q.Val=y/\y≠0
   .rw[zb c,zb (by simp[c.1,c.2.1,c.2.2])]
   .rw[za c,za (by simp only[zA,me,bne_iff_ne,ne_eq];exact λq=>c ⟨q.1,q.2.2,q.2.1⟩)]
  have:=Ja hi p y;rw[key,key] at this;exact this
 rcases e3 with ⟨_,rfl⟩ | ⟨hk,hv,⟨i,hi,rfl⟩ | ⟨hn,rfl⟩⟩ | ⟨hk,hv,⟨i,hi,rfl⟩ | ⟨d,hn,hd,hf,hp,rfl⟩ | ⟨hn,ha,rfl⟩⟩;·simp at h0
 .refine⟨λy=>?_,λk' v' q=>.inl ((sz hT hi k' v').1 q).2⟩;have:=hos i ⟨2,0,0⟩ y hi.1;rw[G3,G3,G6];subst hv;dsimp only at this |-;rw[za (show ¬((2:Int)=1/\(0:Int)=y/\y≠0) by omega)] at this;rw[za (show ¬((0:Int)=y/\y≠0) by omega)];simp only[hi.2.1,true_and] at this;omega
 .refine⟨λy=>?_,λk' v' q=>.inl q⟩;rw[hv]
 .refine⟨λy=>?_,λk' v' q=>?_⟩
  .have:=hos i ⟨1,k,v⟩ y hi.1;rw[G3,G3,G6];simp only[hi.2.1,true_and] at this;dsimp only;omega
  .rcases (xd hT (.old i hi) rfl k' v').1 q with ⟨a,b⟩ | ⟨_,b⟩;·exact .inr ⟨a,b,hv⟩
   .exact .inl b
 .refine⟨λy=>?_,λk' v' q=>?_⟩
  .have:=hos d ⟨1,k,v⟩ y hd;rw[G3,G3,G6];dsimp only;rw[za (show ¬((0:Int)=y/\y≠0) by omega)];simp only[hf,false_and,true_and,qr] at this;omega
  .rcases (xd hT hp rfl k' v').1 q with ⟨a,b⟩ | ⟨_,b⟩;·exact .inr ⟨a,b,hv⟩
   .exact .inl b
 .simp at h0
noncomputable def iE(x:Hp)(v:Int)(t:Tb)(old:Int):Hp:=ax (wT (E5 x v) t) old
theorem EO{x:Hp}(hx:J8 x){k v:Int}(hk:k∈lv x.S)(hv:v=0\/v∈lv x.S){r:Tb × Int × Int}(h:U1 x.T k v=some r)(h0:r.2.2=0):J8 (iE x v r.1 r.2.1):=by
 have wu:=H7 hx.sh.sr v (f:=Y5) λc=>E4;have l1:lv (E5 x v).S=lv x.S:=wu.lv;obtain⟨p1,p2,p3⟩:=NM hx.sh.hr h h0;refine rO hx (λa b=>⟨a.table p1 λk' v' q=>?_,b⟩) rfl (λ_ _=>rfl) (λj hj=>?_)
 .rw[l1];rcases p3 k' v' q with q | ⟨rfl,rfl,hne⟩
  .exact hx.sh.pr k' v' q
  .exact⟨hk,hv.resolve_left hne⟩
 .have hi2:jv (E5 x v).S j=jv x.S j:=wu.jv hx.sh.sr j;have hrest:E5 x v=wS x (E5 x v).S:=pg x v;unfold lH nZ;dsimp only;rw[show (E5 x v).Roots=x.Roots by rw[hrest],show (E5 x v).Q=x.Q by rw[hrest],hi2];have:=p2 j;omega
instance(s:b6)(h:Int)(i:Nat):Decidable (T5 s h i):=by unfold T5;infer_instance
abbrev XC(o:n7)(n:Int):n7:=⟨o.Serial,o.Strong,n,o.Prog,o.Started,o.Fields⟩
def lC(s:b6)(i:Nat)(d:Int):b6:=fJ s i (XC (ce s i).Val ((ce s i).Val.Weak+d))
def DJ(s:b6)(i:Nat):b6:=H6 s i (if (ce s i).Gen=s.S.Last then ⟨3,(ce s i).Gen,z0⟩ else ⟨0,(ce s i).Gen+1,z0⟩)
def bV(s:b6)(i:Nat):Int:=1+(i:Int)+32*(ce s i).Gen
theorem wU{s:b6}{i:Nat}(hi:i<s.S.b7.length)(ht:Th (ce s i)):T5 s (bV s i) i:=⟨hi,ht,rfl⟩
theorem sY{s:b6}(hR:SR s){i:Nat}(hi:i<s.S.b7.length):1<=bV s i:=by
 have:=hR.cell i hi;unfold bV;omega
section
variable{s:b6}(hR:SR s){i:Nat}(hi:i<s.S.b7.length)(ht:Th (ce s i))
include hR hi ht
theorem va{d:Int}(hd:0<=(ce s i).Val.Weak+d):SR (lC s i d):=by
 have:=hR.ok i hi ht;exact hR.put hi ht rfl ⟨this.s1,this.s2,this.st,hd,this.p1,this.p2,this.fl⟩
theorem eU(d:Int)(j:Nat):ce (lC s i d) j=if j=i then ⟨(ce s i).State,(ce s i).Gen,XC (ce s i).Val ((ce s i).Val.Weak+d)⟩ else ce s j:=mC hi _ j
theorem mW{d:Int}(hd:0<=(ce s i).Val.Weak+d):Kn s (lC s i d):=by
 have hS:=va hR hi ht hd;refine⟨hS,J1 ..,MT hR hi rfl hS,λk j=>wV hi _,λk hk=>?_⟩;have q:=o0 hR hk;rw[E9 hS ((xz hi _).2 q),E9 hR q,eU hR hi ht];split
 .rename_i e;rw[e];exact⟨_,_,rfl⟩
 .exact⟨_,_,rfl⟩
theorem mX{d:Int}(hd:0<=(ce s i).Val.Weak+d){k:Int}(hk:k∈lv s):(ob (lC s i d) k).Strong=(ob s k).Strong:=by
 have hS:=va hR hi ht hd;have q:=o0 hR hk;rw[E9 hS ((xz hi _).2 q),E9 hR q,eU hR hi ht];split
 .rename_i e;rw[e]
 .rfl
omit ht in
theorem Cy:SR (DJ s i):=by
 have hc:=hR.cell i hi;have no:JG (oo z0):=⟨rfl,rfl,rfl,rfl,rfl,rfl⟩;unfold DJ;split;·exact hR.H6 hi ⟨by simp,by simp,hc.2.2.1,hc.2.2.2⟩ (λ_=>no) (λq=>absurd q (by unfold Th;simp))
 .refine hR.H6 hi ⟨by simp,by simp,?_,?_⟩ (λ_=>no) (λq=>absurd q (by unfold Th;simp));·show 0<=(ce s i).Gen+1;omega
  .show (ce s i).Gen+1<=s.S.Last;omega
omit hR ht in
theorem Cu:∃c,(c.State=0\/c.State=3)/\DJ s i=H6 s i c/\∀j,ce (DJ s i) j=if j=i then c else ce s j:=by
 unfold DJ;split;·exact⟨_,.inr rfl,rfl,λj=>K4 hi _ j⟩
 .exact⟨_,.inl rfl,rfl,λj=>K4 hi _ j⟩
omit ht in
theorem Cv (h2:(ce s i).State=2):lv (DJ s i)=lv s:=by
 obtain⟨c,c1,c2,_⟩:=Cu (s:=s) hi;have hS:=Cy hR hi;rw[c2] at hS |-;rw[IG hR hi (by omega) hS,za7];intro h hh;rw[zH];intro e;have:=(o0 hR hh).2.1;rw[e] at this;omega
omit ht in
theorem Cx (h2:(ce s i).State=2) {k:Int} (hk:k∈lv s):ob (DJ s i) k=ob s k:=by
 obtain⟨c,c1,c2,_⟩:=Cu (s:=s) hi;have hS:=Cy hR hi;rw[c2] at hS |-;refine IT hR hi hS hk λe=>?_;have:=(o0 hR hk).2.1;rw[e] at this;omega
omit ht in
theorem TO {k:Int} {j:Nat}:T5 (DJ s i) k j↔T5 s k j/\j≠i:=by
 obtain⟨c,c1,c2,c3⟩:=Cu (s:=s) hi;by_cases e:j=i
 .subst e;constructor
  .rintro⟨_,h,_⟩;rw[c3,zb rfl] at h;unfold Th at h;omega
  .rintro⟨_,h⟩;exact absurd rfl h
 .rw[c2,DQ hi c e];simp[e]
theorem Qq(h2:(ce s i).State=2)(y:Int):jv (DJ s i) y=jv s y:=by
 unfold jv;rw[Cv hR hi h2];congr 1;refine zo λx hx=>?_;unfold outs;rw[Cx hR hi h2 hx]
end
def il(x:Hp)(h:Int)(d:Int):Hp:=if T5 x.S h (D3 h) then wS x (lC x.S (D3 h) d) else x
def pB(x:Hp)(h:Int):Hp:=
 if T5 x.S h (D3 h) then
  (if (ce x.S (D3 h)).State=2/\(ce x.S (D3 h)).Val.Weak=1 then wS x (DJ (lC x.S (D3 h) (-1)) (D3 h)) else wS x (lC x.S (D3 h) (-1)))
 else x
abbrev fD(h call:Int):k7:=⟨h,h != 0,call⟩
def lW(x:Hp)(w:Nat):Int:=(x.b7.getD w ⟨0,false,0⟩).Target
def cE(x:Hp)(w:Nat)(h call:Int):Hp:=pB (il (wC x (x.b7.set w (fD h call))) h 1) (lW x w)
theorem IN{l:List k7}{w:Nat}(hw:w<l.length)(c:k7){k:Int}(hk:k≠0):jb (l.set w c) k+(if l[w].Target=k then 1 else 0)=jb l k+if c.Target=k then 1 else 0:=by
 unfold jb;rw[List.countP_set hw];have e:∀d:k7,(((k != 0)&&(d.Target==k))=true)=(d.Target=k):=λd=>by simp[hk]
 simp only[e];have:(if l[w].Target=k then 1 else 0)<=l.countP λc=>(k != 0)&&(c.Target==k):=by
  split
  .rename_i q;exact zbx.2 ⟨l[w],zh hw,by simp[q,hk]⟩
  .exact zV _
 omega
theorem tL{l:List k7}{i:Nat}(hi:i<l.length)(h0:l[i].Target≠0):0<jb l l[i].Target:=zbx.2 ⟨l[i],zh hi,by simp[h0]⟩
theorem vY{x:Hp}(hx:J8 x){w:Nat}(hw:w<6){h call:Int}(hh:h=0\/h∈lv x.S)(hc : -1<=call/\call<=5)(hq:wg x.Q w=false):J8 (cE x w h call):=by
 have hR:=hx.sh.sr;have hwl:w<x.b7.length:=by rw[hx.sh.c6];exact hw
 have htg:lW x w=x.b7[w].Target:=by
  unfold lW;rw[zd,zc hwl];rfl
 have s1:kc (wC x (x.b7.set w (fD h call))):=by
  have:=hx.sh;refine⟨this.sr,this.hr,this.r6,by simpa using this.c6,this.cap,this.q30,this.tk,this.td,this.rt,this.fl,this.pr,λi hi=>?_⟩;dsimp only at hi |-;rw[zcr];rw[zaq] at hi;split
  .rename_i e;subst e;dsimp only;refine⟨hc.1,hc.2,λq=>by simp[q],λq=>?_,λq=>?_⟩;·exact⟨_,(o0 hR (hh.resolve_left q)).d⟩
   .have q:h≠0:=by simpa using q
    exact⟨hh.resolve_left q,hq⟩
  .exact this.cl i hi
 have k2:∃s2,il (wC x (x.b7.set w (fD h call))) h 1=wS (wC x (x.b7.set w (fD h call))) s2/\Kn x.S s2/\(∀k∈lv x.S,(ob s2 k).Strong=(ob x.S k).Strong) /\
   ∀i,i<x.S.S.b7.length->(ce s2 i).State=(ce x.S i).State/\(ce s2 i).Gen=(ce x.S i).Gen/\(ce s2 i).Val.Fields=(ce x.S i).Val.Fields/\(ce s2 i).Val.Strong=(ce x.S i).Val.Strong/\(Th (ce x.S i)->(ce s2 i).Val.Weak=(ce x.S i).Val.Weak+if h=bV x.S i then 1 else 0):=by
  unfold il;rcases hh with h0 | hh
  .have hno:¬T5 x.S h (D3 h):=λq=>by have:=q.KP hR;omega
   rw[za hno];refine⟨x.S,rfl,(vE.refl hR).kn hR,λ_ _=>rfl,λi hi=>⟨rfl,rfl,rfl,rfl,λht=>?_⟩⟩;have:=sY hR hi;rw[za (by omega)];omega
  .have hp:=o0 hR hh;have hwk:=(hR.ok _ hp.1 (.inl hp.2.1)).wk;rw[zb hp.d];refine⟨_,rfl,mW hR hp.1 (.inl hp.2.1) (by omega),λk hk=>mX hR hp.1 (.inl hp.2.1) (by omega) hk,λi hi=>?_⟩;rw[eU hR hp.1 (.inl hp.2.1)];split
   .rename_i e;subst e;refine⟨rfl,rfl,rfl,rfl,λ_=>?_⟩;rw[zb (show h=bV x.S (D3 h) from hp.2.2)]
   .rename_i e;refine⟨rfl,rfl,rfl,rfl,λht=>?_⟩;rw[za];·omega
    .intro q;exact e (T5.one hR (q▸wU hi ht) hp.d)
 obtain⟨s2,e2,kn2,st2,ce2⟩:=k2;have hR2:=kn2.sr;have len2:=kn2.len;have hS2:kc (wS (wC x (x.b7.set w (fD h call))) s2):=s1.kn kn2;have hdl2:∀i,i<x.S.S.b7.length->bV s2 i=bV x.S i:=λi hi=>by unfold bV;rw[(ce2 i hi).2.1]
 have th2:∀i,i<x.S.S.b7.length->(Th (ce s2 i)↔Th (ce x.S i)):=λi hi=>by unfold Th;rw[(ce2 i hi).1]
 have wk2:∀i,i<x.S.S.b7.length->Th (ce x.S i)->(ce s2 i).Val.Weak=(jb (x.b7.set w (fD h call)) (bV x.S i):Int)+if lW x w=bV x.S i then 1 else 0:=λi hi ht=>by
  have h0:bV x.S i≠0:=by have:=sY hR hi;omega
  have:=IN hwl (fD h call) h0;rw[(ce2 i hi).2.2.2.2 ht,(hx.wk i hi ht).1,htg];dsimp only at this;unfold bV at this |-;by_cases a:h=1+(i:Int)+32*(ce x.S i).Gen <;> by_cases b:x.b7[w].Target=1+(i:Int)+32*(ce x.S i).Gen
  .rw[zb a,zb b] at *;omega
  .rw[zb a,za b] at *;omega
  .rw[za a,zb b] at *;omega
  .rw[za a,za b] at *;omega
 have dd2:∀i,i<x.S.S.b7.length->(ce s2 i).State=2->(ce s2 i).Val.Fields = []/\(ce s2 i).Val.Strong=0:=λi hi q=>by
  obtain⟨a,_,b,c,_⟩:=ce2 i hi;rw[a] at q;rw[b,c];exact ((hx.wk i hi (.inr q)).2 q).2
 have nms2:∀k,lH (wS (wC x (x.b7.set w (fD h call))) s2) k=lH x k:=λk=>by
  unfold lH nZ;dsimp only;rw[kn2.jv]
 have fair2:aB (wS (wC x (x.b7.set w (fD h call))) s2) []:=hx.fair.mv kn2.lv st2 λk _=>by rw[nms2]
 unfold cE;rw[e2];unfold pB;dsimp only;by_cases hold:lW x w=0
 .have hno:¬T5 s2 (lW x w) (D3 (lW x w)):=λq=>by have:=q.KP hR2;omega
  rw[za hno];refine⟨hS2,λi hi ht=>?_,fair2⟩;dsimp only at hi ht |-;rw[len2] at hi;have ht':=(th2 i hi).1 ht;have h0:=sY hR hi;have hw2:=wk2 i hi ht';rw[za (by omega)] at hw2;rw[show (1+(i:Int)+32*(ce s2 i).Gen)=bV x.S i from hdl2 i hi];refine⟨by omega,λq=>⟨?_,dd2 i hi q⟩⟩;have q':(ce x.S i).State=2:=by rw[<-(ce2 i hi).1];exact q
  have:=((hx.wk i hi ht').2 q').1;rw[(ce2 i hi).2.2.2.2 ht'];split <;> omega
 .obtain⟨p,hp⟩:∃p,T5 x.S (lW x w) p:=by
   rw[htg] at hold |-;exact (hx.sh.cl w hwl).2.2.2.1 hold
  have hpp:=hp.D3 hR;have hp2:T5 s2 (lW x w) p:=(kn2.ad _ _).2 hp;have hth:lW x w=bV x.S p:=hp.2.2;rw[hpp,zb hp2];have hpl2:=hp2.1;have hw2:=wk2 p hp.1 hp.2.1;rw[zb hth] at hw2;have hd:0<=(ce s2 p).Val.Weak+(-1):=by omega
  have kn3:=mW hR2 hpl2 hp2.2.1 hd;have hR3:=kn3.sr;have ce3:=eU hR2 hpl2 hp2.2.1 (-1);have hS3:kc (wS (wC x (x.b7.set w (fD h call))) (lC s2 p (-1))):=hS2.kn kn3;have fair3:aB (wS (wC x (x.b7.set w (fD h call))) (lC s2 p (-1))) []:=fair2.mv kn3.lv (λk hk=>mX hR2 hpl2 hp2.2.1 hd hk) λk _=>by
   unfold lH nZ;dsimp only;rw[kn3.jv]
  have wk3:∀i,i<x.S.S.b7.length->Th (ce x.S i)->(ce (lC s2 p (-1)) i).Val.Weak=(jb (x.b7.set w (fD h call)) (bV x.S i):Int):=λi hi ht=>by
   rw[ce3];by_cases e:i=p
   .subst e;rw[zb rfl];dsimp only;omega
   .rw[za e,wk2 i hi ht,za];·omega
    .intro q;exact e (T5.one hR (q▸wU hi ht) hp)
  have cs3:∀i,(ce (lC s2 p (-1)) i).State=(ce s2 i).State/\(ce (lC s2 p (-1)) i).Gen=(ce s2 i).Gen/\(ce (lC s2 p (-1)) i).Val.Fields=(ce s2 i).Val.Fields/\(ce (lC s2 p (-1)) i).Val.Strong=(ce s2 i).Val.Strong:=λi=>by
   rw[ce3];split
   .rename_i e;subst e;exact⟨rfl,rfl,rfl,rfl⟩
   .exact⟨rfl,rfl,rfl,rfl⟩
  by_cases hg:(ce s2 p).State=2/\(ce s2 p).Val.Weak=1
  .-- the slot is given back
   rw[zb hg];have hpl3:p<(lC s2 p (-1)).S.b7.length:=by rw[kn3.len];exact hpl2
   have h23:(ce (lC s2 p (-1)) p).State=2:=by rw[(cs3 p).1];exact hg.1
   have hn0:jb (x.b7.set w (fD h call)) (lW x w)=0:=by rw[hth];omega
   have hlv:=Cv hR3 hpl3 h23;have hob:=λk hk=>Cx (k:=k) hR3 hpl3 h23 hk;obtain⟨c,c1,c2,c3⟩:=Cu (s:=lC s2 p (-1)) hpl3;refine⟨⟨Cy hR3 hpl3,hS3.hr,hS3.r6,hS3.c6,hS3.cap,hS3.q30,λt htt=>?_,hS3.td,λv hv=>?_,λv hv u hu=>?_,λk v hkv=>?_,λi hi=>?_⟩,λi hi ht=>?_,?_⟩
   .obtain⟨a,b,d⟩:=hS3.tk t htt;refine⟨a,b,?_⟩;dsimp only at d |-;rw[hlv];rcases d with ⟨d1,d2,d3⟩ | d;·exact .inl ⟨d1,d2,by rw[hob _ d2];exact d3⟩
    .exact .inr d
   .dsimp only;rw[hlv];exact hS3.rt v hv
   .dsimp only at hv hu |-;rw[hlv] at hv |-;rw[hob _ hv] at hu;exact hS3.fl v hv u hu
   .dsimp only;rw[hlv];exact hS3.pr k v hkv
   .obtain⟨a1,a2,a3,a4,a5⟩:=hS3.cl i hi;refine⟨a1,a2,a3,λq=>?_,λq=>?_⟩
    .obtain⟨j,hj⟩:=a4 q;refine⟨j,(TO hR3 hpl3).2 ⟨hj,λe=>?_⟩⟩;subst e;have e1:=(kn2.ad _ _).1 ((kn3.ad _ _).1 hj);have e2:(x.b7.set w (fD h call))[i].Target=lW x w:=e1.2.2.trans hp.2.2.symm;have:=tL hi q;dsimp only at this;rw[e2] at this;omega
    .dsimp only;rw[hlv];exact a5 q
   .dsimp only at hi ht |-;rw[show (DJ (lC s2 p (-1)) p).S.b7.length=x.S.S.b7.length by rw[c2,V3,kn3.len,len2]] at hi;rw[c3] at ht |-;split at ht;·unfold Th at ht;omega
    .rename_i e;rw[za e];have ht':Th (ce x.S i):=(th2 i hi).1 (by unfold Th at ht |-;rw[(cs3 i).1] at ht;exact ht);have:=wk3 i hi ht';rw[show (1+(i:Int)+32*(ce (lC s2 p (-1)) i).Gen)=bV x.S i by rw[(cs3 i).2.1];exact hdl2 i hi];refine⟨this,λq=>?_⟩;rw[(cs3 i).1] at q;rw[(cs3 i).2.2.1,(cs3 i).2.2.2,ce3,za e];refine⟨?_,dd2 i hi q⟩;have q':(ce x.S i).State=2:=by rw[<-(ce2 i hi).1];exact q
     have:=((hx.wk i hi ht').2 q').1;rw[(ce2 i hi).2.2.2.2 ht'];split <;> omega
   .refine fair3.mv hlv (λk hk=>by rw[hob k hk]) λk _=>?_;unfold lH nZ;dsimp only;rw[Qq hR3 hpl3 (.inr h23) h23]
  .rw[za hg];refine⟨hS3,λi hi ht=>?_,fair3⟩;dsimp only at hi ht |-;rw[kn3.len,len2] at hi;have ht':Th (ce x.S i):=(th2 i hi).1 (by unfold Th at ht |-;rw[(cs3 i).1] at ht;exact ht);have:=wk3 i hi ht';rw[show (1+(i:Int)+32*(ce (lC s2 p (-1)) i).Gen)=bV x.S i by rw[(cs3 i).2.1];exact hdl2 i hi];refine⟨this,λq=>?_⟩;rw[(cs3 i).1] at q;rw[(cs3 i).2.2.1,(cs3 i).2.2.2];refine⟨?_,dd2 i hi q⟩;rw[ce3];split
   .rename_i e;subst e;dsimp only;have:(ce s2 i).Val.Weak≠1:=λq2=>hg ⟨q,q2⟩;omega
   .have q':(ce x.S i).State=2:=by rw[<-(ce2 i hi).1];exact q
    have:=((hx.wk i hi ht').2 q').1;rw[(ce2 i hi).2.2.2.2 ht'];split <;> omega
def YH(c:k7):gV:=⟨c.Target,c.Intact,c.Call⟩
def hO(x:Hp):lP:=⟨sO x.S,x.Roots,x.b7.map YH,x.T.map eN,YF x.Q⟩
structure HB (x:Hp):Prop where
 sb:SB x.S
 fb:FB x.S
 rb:LB x.Roots
 cb:∀c∈x.b7,c.Target<=9223372036854775807
 tb:TB x.T
 qb:∀t∈x.Q.L,t.At<=9223372036854775807
theorem VX{R:Type}{f:Int->Option (Int ⊕ (Bool ⊕ Unit))}{κ:Bool ⊕ Unit->Option R}{Q:R->Prop}(n:Nat)(p:Nat->Prop)(hn:n<4611686018427387904)
  (hs:∀k:Nat,k<n->∃z,f (k:Int)=some z/\((p k/\z = .inl ((k+1:Nat):Int))\/(¬p k/\z = .inr (.inl false))))(he:f (n:Int)=some (.inr (.inr ())))
  (h1:(∀k,k<n->p k)->∃r,κ (.inr ())=some r/\Q r)(h0:(¬∀k,k<n->p k)->∃r,κ (.inl false)=some r/\Q r):∃r,(lp f 0).bind κ=some r/\Q r:=by
 obtain⟨e,e1,e2⟩:=Bv (f:=f) n (λk=>∀j,j<k->p j) (λe=>(e = .inr ()/\∀k,k<n->p k)\/(e = .inl false/\¬∀k,k<n->p k)) hn (λj hj=>by omega) (λk hk hP=>by
  obtain⟨z,z1,z2⟩:=hs k hk;rcases z2 with ⟨a,rfl⟩ | ⟨a,rfl⟩
  .refine .inl ⟨z1,λj hj=>?_⟩;rcases zE j k with q | q
   .exact hP j q
   .have:j=k:=by omega
    subst this;exact a
  .exact .inr ⟨_,z1,.inr ⟨rfl,λq=>a (q k hk)⟩⟩) (λhP=>⟨_,he,.inl ⟨rfl,hP⟩⟩)
 rw[e1];rcases e2 with ⟨rfl,h⟩ | ⟨rfl,h⟩;·exact h1 h
 .exact h0 h
section
variable{x:Hp}(hR:SR x.S)
include hR
theorem ML{h:Int}(hh:h<=9223372036854775807):kr x h=some (decide (h∈lv x.S)):=by
 unfold kr;obtain⟨e,h1,h2⟩:=ic (A0.2 hR) hh;rw[h1,YI];congr 1;rw[zbm,me,zH,h2]
theorem M8{h:Int}(hh:h<=9223372036854775807):N5 x h=some (decide (h=0\/h∈lv x.S)):=by
 unfold N5;by_cases q:h=0
 .subst q;simp[E1]
 .have e:(h==0)=false:=by simpa using q
  rw[e];simp only[mt,jG,zcb];rw[ML hR hh,YI];simp[q]
theorem TX{c:Int}(hc:c<=9223372036854775807):pK c=some (Y5 c):=by
 unfold pK jr I0 Y5;simp only[YI];by_cases q:12<=c
 .rw[zb (by simpa using q),zb q,YI]
 .rw[za (by simpa using q),za q,YI];by_cases q2:c<0
  .rw[zb (show 0 > c from q2),zb q2];rfl
  .rw[za (show ¬0 > c from q2),za q2,O9 (by omega) (by omega)]
omit hR in
theorem NU {s:b6} (hR:SR s) {h:Int} (hh:h∈lv s) {n:Int} (hn:0<=n):R5 s h (AP (ob s h) n)=some (cT s h (AP (ob s h) n),0):=by
 have:=J7 hR hh;exact xg (o:=AP (ob s h) n) hR hh rfl ⟨this.s1,this.s2,hn,this.wk,this.p1,this.p2,this.fl⟩
theorem lR{h:Int}(hh:h<=9223372036854775807)(hB:∀k∈lv x.S,(ob x.S k).Strong<=9223372036854775807):bE x h=some (E5 x h):=by
 unfold bE Y3 E5 ue;obtain⟨e,h1,h2⟩:=ic (A0.2 hR) hh;rw[h1,YI];by_cases q:h∈lv x.S
 .have e0:=h2.2 q;subst e0;rw[zb q,TX hR (hB h q)];simp only[mt,wn,YI];have:=NU hR q (E4 (J7 hR q).st);rw[this];rfl
 .have:(e==0)=false:=by simpa using λc=>q (h2.1 c)
  rw[this,za q];rfl
omit hR in
theorem Ty (c:Int) (h1 : -1000000<=c):eK c=some (kR c):=by
 unfold eK uI fP I0 kR;simp only[YI];by_cases q:12<=c
 .rw[zb (by simpa using q),zb q];rfl
 .rw[za (by simpa using q),za q];by_cases q2:c<1
  .rw[zb (by simpa using q2),zb q2];rfl
  .rw[za (by simpa using q2),za q2,O9 (by omega) (by omega)];rfl
theorem fZ{h:Int}(hh:h<=9223372036854775807):D9 x h=some (ax x h):=by
 unfold D9 P7 ax ue;obtain⟨e,h1,h2⟩:=ic (A0.2 hR) hh;rw[h1,YI];by_cases q:h∈lv x.S
 .have e0:=h2.2 q;subst e0;have ok:=J7 hR q;rw[zb q,Ty _ (by have:=ok.st;dsimp only;omega)];simp only[mt,wn,YI];have:=NU hR q (P3 ok.st);rw[this];rfl
 .have:(e==0)=false:=by simpa using λc=>q (h2.1 c)
  rw[this,za q];rfl
end
theorem Lc{x:Hp}(hR:SR x.S)(hB:SB x.S):∀k∈lv x.S,(ob x.S k).Strong<=9223372036854775807:=λk hk=>(BP (A0.2 hR) hB hk).2
theorem tY(x:Hp)(h:Int):(E5 x h).Roots=x.Roots/\(E5 x h).b7=x.b7/\(E5 x h).T=x.T/\(E5 x h).Q=x.Q:=by
 rw[pg];exact⟨rfl,rfl,rfl,rfl⟩
theorem jN{x:Hp}(hR:SR x.S)(h:Int):SR (E5 x h).S:=(H7 hR h λc=>E4).sr
section
variable{x:Hp}(hx:J8 x)(hS:∀k∈lv x.S,(ob x.S k).Strong<=9223372036854775807)
include hx hS
theorem tu{h:Int}(hh:h=0\/h∈lv x.S):h<=9223372036854775807:=by
 rcases hh with q | q
 .omega
 .have:=H5 hx.sh.sr q;omega
theorem Jn(k:Int){h:Int}(hh:h<=9223372036854775807):bX x k h=some (if k<0\/5<k then (x,6) else if h=0\/h∈lv x.S then (G0 x k.toNat h,0) else (x,3)):=by
 have hR:=hx.sh.sr;have r6:=hx.sh.r6;unfold bX;by_cases hk:k<0\/5<k
 .rw[zb hk,zb (by rw[r6];simp;omega)]
 .rw[za hk,za (by rw[r6];simp;omega),M8 hR hh,YI];by_cases hn:h=0\/h∈lv x.S
  .rw[zb hn,zC hn,za (by simp)];obtain⟨n,rfl⟩:∃n:Nat,k=n:=⟨k.toNat,by omega⟩;have hn6:n<6:=by omega
   have hnl:n<x.Roots.length:=by omega
   have old:x.Roots[n]<=9223372036854775807:=tu hx hS (hx.sh.rt _ (zh hnl));have e1:=tY x h;have hn2:n<(E5 x h).Roots.length:=by rw[e1.1];exact hnl
   rw[s7 hnl,YI];unfold G4 R7 y5;rw[lR hR hh hS,YI];dsimp only;rw[dj (by omega) (by rw[e1.1];omega),YI,s7 hn2,YI,YI];have hrel:=fZ (x:=wR (E5 x h) (x.Roots.set n h)) (jN hR h) old;rw[zR,e1.1,show D9 ⟨(E5 x h).S,x.Roots.set n h,(E5 x h).b7,(E5 x h).T,(E5 x h).Q⟩ x.Roots[n]=_ from hrel];unfold G0;rw[zd,zc hnl];rfl
  .rw[za hn,zY hn,zb (by simp)]
omit hx hS in
theorem XE {l:List Int} {n:Nat} (hn:n<l.length):iB l n=some (l[n],0)/\Da l n=some (l[n],0):=by
 constructor
 .unfold iB gE;rw[YI,za (by simp;omega),s7 hn,YI]
 .unfold Da;rw[za (by simp;omega),s7 hn,YI]
omit hx hS in
theorem HS {l:List Int} {k:Int} (hk:¬(0<=k/\k<l.length)):iB l k=some (0,5)/\Da l k=some (0,5):=by
 constructor
 .unfold iB gE;rw[YI,zb (by simp;omega)]
 .unfold Da;rw[zb (by simp;omega)]
theorem vI(h k:Int)(hh:h<=9223372036854775807):(∃e,e≠0/\J2 x.S h k=some (0,e)/\True) \/
  (h∈lv x.S/\∃n:Nat,k=n/\∃hn:n<(ob x.S h).Fields.length,J2 x.S h k=some ((ob x.S h).Fields[n],0)/\True):=by
 have hR:=hx.sh.sr;obtain⟨e,h1,h2⟩:=ic (A0.2 hR) hh;unfold J2;rw[h1,YI];by_cases q:h∈lv x.S
 .have:=h2.2 q;subst this;rw[za (by simp)];by_cases hk:0<=k/\k<(ob x.S h).Fields.length
  .right;obtain⟨n,rfl⟩:∃n:Nat,k=n:=⟨k.toNat,by omega⟩;have hn:n<(ob x.S h).Fields.length:=by omega
   refine⟨q,n,rfl,hn,?_,?_⟩
   .rw[(XE hn).1];rfl
   .trivial
  .left;refine⟨5,by decide,?_,?_⟩
   .rw[(HS hk).1];rfl
   .trivial
 .left;have he:(e != 0)=true:=by simpa using λc=>q (h2.1 c)
  refine⟨e,by simpa using he,?_,?_⟩;·simp only[he,wn]
  .trivial
theorem NR{s:b6}(hR:SR s){h:Int}(hh:h∈lv s){n:Nat}(hn:n<(ob s h).Fields.length)(v:Int) :
  qc s h n v=some (cT s h (rm (ob s h) ((ob s h).Fields.set n v)),0)/\True:=by
 have ok:=J7 hR hh;have hf:=ok.fl;have hle:=H5 hR hh;have ho:Ap s (rm (ob s h) ((ob s h).Fields.set n v)):=⟨ok.s1,ok.s2,ok.st,ok.wk,ok.p1,ok.p2,by simpa using hf⟩;have h1:=xg (o:=rm (ob s h) ((ob s h).Fields.set n v)) hR hh rfl ho;constructor
 .unfold qc;rw[uW (A0.2 hR) hh,YI,za (by simp)];unfold lZ gE;dsimp only;rw[YI,za (by simp;omega),kD (by omega) (by omega),YI];have e:wZ (List.replicate (ob s h).Fields.length (0:Int)) (ob s h).Fields=some (ob s h).Fields:=by
   unfold wZ;rw[zb (by simp)];simp
  rw[e,YI,s7 hn,YI,YI,za (by simp),zR];dsimp only;rw[show R5 s h ⟨(ob s h).Serial,(ob s h).Strong,(ob s h).Weak,(ob s h).Prog,(ob s h).Started,(ob s h).Fields.set n v⟩=_ from h1];rfl
 .trivial
theorem xJ(h k v:Int)(hh:h<=9223372036854775807)(hv:v<=9223372036854775807) :
  (∃e,e≠0/\al x h k v=some (x,e)/\True) \/
  (h∈lv x.S/\(v=0\/v∈lv x.S)/\∃n:Nat,k=n/\n<(ob x.S h).Fields.length/\al x h k v=some (bD x h n v,0)/\True):=by
 have hR:=hx.sh.sr;unfold al;rcases vI hx hS h k hh with ⟨e,he,f1,f2⟩ | ⟨hl,n,rfl,hn,f1,f2⟩
 .left;have he':(e != 0)=true:=by simpa using he
  refine⟨e,he,?_,?_⟩;·rw[f1,YI,zb he']
  .trivial
 .rw[f1,YI,za (by simp),M8 hR hv,YI];by_cases hn2:v=0\/v∈lv x.S
  .right;refine⟨hl,hn2,n,rfl,hn,?_⟩;rw[zC hn2,za (by simp)];have wu:=H7 hR v (f:=Y5) λc=>E4;have hR1:SR (E5 x v).S:=wu.sr;have hl1:h∈lv (E5 x v).S:=by rw[show lv (E5 x v).S=lv x.S from wu.lv];exact hl
   have hof:(ob (E5 x v).S h).Fields=(ob x.S h).Fields:=by
    obtain⟨m,e⟩:=wu.ob h hh;show (ob (ue x v Y5).S h).Fields=_;rw[e]
   have hn1:n<(ob (E5 x v).S h).Fields.length:=by rw[hof];exact hn
   have old:(ob x.S h).Fields[n]<=9223372036854775807:=tu hx hS (hx.sh.fl h hl _ (zh hn));have ok:=J7 hR1 hl1;have sr2:SR (cT (E5 x v).S h (rm (ob (E5 x v).S h) ((ob (E5 x v).S h).Fields.set n v))):=bN (o:=rm (ob (E5 x v).S h) ((ob (E5 x v).S h).Fields.set n v)) hR1 hl1 rfl ⟨ok.s1,ok.s2,ok.st,ok.wk,ok.p1,ok.p2,by simpa using ok.fl⟩;obtain⟨p1,p2⟩:=NR hx hS hR1 hl1 hn1 v;have hd:(ob x.S h).Fields.getD n 0=(ob x.S h).Fields[n]:=by
    rw[zd,zc hn];rfl
   constructor
   .unfold F9 cK;rw[lR hR hv hS,YI];dsimp only;rw[p1,YI,YI];have hrel:=fZ (x:=wS (E5 x v) (cT (E5 x v).S h (rm (ob (E5 x v).S h) ((ob (E5 x v).S h).Fields.set n v)))) sr2 old;rw[show D9 ⟨cT (E5 x v).S h (rm (ob (E5 x v).S h) ((ob (E5 x v).S h).Fields.set n v)),(E5 x v).Roots,(E5 x v).b7,(E5 x v).T,(E5 x v).Q⟩ (ob x.S h).Fields[n]=_ from hrel];unfold bD;rw[hd,hof];rfl
   .trivial
  .left;refine⟨3,by decide,?_,?_⟩;·rw[zY hn2,zb (by simp)]
   .trivial
theorem Rh(k v:Int)(hk:k<=9223372036854775807)(hv:v<=9223372036854775807) :
  (∃e,e≠0/\bW x k v=some (x,e)/\True) \/
  (k∈lv x.S/\(v=0\/v∈lv x.S)/\∃r,U1 x.T k v=some r/\r.2.2=0/\bW x k v=some (iE x v r.1 r.2.1,0)/\True):=by
 have hR:=hx.sh.sr;unfold bW;by_cases k0:k=0
 .left;subst k0;exact⟨2,by decide,by simp,trivial⟩
 .rw[za (by simpa using k0),M8 hR hk,YI,M8 hR hv];have hkk:(k=0\/k∈lv x.S)↔k∈lv x.S:=by simp[k0]
  by_cases hl:k∈lv x.S/\(v=0\/v∈lv x.S)
  .obtain⟨hl,hn⟩:=hl;rw[zC (hkk.2 hl),zC hn];simp only[zck,mt,jG,YI,Bool.or_self,zD,qr];obtain⟨r,r1,r2,r3,r5⟩:=dJ hx.sh.hr k v;rw[r1,YI];by_cases h0:r.2.2=0
   .right;refine⟨hl,hn,r,rfl,h0,?_⟩;have e1:(r.2.2 != 0)=false:=by simpa using h0
    have old:r.2.1<=9223372036854775807:=by
     rcases r5 with ⟨_,rfl⟩ | ⟨_,_,⟨i,hi,rfl⟩ | ⟨_,rfl⟩⟩ | ⟨_,_,⟨i,hi,rfl⟩ | ⟨d,_,_,_,_,rfl⟩ | ⟨_,_,rfl⟩⟩;·simp
     .exact tu hx hS (.inr (hx.sh.pr k _ ⟨i,hi,rfl⟩).2)
     .simp
     .exact tu hx hS (.inr (hx.sh.pr k _ ⟨i,hi,rfl⟩).2)
     .simp
     .simp
    constructor
    .rw[e1];simp only[zD,qr];unfold D6 ao;rw[lR hR hv hS,YI,YI];dsimp only;have hrel:=fZ (x:=wT (E5 x v) r.1) (jN hR v) old;rw[show D9 ⟨(E5 x v).S,(E5 x v).Roots,(E5 x v).b7,r.1,(E5 x v).Q⟩ r.2.1=_ from hrel];rfl
    .trivial
   .left;have e1:(r.2.2 != 0)=true:=by simpa using h0
    refine⟨r.2.2,h0,by rw[zb e1],trivial⟩
  .left;refine⟨3,by decide,?_,?_⟩
   .by_cases hl2:k∈lv x.S
    .have:¬(v=0\/v∈lv x.S):=λq=>hl ⟨hl2,q⟩;rw[zC (hkk.2 hl2),zY this];rfl
    .rw[zY λq=>hl2 (hkk.1 q)];rfl
   .trivial
end
theorem Ir{s:b6}(hR:SR s){h:Int}{i:Nat}(q:T5 s h i):Q1 s.S h=some ((DJ s i).S,0):=by
 have hi:=q.1;have hc:=hR.cell i hi;have l9:=hR.l9;unfold Q1 DJ;rw[wW hR q,YI,za (by simp),Iy hi,YI];by_cases g:(ce s i).Gen=s.S.Last
 .rw[zb (by simpa using g),zb g,md rfl hi hR.len];rfl
 .rw[za (by simpa using g),za g,md rfl hi hR.len,O9 (by omega) (by omega)];rfl
section
variable{x:Hp}(hR:SR x.S)
include hR
theorem Bx{h d:Int}(hh:h<=9223372036854775807)(hw:T5 x.S h (D3 h) -> -1000<=(ce x.S (D3 h)).Val.Weak+d/\(ce x.S (D3 h)).Val.Weak+d<=1000):aa x h d=some (il x h d):=by
 unfold aa il;by_cases q:T5 x.S h (D3 h)
 .have:=hw q;rw[zb q,wW hR q,YI];simp only[mt,wn];rw[Iy q.1,YI,O9 (by omega) (by omega),Oo hR q,YI];rfl
 .have hno:∀i,¬T5 x.S h i:=λi hi=>q (by rw[hi.D3 hR];exact hi);rw[za q,xy hR hh hno,YI];have:((if h=0 then 2 else 3:Int)==0)=false:=by simpa using sG h
  simp only[this,zD,qr]
theorem Fz{h:Int}(hh:h<=9223372036854775807)(hw:T5 x.S h (D3 h)->1<=(ce x.S (D3 h)).Val.Weak/\(ce x.S (D3 h)).Val.Weak<=1000):aN x h=some (pB x h):=by
 unfold aN;rw[Bx hR hh (λq=>by have:=hw q;omega),YI];unfold il pB;by_cases q:T5 x.S h (D3 h)
 .have hw:=hw q;rw[zb q,zb q];have VJ:=va hR q.1 q.2.1 (d:=-1) (by omega);have q1:T5 (lC x.S (D3 h) (-1)) h (D3 h):=(wV q.1 _).2 q;dsimp only;rw[wW VJ q1,YI,za (by simp),Iy q1.1,YI,eU hR q.1 q.2.1,zb rfl];dsimp only;by_cases c:(ce x.S (D3 h)).State=2/\(ce x.S (D3 h)).Val.Weak=1
  .rw[zb c,zb (by simp[c.1,c.2]),Ir VJ q1,YI];rfl
  .rw[za c,za (by simp only[zA,me];omega)]
 .have hno:∀i,¬T5 x.S h i:=λi hi=>q (by rw[hi.D3 hR];exact hi);rw[za q,za q,xy hR hh hno,YI];have:((if h=0 then 2 else 3:Int) != 0)=true:=by simpa using sG h
  simp only[this,wn]
end
theorem FJ{l:List k7}(hl:l.length<=1000){n:Nat}(hn:n<l.length)(h call:Int):jS l n h call=some (l.set n (fD h call),l[n].Target,0):=by
 unfold jS jT bR;simp only[YI];rw[za (by simp;omega),kD (by omega) (by omega),YI];have e:wZ (List.replicate l.length (⟨0,false,0⟩:k7)) l=some l:=by
  unfold wZ;rw[zb (by simp)];simp
 rw[e,YI,YI,s7 hn,YI,YI,zR]
theorem Nl(l:List k7)(h:Int):jb l h<=l.length:=zcl
theorem DE{x:Hp}(hx:J8 x)(k h call:Int)(hh:h<=9223372036854775807)(hc : -1<=call/\call<=5) :
  (∃e,e≠0/\R3 x k h call=some (x,e)/\True) \/
  ((h=0\/h∈lv x.S)/\∃n:Nat,k=n/\n<6/\wg x.Q n=false/\R3 x k h call=some (cE x n h call,0)/\True):=by
 have hR:=hx.sh.sr;have c6:=hx.sh.c6;have q30:=hx.sh.q30;unfold R3;by_cases hk:k<0\/5<k
 .left;have e1:((decide (k<0))||(decide (k>=(x.b7.length:Int))))=true:=by rw[c6];simp;omega
  refine⟨7,by decide,?_,?_⟩;·rw[e1];rfl
  .trivial
 .obtain⟨n,rfl⟩:∃n:Nat,k=n:=⟨k.toNat,by omega⟩;have hn6:n<6:=by omega
  have e1:((decide ((n:Int)<0))||(decide ((n:Int)>=(x.b7.length:Int))))=false:=by rw[c6];simp;omega
  rw[e1];simp only[mt,jG,zcb];have hwq:aA x.Q n=some (wg x.Q n):=xj (by omega);rw[hwq,YI,M8 hR hh,YI];by_cases hw:wg x.Q n=true
  .left;rw[zb hw];exact⟨7,by decide,rfl,trivial⟩
  .have hw:wg x.Q n=false:=by simpa using hw
   rw[hw,za (show ¬(false=true) by decide)];by_cases hl:h=0\/h∈lv x.S
   .right;refine⟨hl,n,rfl,hn6,hw,?_⟩;have hnl:n<x.b7.length:=by omega
    rw[zC hl,za (by simp),FJ (by omega) hnl,YI];have htg:lW x n=x.b7[n].Target:=by
     unfold lW;rw[zd,zc hnl];rfl
    have wkb:∀i,i<x.S.S.b7.length->Th (ce x.S i)->0<=(ce x.S i).Val.Weak/\(ce x.S i).Val.Weak<=6:=λi hi ht=>by
     have:=(hx.wk i hi ht).1;have:=Nl x.b7 (1+(i:Int)+32*(ce x.S i).Gen);omega
    have mk1:∃s2,il (wC x (x.b7.set n (fD h call))) h 1=wS (wC x (x.b7.set n (fD h call))) s2/\SR s2/\(∀k i,T5 s2 k i↔T5 x.S k i)/\(∀i,i<x.S.S.b7.length->Th (ce x.S i)->(ce x.S i).Val.Weak<=(ce s2 i).Val.Weak/\(ce s2 i).Val.Weak<=(ce x.S i).Val.Weak+1) /\
      (h≠0->True)/\(h=0->s2=x.S):=by
     unfold il;by_cases h0:h=0
     .have hno:¬T5 x.S h (D3 h):=λq=>by have:=q.KP hR;omega
      rw[za hno];exact⟨x.S,rfl,hR,λ_ _=>Iff.rfl,λi _ _=>by omega,λq=>absurd h0 q,λ_=>rfl⟩
     .have hll:=hl.resolve_left h0;have hp:=o0 hR hll;have hb:=wkb _ hp.1 (.inl hp.2.1);rw[zb hp.d];have kn:=mW hR hp.1 (.inl hp.2.1) (d:=1) (by omega);refine⟨_,rfl,kn.sr,kn.ad,λi hi ht=>?_,λ_=>trivial,λq=>absurd q h0⟩;rw[eU hR hp.1 (.inl hp.2.1)];split;·rename_i e;subst e;dsimp only;omega
      .omega
    obtain⟨s2,m1,m2,m3,m4,m5,m6⟩:=mk1;have hold:lW x n<=9223372036854775807:=by
     by_cases q:lW x n=0
     .omega
     .obtain⟨p,hp⟩:=(hx.sh.cl n hnl).2.2.2.1 (by rw[<-htg];exact q);have:=hp.KP hR;rw[htg];omega
    have hun:T5 s2 (lW x n) (D3 (lW x n))->1<=(ce s2 (D3 (lW x n))).Val.Weak/\(ce s2 (D3 (lW x n))).Val.Weak<=1000:=λq=>by
     have q':=(m3 _ _).1 q;have r:=q'.KP hR;have:=(hx.wk _ q'.1 q'.2.1).1;have hp:0<jb x.b7 x.b7[n].Target:=tL hnl (by rw[<-htg];omega);rw[<-htg,q'.2.2] at hp;have:=m4 _ q'.1 q'.2.1;have:=wkb _ q'.1 q'.2.1;omega
    have u1:=Fz (x:=wS (wC x (x.b7.set n (fD h call))) s2) m2 hold hun;have hwb:T5 x.S h (D3 h) -> -1000<=(ce x.S (D3 h)).Val.Weak+1/\(ce x.S (D3 h)).Val.Weak+1<=1000:=λq=>by
     have:=wkb _ q.1 q.2.1;omega
    have mm:=Bx (x:=wC x (x.b7.set n (fD h call))) (d:=1) hR hh hwb;constructor
    .dsimp only;rw[show aa ⟨x.S,x.Roots,x.b7.set n (fD h call),x.T,x.Q⟩ h 1=_ from mm,YI,m1,<-htg,u1,YI];unfold cE;rw[m1]
    .trivial
   .left;rw[zY hl];exact⟨3,by decide,by rw[zb (by rfl)],trivial⟩
theorem Yv{l:List Int}{n:Nat}(hn:n<l.length):iB l n=some (l[n],0):=by
 unfold iB gE;rw[YI,za (by simp;omega),s7 hn,YI]
section
variable{x:Hp}(hx:J8 x)(hS:∀k∈lv x.S,(ob x.S k).Strong<=9223372036854775807)
include hx hS
end
abbrev tz:e6:=⟨0,0,0⟩
theorem Ip{α:Type}{l:List α}{i:Nat}(h:i<l.length)(d:α):l.getD i d=l[i]:=by
 rw[zd,zc h];rfl
def Yn(a b:e6):Prop:=a.Kind=b.Kind/\a.At=b.At
instance(a b:e6):Decidable (Yn a b):=by unfold Yn;infer_instance
section
variable{x:Hp}(hR:SR x.S)
include hR
omit hR in
theorem Kz (l:List k7) (hl:l.length<=1000) (h:Int):dZ l h=some (jb l h:Int):=by
 unfold dZ T2 gF;simp only[jn,YI];have key:∃e,lp (S:=Int × (List Int)) (E:=(List Int)) (λ((s17,s18):Int × (List Int))=>
   if (decide (s17<(l.length:Int))) then
     (ix l s17).bind λv26=>
     if ((h != 0)&&(v26.Target==h)) then
      (app 8 s18 [s17]).bind λv28=>
      some (.inl (w7 (s17+1),v28))
     else
     some (.inl (w7 (s17+1),s18))
   else
   some (.inr s18)) (0,[])=some e/\e.length=jb l h:=by
  refine jx l.length (λk (acc:List Int)=>acc.length=jb (l.take k) h) (λ(e:List Int)=>e.length=jb l h) (by omega) rfl (λk acc hk hP=>?_) (λacc hP=>⟨acc,by simp,by rwa [zQ] at hP⟩);left;have hle:acc.length<=k:=by
   rw[hP];exact zP (Nl _ _) (by simp;omega)
  have hst:jb (l.take (k+1)) h=jb (l.take k) h+if ((h != 0)&&(l[k].Target==h))=true then 1 else 0:=by
   unfold jb;rw[zu hk,List.countP_append,List.countP_cons,List.countP_nil];omega
  simp only[wp,hk,t6,wn,s7 hk,YI];rw[n9];by_cases c:((h != 0)&&(l[k].Target==h))=true
  .rw[zb c,K3 (by omega) (by simp;omega),YI];exact⟨_,rfl,by rw[hst,zb c];simp[hP]⟩
  .rw[za c];exact⟨_,rfl,by rw[hst,za c];simpa using hP⟩
 obtain⟨e,e1,e2⟩:=key;rw[show lp _ _=_ from e1,YI,YI,e2]
omit hR in
theorem Mf:Sc x.S x.T (nZ x)↔aB x []:=by
 constructor
 .intro h k hk hlt;have:=h k hk hlt;unfold KS inr at this;rw[zb hk] at this;rw[G6];unfold lH;omega
 .intro h k hk hlt;have:=h k hk hlt;rw[G6] at this;unfold lH at this;unfold KS inr;rw[zb hk];omega
end
section
variable{x:Hp}(hx:J8 x)(hB:HB x)
include hx hB
end
def SL(x:Hp):Prop:=∀k∈lv x.S,(ob x.S k).Strong<=9223372036854775807
theorem SB.sl{x:Hp}(hR:SR x.S)(h:SB x.S):SL x:=λk hk=>Lc hR h k hk
theorem Wl{x:Hp}(hx:J8 x)(hS:SL x):HB x:=by
 have hR:=hx.sh.sr;have bd:∀v,v=0\/v∈lv x.S->v<=9223372036854775807:=λv q=>by
  rcases q with q | q
  .omega
  .have:=H5 hR q;omega
 refine⟨Xb.2 λi hi=>?_,Wd.2 λi hi v hv=>?_,λv hv=>bd v (hx.sh.rt v hv),λc hc=>?_,λp hp=>?_,λt ht=>?_⟩
 .by_cases t:Th (ce x.S i)
  .rcases t with t | t
   .have q:At x.S (1+(i:Int)+32*(ce x.S i).Gen) i:=⟨hi,t,rfl⟩;have:=hS _ ((gO hR).2 ⟨i,q⟩);rwa [E9 hR q] at this
   .have:=((hx.wk i hi (.inr t)).2 t).2.2;omega
  .have:=(hR.no i hi t).2.1;simp only[oo] at this;omega
 .by_cases t:Th (ce x.S i)
  .rcases t with t | t
   .have q:At x.S (1+(i:Int)+32*(ce x.S i).Gen) i:=⟨hi,t,rfl⟩;have hm:=(gO hR).2 ⟨i,q⟩;exact bd v (hx.sh.fl _ hm v (by rw[E9 hR q];exact hv))
   .rw[((hx.wk i hi (.inr t)).2 t).2.1] at hv;cases hv
  .have:=(hR.no i hi t).2.2.2.2.2;simp only[oo] at this;rw[zZ this] at hv;cases hv
 .obtain⟨i,hi,rfl⟩:=wt hc;by_cases e:x.b7[i].Target=0
  .omega
  .obtain⟨p,hp⟩:=(hx.sh.cl i hi).2.2.2.1 e;have:=hp.KP hR;omega
 .obtain⟨i,hi,rfl⟩:=wt hp;have e:pt x.T i=x.T[i]:=by
   unfold pt;rw[zd,zc hi];rfl
  by_cases s1:(pt x.T i).State=1
  .obtain⟨a,b⟩:=hx.sh.pr (pt x.T i).Key (pt x.T i).Val ⟨i,⟨hi,s1,rfl⟩,rfl⟩;rw[e] at a b;exact⟨bd _ (.inr a),bd _ (.inr b)⟩
  .obtain⟨a,b⟩:=(hx.sh.hr.st i hi).2 s1;rw[e] at a b;omega
 .obtain⟨_,_,q | q⟩:=hx.sh.tk t ht;·exact bd _ (.inr q.2.1)
  .omega
theorem Qw(c:Int):Y5 c<=12:=by unfold Y5;split <;> (try split) <;> omega
theorem Qg{c:Int}(h:c<=9223372036854775807):kR c<=9223372036854775807:=by unfold kR;split <;> (try split) <;> omega
theorem SL.of{x y:Hp}(h:SL x)(hl:lv y.S=lv x.S)(hs:∀k∈lv x.S,(ob y.S k).Strong=(ob x.S k).Strong):SL y:=λk hk=>by
 rw[hl] at hk;rw[hs k hk];exact h k hk
theorem SL.st{x:Hp}(h:SL x)(hR:SR x.S)(v:Int){f:Int->Int}(hf:∀c,0<=c->0<=f c)(hb:∀c,c<=9223372036854775807->f c<=9223372036854775807):SL (ue x v f):=λk hk=>by
 rw[(H7 hR v hf).lv] at hk;rw[vz hR v hf hk];split;·exact hb _ (h k hk)
 .exact h k hk
theorem SL.E5{x:Hp}(h:SL x)(hR:SR x.S)(v:Int):SL (E5 x v):=h.st hR v (λc=>E4) λc _=>by have:=Qw c;omega
theorem SL.OU{x:Hp}(h:SL x)(hR:SR x.S)(v:Int):SL (ax x v):=h.st hR v (λc=>P3) λc hc=>Qg hc
theorem Ob{x:Hp}(hR:SR x.S)(v:Int):SR (ax x v).S:=(H7 hR v λc=>P3).sr
theorem pe{x:Hp}(hR:SR x.S)(h:SL x)(r:Nat)(v:Int):SL (G0 x r v):=by
 unfold G0;exact SL.OU (x:=wR (E5 x v) (x.Roots.set r v)) (h.E5 hR v) (jN hR v) _
theorem Kg{x:Hp}(hR:SR x.S)(hS:SL x){h:Int}(hh:h∈lv x.S)(k:Nat)(v:Int):SL (bD x h k v):=by
 have wu:=H7 hR v (f:=Y5) λc=>E4;have hR1:SR (E5 x v).S:=wu.sr;have hl1:h∈lv (E5 x v).S:=by rw[show lv (E5 x v).S=lv x.S from wu.lv];exact hh
 have hof:(ob (E5 x v).S h).Fields=(ob x.S h).Fields:=by
  obtain⟨m,e⟩:=wu.ob h (by have:=H5 hR hh;omega);show (ob (ue x v Y5).S h).Fields=_;rw[e]
 have ok:=J7 hR1 hl1;have ho:Ap (E5 x v).S (rm (ob (E5 x v).S h) ((ob x.S h).Fields.set k v)):=⟨ok.s1,ok.s2,ok.st,ok.wk,ok.p1,ok.p2,by have:=ok.fl;rw[hof] at this;simpa using this⟩;have sr2:=bN (o:=rm (ob (E5 x v).S h) ((ob x.S h).Fields.set k v)) hR1 hl1 rfl ho;unfold bD;refine SL.OU (x:=wS (E5 x v) (cT (E5 x v).S h (rm (ob (E5 x v).S h) ((ob x.S h).Fields.set k v)))) ?_ sr2 _;refine (hS.E5 hR v).of (iA hR1 hl1 rfl ho) λj hj=>?_;dsimp only;rw[ga (o:=rm (ob (E5 x v).S h) ((ob x.S h).Fields.set k v)) hR1 hl1 rfl ho (by have:=H5 hR1 hj;omega)];split;·rename_i e;rw[e]
 .rfl
theorem NJ{x:Hp}(hR:SR x.S)(hS:SL x)(v:Int)(t:Tb)(old:Int):SL (iE x v t old):=by
 unfold iE;exact SL.OU (x:=wT (E5 x v) t) (hS.E5 hR v) (jN hR v) _
theorem Up{x:Hp}(hR:SR x.S)(hS:SL x)(h:Int){d:Int}(hd:T5 x.S h (D3 h)->0<=(ce x.S (D3 h)).Val.Weak+d):SL (il x h d):=by
 unfold il;split
 .rename_i q;exact hS.of (mW hR q.1 q.2.1 (hd q)).lv λk hk=>mX hR q.1 q.2.1 (hd q) hk
 .exact hS
theorem JB{x:Hp}(hR:SR x.S)(hS:SL x)(h:Int)(hd:T5 x.S h (D3 h)->1<=(ce x.S (D3 h)).Val.Weak):SL (pB x h):=by
 unfold pB;split
 .rename_i q;have hd:=hd q;have kn:=mW (d:=-1) hR q.1 q.2.1 (by omega);have s1:SL (wS x (lC x.S (D3 h) (-1))):=hS.of kn.lv λk hk=>mX hR q.1 q.2.1 (by omega) hk;split
  .rename_i c;have hi1:D3 h<(lC x.S (D3 h) (-1)).S.b7.length:=by rw[kn.len];exact q.1
   have hce:ce (lC x.S (D3 h) (-1)) (D3 h)=⟨(ce x.S (D3 h)).State,(ce x.S (D3 h)).Gen,XC (ce x.S (D3 h)).Val ((ce x.S (D3 h)).Val.Weak + -1)⟩:=by
    rw[eU hR q.1 q.2.1,zb rfl]
   have h2:(ce (lC x.S (D3 h) (-1)) (D3 h)).State=2:=by rw[hce];exact c.1
   exact s1.of (Cv kn.sr hi1 h2) λk hk=>by
    dsimp only;rw[Cx kn.sr hi1 h2 hk]
  .exact s1
 .exact hS
theorem FH{x:Hp}(hx:J8 x)(hS:SL x){n:Nat}(hn:n<6)(h call:Int):SL (cE x n h call):=by
 have hR:=hx.sh.sr;have hnl:n<x.b7.length:=by have:=hx.sh.c6;omega
 have ok:∀k i,T5 x.S k i->0<=(ce x.S i).Val.Weak:=λk i q=>(hR.ok i q.1 q.2.1).wk;have tw:∀i,T5 x.S (lW x n) i->1<=(ce x.S i).Val.Weak:=λi q=>by
  have htg:lW x n=x.b7[n].Target:=by
   unfold lW;rw[zd,zc hnl];rfl
  have r:=q.KP hR;have p:=tL hnl (by rw[<-htg];omega);rw[<-htg,q.2.2] at p;have:=(hx.wk i q.1 q.2.1).1;omega
 unfold cE;have s1:SL (il (wC x (x.b7.set n (fD h call))) h 1):=Up (x:=wC x (x.b7.set n (fD h call))) hR hS h λq=>by
  have:=ok _ _ q;dsimp only;omega
 by_cases q:T5 x.S h (D3 h)
 .have e:il (wC x (x.b7.set n (fD h call))) h 1=wS (wC x (x.b7.set n (fD h call))) (lC x.S (D3 h) 1):=by
   unfold il;rw[zb q]
  have hd:=ok _ _ q;have kn:=mW (d:=1) hR q.1 q.2.1 (by omega);rw[e] at s1 |-;refine JB kn.sr s1 _ λq2=>?_;dsimp only at q2 |-;have q3:=(kn.ad _ _).1 q2;have:=tw _ q3;rw[eU hR q.1 q.2.1];split
  .rename_i e2;rw[e2] at this;show 1<=(ce x.S (D3 h)).Val.Weak+1;omega
  .exact this
 .have e:il (wC x (x.b7.set n (fD h call))) h 1=wC x (x.b7.set n (fD h call)):=by
   unfold il;rw[za q]
  rw[e] at s1 |-;exact JB (x:=wC x (x.b7.set n (fD h call))) hR s1 _ λq2=>tw _ q2
section
variable{x:Hp}(hx:J8 x)(hS:SL x)
include hx hS
end
def Sd(x:Hp):Prop:=Sm x.S/\x.Roots.length<=20/\x.b7.length<=20/\x.T.length<=20/\x.Q.L.length<=60
instance(x:Hp):Decidable (Sd x):=by unfold Sd;infer_instance
def Qu:Hp:=⟨⟨⟨[],0⟩,0⟩,[],[],[],⟨[],0⟩⟩
theorem yU(x:Hp)(h:Int)(f:Int->Int):(ue x h f).Roots=x.Roots/\(ue x h f).b7=x.b7/\(ue x h f).T=x.T/\(ue x h f).Q=x.Q:=by
 unfold ue;split <;> exact⟨rfl,rfl,rfl,rfl⟩
theorem jM(x:Hp)(r:Nat)(h:Int):(G0 x r h).Roots=x.Roots.set r h/\(G0 x r h).b7=x.b7/\(G0 x r h).T=x.T/\(G0 x r h).Q=x.Q:=by
 obtain⟨a,b,c,d⟩:=yU (wR (E5 x h) (x.Roots.set r h)) (x.Roots.getD r 0) kR;obtain⟨a',b',c',d'⟩:=yU x h Y5;exact⟨a,b.trans b',c.trans c',d.trans d'⟩
section
variable{x:Hp}(hB:HB x)
include hB
end
abbrev Kc(o:n7):n7:=⟨o.Serial,0,o.Weak,o.Prog,o.Started,[]⟩
def FM(s:b6)(i:Nat):c8:=
 if (ce s i).Val.Weak=0 then (if (ce s i).Gen=s.S.Last then ⟨3,(ce s i).Gen,z0⟩ else ⟨0,(ce s i).Gen+1,z0⟩) else ⟨2,(ce s i).Gen,Kc (ce s i).Val⟩
def wq(s:b6)(d:Int):b6:=H6 s (D3 d) (FM s (D3 d))
def oi(s:b6)(ds:List Int):b6:=ds.foldl wq s
theorem TL(s:b6)(i:Nat):(FM s i).State≠1:=by
 unfold FM;split;·split <;> simp
 .simp
theorem GX{s:b6}(hR:SR s){a b:Int}(ha:a∈lv s)(hb:b∈lv s)(h:a≠b):D3 a≠D3 b:=λe=>by
 have h1:=o0 hR ha;have h2:=o0 hR hb;rw[e] at h1;exact h (h1.2.2.trans h2.2.2.symm)
section
variable{s:b6}(hR:SR s){d:Int}(hd:d∈lv s)
include hR hd
theorem Ct:SR (wq s d):=by
 have q:=o0 hR hd;have hc:=hR.cell _ q.1;have ho:=hR.ok _ q.1 (.inl q.2.1);have no:JG (oo z0):=⟨rfl,rfl,rfl,rfl,rfl,rfl⟩;unfold wq FM;split
 .split;·exact hR.H6 q.1 ⟨by simp,by simp,hc.2.2.1,hc.2.2.2⟩ (λ_=>no) (λq=>absurd q (by unfold Th;simp))
  .refine hR.H6 q.1 ⟨by simp,by simp,?_,?_⟩ (λ_=>no) (λq=>absurd q (by unfold Th;simp));·show 0<=(ce s (D3 d)).Gen+1;omega
   .show (ce s (D3 d)).Gen+1<=s.S.Last;omega
 .exact hR.H6 q.1 ⟨by simp,by simp,hc.2.2.1,hc.2.2.2⟩ (λq=>absurd (.inr rfl) q) (λ_=>⟨⟨ho.s1,ho.s2,zag _,ho.wk,ho.p1,ho.p2,zV _⟩,.inl q.2.1,rfl⟩)
theorem Mw(j:Nat):ce (wq s d) j=if j=D3 d then FM s (D3 d) else ce s j:=K4 (o0 hR hd).1 _ j
theorem Mx:lv (wq s d)=(lv s).filter λh=>decide (h≠d):=by
 have hS:=Ct hR hd;unfold wq at hS |-;have hc:=TL s (D3 d);rw[IG hR (o0 hR hd).1 hc hS];refine or λh hh=>zbp.2 ⟨λq e=>q (by rw[e]),λq=>GX hR hh hd q⟩
theorem My{k:Int}(hk:k∈lv s)(hne:k≠d):ob (wq s d) k=ob s k:=by
 have hS:=Ct hR hd;unfold wq at hS |-;exact IT hR (o0 hR hd).1 hS hk (GX hR hk hd hne)
end
structure Gn (s s':b6) (ds:List Int):Prop where
 sr:SR s'
 len:s'.S.b7.length=s.S.b7.length
 last:s'.S.Last=s.S.Last
 bg:s'.Serial=s.Serial
 lv:lv s'=(lv s).filter λh=>decide (h∉ds)
 ob:∀k∈Sh.lv s,k∉ds->ob s' k=ob s k
 ce:∀j,ce s' j=if j∈ds.map D3 then FM s j else ce s j
theorem eH:∀(ds:List Int) {s:b6} (hR:SR s),ds.Nodup->(∀d∈ds,d∈lv s)->Gn s (oi s ds) ds
 | [],s,hR,_,_=>⟨hR,rfl,rfl,rfl,(za7.2 (λa _=>by simp)).symm,λ_ _ _=>rfl,λj=>by simp[oi]⟩
 | d::ds,s,hR,hn,hm=>by
  rw[pi] at hn;have hd:=hm d (zf ..);have hlv:=Mx hR hd;have hm':∀e∈ds,e∈lv (wq s d):=λe he=>by
   rw[hlv,zk,zH];exact⟨hm e (zl _ he),λq=>hn.1 (q▸he)⟩
  have ih:=eH ds (Ct hR hd) hn.2 hm';refine⟨ih.sr,ih.len.trans (V3 ..),ih.last,ih.bg,?_,λk hk hne=>?_,λj=>?_⟩
  .show lv (oi (wq s d) ds)=_;rw[ih.lv,hlv,zan];refine or λh hh=>?_;rw[zbm];simp only[zA,zH,zN,not_or];exact⟨λq=>⟨q.2,q.1⟩,λq=>⟨q.2,q.1⟩⟩
  .show ob (oi (wq s d) ds) k=_;rw[zN,not_or] at hne;rw[ih.ob k (by rw[hlv,zk,zH];exact⟨hk,hne.1⟩) hne.2,My hR hd hk hne.1]
  .show ce (oi (wq s d) ds) j=_;have hg:∀e∈ds,D3 e≠D3 d:=λe he=>GX hR (hm e (zl _ he)) hd λq=>hn.1 (q▸he);rw[ih.ce];by_cases h1:j∈ds.map D3
   .obtain⟨e,he,rfl⟩:=zn.1 h1;rw[zb h1,zb (by rw[zF];exact zl _ h1)];unfold FM;rw[Mw hR hd,za (hg e he)];rfl
   .rw[za h1,Mw hR hd,zF];by_cases h2:j=D3 d
    .subst h2;rw[zb rfl,zb (zf ..)]
    .rw[za h2,za];rw[zN];exact λq=>q.elim h2 h1
theorem BQ{α:Type}(p:α->Bool)(f:α->Nat):∀l:List α,(l.map f).sum=((l.filter p).map f).sum+((l.filter λx => !p x).map f).sum
 | []=>rfl
 | x::l=>by
  rw[zF,ww,BQ p f l,ms,ms];cases p x <;> simp <;> omega
theorem Fu(f:Int->List Int)(y:Int):∀l:List Int,J3 (l.flatMap f) y=(l.map λx=>J3 (f x) y).sum
 | []=>G6 y
 | x::l=>by rw[zba,F7,Fu f y l,zF,ww]
theorem Gn.jv{s s':b6}{ds:List Int}(hR:SR s)(hn:ds.Nodup)(hm:∀d∈ds,d∈Sh.lv s)(g:Gn s s' ds)(y:Int):jv s' y+J3 (ds.flatMap (outs s)) y=jv s y:=by
 unfold Sh.jv;rw[g.lv,BQ (λh=>decide (h∉ds)) (λx=>J3 (outs s x) y) (Sh.lv s),Fu];have h1:((Sh.lv s).filter λh=>decide (h∉ds)).map (λx=>J3 (outs s' x) y)=((Sh.lv s).filter λh=>decide (h∉ds)).map λx=>J3 (outs s x) y:=zo λx hx=>by
  rw[zk,zH] at hx;unfold Sh.outs;rw[g.ob x hx.1 hx.2]
 have h2:((Sh.lv s).filter λx => !decide (x∉ds)).Perm ds:=by
  rw[List.perm_ext_iff_of_nodup ((oV (A0.2 hR)).filter _) hn];intro a;rw[zk];simp only[decide_not,Bool.not_not,zH];exact⟨λq=>q.2,λq=>⟨hm a q,q⟩⟩
 rw[h1,(h2.map λx=>J3 (outs s x) y).sum_nat]
theorem EJ{L:List e6}(hd:L.Pairwise λa b=>¬(a.Kind=b.Kind/\a.At=b.At))(k:Int):((L.filter (·.Kind==k)).map (·.At)).Nodup:=by
 unfold List.Nodup;rw[zbl];refine (hd.filter _).imp_of_mem λ{a b} ha hb h e=>?_;rw[zk,me] at ha hb;exact h ⟨ha.2.trans hb.2.symm,e⟩
theorem yZ{L:List e6}{m:List Int}(hd:L.Pairwise λa b=>¬(a.Kind=b.Kind/\a.At=b.At))(h:∀t∈L,(t.Kind=1/\t.At∈m)\/(t.Kind=2/\0<=t.At/\t.At<=5)):L.length<=m.length+6:=by
 have h1:L.length=(L.filter (·.Kind==1)).length+(L.filter (·.Kind==2)).length:=by
  rw[mL (λt:e6=>t.Kind==1) L];congr 2;refine or λt ht=>?_;rcases h t ht with q | q
  .simp[q.1]
  .simp[q.1]
 have h2:=Y9 (EJ hd 1) (m:=m) λa ha=>by
  obtain⟨t,ht,rfl⟩:=zn.1 ha;rw[zk,me] at ht;rcases h t ht.1 with q | q
  .exact q.2
  .omega
 have h3:=Y9 (EJ hd 2) (m:=[0,1,2,3,4,5]) λa ha=>by
  obtain⟨t,ht,rfl⟩:=zn.1 ha;rw[zk,me] at ht;rcases h t ht.1 with q | q
  .omega
  .simp only[zN,zcn,or_false];omega
 rw[zm] at h2 h3;simp only[zI,zah] at h3;omega
theorem gG{q:TQ}{w:Int}:wg q w=true↔∃t∈q.L,t.Kind=2/\t.At=w:=by
 unfold wg;rw[List.any_eq_true];simp
theorem jA{q:TQ}{h:Int}:h∈nW q↔∃t∈q.L,t.Kind=1/\t.At=h:=by
 unfold nW;rw[zn];simp only[zk,me];exact⟨λ⟨t,⟨a,b⟩,c⟩=>⟨t,a,b,c⟩,λ⟨t,a,b,c⟩=>⟨t,⟨a,b⟩,c⟩⟩
abbrev cz:k7:=⟨0,false,0⟩
def iJ(ds:List Int)(c:k7):Bool:=c.Intact&&c.Target != 0&&decide (c.Target∈ds)
def qX(ds:List Int)(c:k7):k7:=if iJ ds c then ⟨c.Target,false,c.Call⟩ else c
def lk(l:List k7)(ds:List Int):List k7:=l.map (qX ds)
def cls(l:List k7)(ds:List Int):List Nat:=(List.range l.length).filter λw=>iJ ds (l.getD w cz)&&decide (0<=(l.getD w cz).Call)
def jm(l:List k7)(ds:List Int):List e6:=(cls l ds).map λ(w:Nat)=>⟨2,(w:Int),(l.getD w cz).Call⟩
theorem ow(ds:List Int)(c:k7):(qX ds c).Target=c.Target/\(qX ds c).Call=c.Call/\((qX ds c).Intact=true↔c.Intact=true/\iJ ds c=false):=by
 unfold qX;cases h:iJ ds c
 .rw[za (by simp)];simp
 .rw[zb rfl];simp
theorem CN(l:List k7)(ds:List Int)(h:Int):jb (lk l ds) h=jb l h:=by
 unfold jb lk;rw[List.countP_map];congr 1;funext c
 simp only[Function.comp_apply,(ow ds c).1]
theorem gy{l:List k7}{ds:List Int}{t:e6}:t∈jm l ds↔∃w,∃hw:w<l.length,t=⟨2,(w:Int),l[w].Call⟩/\iJ ds l[w]=true/\0<=l[w].Call:=by
 unfold jm cls;rw[zn];constructor
 .rintro⟨w,hw,rfl⟩;rw[zk,zbb] at hw;obtain⟨h1,h2⟩:=hw;have e:l.getD w cz=l[w]:=by rw[zd,zc h1];rfl
  rw[e] at h2 |-;rw[zA,zH] at h2;exact⟨w,h1,rfl,h2.1,h2.2⟩
 .rintro⟨w,hw,rfl,h2,h3⟩;have e:l.getD w cz=l[w]:=by rw[zd,zc hw];rfl
  refine⟨w,?_,by rw[e]⟩;rw[zk,zbb,e,zA,zH];exact⟨hw,h2,h3⟩
theorem Bc(l:List k7)(ds:List Int):(jm l ds).Pairwise λa b=>¬(a.Kind=b.Kind/\a.At=b.At):=by
 unfold jm cls;rw[zbl];refine (zb7 _ (List.nodup_range (n:=l.length))).imp λ{a b} h=>?_;rintro⟨_,e⟩;dsimp only at e;omega
def jl(x:Hp)(ds:List Int)(t:Tb):Hp:=⟨oi x.S ds,x.Roots,lk x.b7 ds,t,⟨x.Q.L++jm x.b7 ds,x.Q.Cap⟩⟩
theorem ya(q:TQ)(l:List e6)(c:Int)(h:∀t∈l,t.Kind≠1):nW ⟨q.L++l,c⟩=nW q:=by
 unfold nW;dsimp only;rw[zao];have:l.filter (λt=>t.Kind==1) = []:=by
  rw[List.filter_eq_nil_iff];intro t ht;simpa using h t ht
 rw[this,zay]
theorem JW{x:Hp}(hx:J8 x){ds:List Int}(hn:ds.Nodup)(hm:∀d∈ds,d∈lv x.S)
  (ho:∀d∈ds,d∉nZ x)(hf:∀h∈lv x.S,h∉ds->∀v∈(ob x.S h).Fields,v∉ds)(hp:∀k v,Has x.T k v->k∉ds->v∉ds)
  {t:Tb}{vals:List Int}(ht:HR t)(h1:∀k v,Has t k v↔k∉ds/\Has x.T k v)(h2:∀y,own t y+J3 vals y=own x.T y) :
  kc (jl x ds t)/\Wk (jl x ds t)/\aB (jl x ds t) (ds.flatMap (outs x.S)++vals):=by
 have hS:=hx.sh;have hR:=hS.sr;have g:=eH ds hR hn hm;have hlv:∀h,h∈lv (oi x.S ds)↔h∈lv x.S/\h∉ds:=λh=>by rw[g.lv,zk,zH]
 have hlen:(lv x.S).length<=24:=M0 (A0.2 hR);have hcl:∀w (hw:w<x.b7.length),iJ ds x.b7[w]=true->x.b7[w].Intact=true:=λw hw q=>by
  unfold iJ at q;rw[zA,zA] at q;exact q.1.1
 have htd:(x.Q.L++jm x.b7 ds).Pairwise λa b=>¬(a.Kind=b.Kind/\a.At=b.At):=by
  rw[zau];refine⟨hS.td,Bc ..,λa ha b hb q=>?_⟩;obtain⟨w,hw,rfl,hh,_⟩:=gy.1 hb;have:=((hS.cl w hw).2.2.2.2 (hcl w hw hh)).2;rw[zbk] at this;exact this (gG.2 ⟨a,ha,q.1,q.2⟩)
 have htk:∀t∈x.Q.L++jm x.b7 ds,0<=t.Prog/\t.Prog<=5/\((t.Kind=1/\t.At∈lv (oi x.S ds)/\(ob (oi x.S ds) t.At).Started=true)\/(t.Kind=2/\0<=t.At/\t.At<=5)):=λt htt=>by
  rcases zw.1 htt with q | q
  .obtain⟨a,b,c⟩:=hS.tk t q;refine⟨a,b,?_⟩;rcases c with ⟨c1,c2,c3⟩ | c
   .have hnd:t.At∉ds:=λhd=>ho _ hd (zw.2 (.inr (jA.2 ⟨t,q,c1,rfl⟩)));exact .inl ⟨c1,(hlv _).2 ⟨c2,hnd⟩,by rw[g.ob _ c2 hnd];exact c3⟩
   .exact .inr c
  .obtain⟨w,hw,rfl,hh,hc⟩:=gy.1 q;have c6:=hS.c6;have:=(hS.cl w hw).2.1;exact⟨hc,this,.inr ⟨rfl,by dsimp only;omega,by dsimp only;omega⟩⟩
 have hq30:(x.Q.L++jm x.b7 ds).length<=30:=by
  have:=yZ (m:=lv x.S) htd λt htt=>by
   rcases (htk t htt).2.2 with q | q
   .exact .inl ⟨q.1,((hlv _).1 q.2.1).1⟩
   .exact .inr q
  omega
 have hwts:∀i:Nat,wg x.Q i=false->(∀hi:i<x.b7.length,iJ ds x.b7[i]=false)->wg ⟨x.Q.L++jm x.b7 ds,x.Q.Cap⟩ i=false:=λi q1 q2=>by
  rw[zbk] at q1 |-;intro q;obtain⟨t,ht,a,b⟩:=gG.1 q;rcases zw.1 ht with c | c
  .exact q1 (gG.2 ⟨t,c,a,b⟩)
  .obtain⟨w,hw,rfl,hh,_⟩:=gy.1 c;dsimp only at b;have:w=i:=by omega
   subst this;rw[q2 hw] at hh;cases hh
 refine⟨⟨g.sr,ht,hS.r6,?_,hS.cap,hq30,htk,htd,λh hh=>?_,λh hh v hv=>?_,λk v hkv=>?_,λi hi=>?_⟩,λi hi hti=>?_,λh hh hlt=>?_⟩
 .unfold jl lk;rw[zm];exact hS.c6
 .rcases hS.rt h hh with q | q
  .exact .inl q
  .have h0:h≠0:=λe=>eP hR (e▸q);exact .inr ((hlv h).2 ⟨q,λhd=>ho h hd (zw.2 (.inl (fW.2 ⟨hh,h0⟩)))⟩)
 .obtain⟨a,b⟩:=(hlv h).1 hh;have hv':v∈(ob x.S h).Fields:=by
   have e:=g.ob h a b;unfold jl at hv;rwa [e] at hv
  rcases hS.fl h a v hv' with q | q
  .exact .inl q
  .exact .inr ((hlv v).2 ⟨q,hf h a b v hv'⟩)
 .obtain⟨a,b⟩:=(h1 k v).1 hkv;obtain⟨c,d⟩:=hS.pr k v b;exact⟨(hlv k).2 ⟨c,a⟩,(hlv v).2 ⟨d,hp k v b a⟩⟩
 .have hi':i<x.b7.length:=by
   unfold jl lk at hi;simpa using hi
  have e:(jl x ds t).b7[i]=qX ds x.b7[i]:=q9 _;obtain⟨a1,a2,a3,a4,a5⟩:=hS.cl i hi';obtain⟨b1,b2,b3⟩:=ow ds x.b7[i];rw[e,b1,b2];refine⟨a1,a2,λq=>?_,λq=>?_,λq=>?_⟩
  .rw[zbk];intro q2;rw[a3 q] at b3;exact absurd (b3.1 q2).1 (by decide)
  .obtain⟨p,hp1,hp2,hp3⟩:=a4 q;refine⟨p,by show p<(oi x.S ds).S.b7.length;rw[g.len];exact hp1,?_⟩;show Th (ce (oi x.S ds) p)/\_=1+(p:Int)+32*(ce (oi x.S ds) p).Gen;rw[g.ce];split
   .have hw:=(hx.wk p hp1 hp2).1;have:=tL hi' q;rw[hp3] at this;unfold FM;rw[za (by omega)];exact⟨.inr rfl,hp3⟩
   .exact⟨hp2,hp3⟩
  .obtain⟨c1,c2⟩:=b3.1 q;obtain⟨d1,d2⟩:=a5 c1;have h0:x.b7[i].Target≠0:=λe=>eP hR (e▸d1);refine⟨(hlv _).2 ⟨d1,λhd=>?_⟩,hwts i d2 λ_=>c2⟩;have:iJ ds x.b7[i]=true:=by
    unfold iJ;simp[c1,h0,hd]
   rw[this] at c2;cases c2
 .have hi':i<x.S.S.b7.length:=by
   have:=g.len;have hi:i<(oi x.S ds).S.b7.length:=hi;omega
  show (ce (oi x.S ds) i).Val.Weak=(jb (lk x.b7 ds) (1+(i:Int)+32*(ce (oi x.S ds) i).Gen):Int)/\((ce (oi x.S ds) i).State=2->_);have hti':Th (ce (oi x.S ds) i):=hti;show _/\((ce (oi x.S ds) i).State=2->1<=(ce (oi x.S ds) i).Val.Weak/\(ce (oi x.S ds) i).Val.Fields = []/\(ce (oi x.S ds) i).Val.Strong=0);rw[CN];rw[g.ce] at hti' |-;split
  .rename_i q;rw[zb q] at hti';obtain⟨d,hd,rfl⟩:=zn.1 q;have hp:=o0 hR (hm d hd);have hw:=(hx.wk _ hi' (.inl hp.2.1)).1;unfold FM at hti' |-;split at hti'
   .exfalso;unfold Th at hti';split at hti' <;> simp at hti'
   .rename_i q2;rw[za q2];have:=(hR.ok _ hi' (.inl hp.2.1)).wk;exact⟨hw,λ_=>⟨by dsimp only;omega,rfl,rfl⟩⟩
  .rename_i q;rw[za q] at hti';exact hx.wk i hi' hti'
 .obtain⟨a,b⟩:=(hlv h).1 hh;have e:=g.ob h a b;have e':ob (jl x ds t).S h=ob x.S h:=e;rw[e'] at hlt |-;have hf:=hx.fair h a hlt;rw[G6] at hf;rw[hf];have i1:=g.jv hR hn hm h;have i2:=h2 h;have i3:nW ⟨x.Q.L++jm x.b7 ds,x.Q.Cap⟩=nW x.Q:=ya _ _ _ λt ht=>by
   obtain⟨w,_,rfl,_⟩:=gy.1 ht;simp
  unfold lH nZ jl;dsimp only;rw[i3,F7 (ds.flatMap (outs x.S)),F7];omega
theorem yG:∀(l:List Int) {x:Hp},kc x->Wk x->aB x l->J8 (l.foldl ax x)
 | [],x,h1,h2,h3=>⟨h1,h2,h3⟩
 | v::l,x,h1,h2,h3=>yG l (h1.st v λc=>P3) (h2.st h1.sr v λc=>P3) (tV h1.sr h3)
abbrev fz(o:n7):n7:=⟨o.Serial,o.Strong,o.Weak,o.Prog,true,o.Fields⟩
abbrev Au(x:Hp)(h:Int):e6:=⟨1,h,(ob x.S h).Prog⟩
noncomputable def gC(x:Hp)(h:Int):Hp:=E5 ⟨cT x.S h (fz (ob x.S h)),x.Roots,x.b7,x.T,⟨x.Q.L ++ [Au x h],x.Q.Cap⟩⟩ h
theorem vo{x:Hp}(hx:J8 x){h:Int}(hh:h∈lv x.S)(hp:0<=(ob x.S h).Prog)(hs:(ob x.S h).Started=false):J8 (gC x h):=by
 have hS:=hx.sh;have hR:=hS.sr;have oko:=J7 hR hh;have ho:Ap x.S (fz (ob x.S h)):=⟨oko.s1,oko.s2,oko.st,oko.wk,oko.p1,oko.p2,oko.fl⟩;have r1:=bN (o:=fz (ob x.S h)) hR hh rfl ho;have l1:=iA (o:=fz (ob x.S h)) hR hh rfl ho;have o1:∀j,j∈lv x.S->ob (cT x.S h (fz (ob x.S h))) j=if j=h then fz (ob x.S h) else ob x.S j:=λj hj=>by
  have:=H5 hR hj;exact ga (o:=fz (ob x.S h)) hR hh rfl ho (by omega)
 have hlen:(lv x.S).length<=24:=M0 (A0.2 hR);have s1:kc (wS x (cT x.S h (fz (ob x.S h)))):=hS.of r1 l1 (λk i q=>(Ds (o:=fz (ob x.S h)) hR hh rfl ho).2 q) (λk hk q=>by
  rw[o1 k hk];split;·rfl
  .exact q) λk hk v hv=>by
  rw[o1 k hk] at hv;split at hv;·rename_i e;subst e;exact hS.fl k hk v hv
  .exact hS.fl k hk v hv
 have w1:Wk (wS x (cT x.S h (fz (ob x.S h)))):=λi hi ht=>by
  have eN:=o0 hR hh;have hc:=yP (o:=fz (ob x.S h)) hR hh rfl ho i;dsimp only at hi ht |-;rw[hc] at ht |-;have hi':i<x.S.S.b7.length:=by unfold cT at hi;rwa [J1] at hi
  split at ht
  .rename_i e;subst e;rw[zb rfl];dsimp only;have:=hx.wk _ hi' (.inl eN.2.1);rw[E9 hR eN];exact⟨this.1,λq=>absurd q (by rw[eN.2.1];decide)⟩
  .rename_i e;rw[za e];exact hx.wk i hi' ht
 have htd:(x.Q.L ++ [Au x h]).Pairwise λa b=>¬(a.Kind=b.Kind/\a.At=b.At):=by
  rw[zau];refine⟨hS.td,by simp,λa ha b hb q=>?_⟩;rw[zt] at hb;subst hb;dsimp only at q;rcases (hS.tk a ha).2.2 with c | c
  .rw[q.2,hs] at c;exact absurd c.2.2 (by decide)
  .omega
 have htk:∀t∈x.Q.L ++ [Au x h],0<=t.Prog/\t.Prog<=5/\((t.Kind=1/\t.At∈lv (cT x.S h (fz (ob x.S h)))/\(ob (cT x.S h (fz (ob x.S h))) t.At).Started=true)\/(t.Kind=2/\0<=t.At/\t.At<=5)):=λt ht=>by
  rcases zw.1 ht with q | q
  .exact s1.tk t q
  .rw[zt] at q;subst q;refine⟨hp,oko.p2,.inl ⟨rfl,by rw[l1];exact hh,?_⟩⟩;dsimp only;rw[o1 h hh,zb rfl]
 have hq30:(x.Q.L ++ [Au x h]).length<=30:=by
  have:=yZ (m:=lv x.S) htd λt ht=>by
   rcases (htk t ht).2.2 with q | q
   .exact .inl ⟨q.1,by rw[<-l1];exact q.2.1⟩
   .exact .inr q
  omega
 have s2:kc ⟨cT x.S h (fz (ob x.S h)),x.Roots,x.b7,x.T,⟨x.Q.L ++ [Au x h],x.Q.Cap⟩⟩:=by
  refine⟨s1.sr,s1.hr,s1.r6,s1.c6,s1.cap,hq30,htk,htd,s1.rt,s1.fl,s1.pr,λi hi=>?_⟩;obtain⟨a,b,c,d,e⟩:=s1.cl i hi;refine⟨a,b,c,d,λq=>⟨(e q).1,?_⟩⟩;have:=(e q).2;rw[zbk] at this |-;intro q2;obtain⟨t,ht,k1,k2⟩:=gG.1 q2;rcases zw.1 ht with q3 | q3
  .exact this (gG.2 ⟨t,q3,k1,k2⟩)
  .rw[zt] at q3;subst q3;dsimp only at k1;omega
 have w2:Wk ⟨cT x.S h (fz (ob x.S h)),x.Roots,x.b7,x.T,⟨x.Q.L ++ [Au x h],x.Q.Cap⟩⟩:=w1;refine⟨s2.st h λc=>E4,w2.st s2.sr h λc=>E4,λk hk hlt=>?_⟩;have hk':k∈lv x.S:=by
  have:lv (gC x h).S=lv x.S:=(H7 s2.sr h λc=>E4).lv.trans l1;rw[<-this];exact hk
 have hst:(ob (gC x h).S k).Strong=if k=h then Y5 (ob x.S k).Strong else (ob x.S k).Strong:=by
  have:=vz (x:=⟨cT x.S h (fz (ob x.S h)),x.Roots,x.b7,x.T,⟨x.Q.L ++ [Au x h],x.Q.Cap⟩⟩) s2.sr h (f:=Y5) (λc=>E4) (k:=k) (by rw[<-l1] at hk';exact hk');refine zcu this ?_;dsimp only;rw[o1 k hk'];by_cases e:k=h
  .subst e;rw[zb rfl,zb rfl,zb rfl]
  .rw[za e,za e,za e]
 have hnm:lH (gC x h) k=lH x k+if k=h then 1 else 0:=by
  have:=xi (x:=⟨cT x.S h (fz (ob x.S h)),x.Roots,x.b7,x.T,⟨x.Q.L ++ [Au x h],x.Q.Cap⟩⟩) s2.sr h (f:=Y5) (λc=>E4) k;refine zcu this ?_;have hi:=Iw (o:=fz (ob x.S h)) hR hh rfl ho k;dsimp only at hi;have h0:k≠0:=λe=>eP hR (e▸hk');unfold lH nZ nW;dsimp only;rw[zao,pm,F7,F7,F7];have:J3 (List.map (·.At) (List.filter (λt:e6=>t.Kind==1) [Au x h])) k=if k=h then 1 else 0:=by
   show J3 [h] k=_;rw[G3,G6];by_cases e:k=h
   .rw[zb ⟨e.symm,h0⟩,zb e]
   .rw[za (λq=>e q.1.symm),za e]
  rw[this];omega
 rw[hst] at hlt |-;rw[hnm,G6];have hpos:=(J7 hR hk').st;by_cases e:k=h
 .rw[zb e] at hlt |-;rw[zb e];have:=hx.fair k hk' (by unfold Y5 at hlt;split at hlt <;> omega);rw[G6] at this;unfold Y5 at hlt |-;split at hlt;·omega
  .rename_i q;rw[za q,za (by omega)];omega
 .rw[za e] at hlt |-;rw[za e];have:=hx.fair k hk' hlt;rw[G6] at this;exact this
end Go.Sh
