/- A part. -/
import Derived.Test.YtmgbbnfgfmfgaaaGreatQ22eT
set_option linter.unusedVariables false
set_option linter.unusedSimpArgs false
set_option linter.unusedSectionVars false
namespace Go.Sh
noncomputable def zr(x:Hp):List Int:=(lv x.S).filter λh=>(ob x.S h).Strong==0
theorem cT{x:Hp}{h:Int}:h∈zr x↔h∈lv x.S/\(ob x.S h).Strong=0:=by
 unfold zr;rw[zk,pu]
theorem DI{x:Hp}(hx:K0 x){z:Int}(hz:z∈zr x):lK x z=0:=by
 obtain⟨a,b⟩:=cT.1 hz;have:=hx.fair z a (by omega);rw[H9] at this;omega
theorem Fu{l:List Int}{h:Int}(h0:h≠0)(e:Q0 l h=0):h∉l:=λq=>by
 have:=iZ.2 ⟨h0,q⟩;omega
theorem MK{α:Type}(f:α->Nat):∀ {l:List α} {a:α},a∈l->f a<=(l.map f).sum
 | b::l,a,h=>by
  rw[zR,zbd];rcases zM.1 h with e | e
  .subst e;omega
  .have:=MK f e;omega
theorem CE{s:b6}{a y:Int}(ha:a∈lv s):Q0 (outs s a) y<=jW s y:=MK (λx=>Q0 (outs s x) y) ha
theorem CU{t:Tb}{k v:Int}(h:Has t k v)(h0:v≠0):0<own t v:=zbw.2 ⟨⟨k,v⟩,cg.2 h,by simp[h0]⟩
def lf(t:Tb)(ks:List Int):Tb × List Int:=(aR t ks).getD (t,[])
theorem jQ{t:Tb}(hT:HR t)(ks:List Int)(hks:ks.length<=1000):aR t ks=some (lf t ks)/\HR (lf t ks).1/\(lf t ks).2.length<=ks.length/\pg (t.map eN) ks=some ((lf t ks).1.map eN,(lf t ks).2) /\
  (∀k v,Has (lf t ks).1 k v↔k∉ks/\Has t k v)/\∀y,own (lf t ks).1 y+Q0 (lf t ks).2 y=own t y:=by
 obtain⟨a,had,h1,h2,h3,h4,h5,h6,h7,h8,h9⟩:=wa hT ks hks;have:lf t ks=(a,had):=by unfold lf;rw[h1];rfl
 rw[this];exact⟨h1,h2,h4,h5,h6,h9⟩
noncomputable def gK(x:Hp)(ds:List Int):Hp:=(ds.flatMap (outs x.S)++(lf x.T ds).2).foldl aD (jo x ds (lf x.T ds).1)
theorem hU:∀(l:List Int) {x:Hp},SR x.S->vB x.S (l.foldl aD x).S/\l.foldl aD x=wS x (l.foldl aD x).S
 | [],x,h=>⟨vB.refl h,rfl⟩
 | v::l,x,h=>by
  have k1:=H8 h v (f:=kP) λc=>P2;obtain⟨k2,e⟩:=hU l (x:=aD x v) k1.sr;refine⟨k1.trans k2,?_⟩;show l.foldl aD (aD x v)=wS x (l.foldl aD (aD x v)).S;rw[e,UU x v]
theorem Ba{x:Hp}(hx:K0 x){ds:List Int}(hn:ds.Nodup)(hm:∀d∈ds,d∈lv x.S)
  (ho:∀d∈ds,d∉nZ x)(hf:∀h∈lv x.S,h∉ds->∀v∈(ob x.S h).Fields,v∉ds)(hp:∀k v,Has x.T k v->k∉ds->v∉ds):K0 (gK x ds):=by
 have hl:ds.length<=24:=zO (Z3 hn hm) (K9 (A2.2 hx.sh.sr));obtain⟨_,w1,_,_,w2,w3⟩:=jQ hx.sh.hr ds (by omega);obtain⟨a,b,c⟩:=JO hx hn hm ho hf hp w1 w2 w3;exact yH _ a b c
theorem Gb{x:Hp}(hR:SR x.S){ds:List Int}(hn:ds.Nodup)(hm:∀d∈ds,d∈lv x.S):lv (gK x ds).S=(lv x.S).filter λh=>decide (h∉ds):=by
 have g:=eH ds hR hn hm;exact (hU (ds.flatMap (outs x.S)++(lf x.T ds).2) (x:=jo x ds (lf x.T ds).1) g.sr).1.lv.trans g.lv
theorem Gc{x:Hp}(hR:SR x.S){ds:List Int}(hn:ds.Nodup)(hm:∀d∈ds,d∈lv x.S){k:Int}(hk:k∈lv x.S)(hd:k∉ds):∃n,ob (gK x ds).S k=AP (ob x.S k) n:=by
 have g:=eH ds hR hn hm;have hr:=H6 hR hk;obtain⟨n,e⟩:=(hU (ds.flatMap (outs x.S)++(lf x.T ds).2) (x:=jo x ds (lf x.T ds).1) g.sr).1.ob k (by omega);refine⟨n,?_⟩;have e':ob (gK x ds).S k=_:=e;have g':ob (jo x ds (lf x.T ds).1).S k=ob x.S k:=g.ob k hk hd;rw[e',g']
theorem sq{x:Hp}(hR:SR x.S){ds:List Int}(hn:ds.Nodup)(hm:∀d∈ds,d∈lv x.S):(gK x ds).Roots=x.Roots/\(gK x ds).b7=lk x.b7 ds/\(gK x ds).T=(lf x.T ds).1/\(gK x ds).Q=⟨x.Q.L++jr x.b7 ds,x.Q.Cap⟩:=by
 have g:=eH ds hR hn hm;have e:=(hU (ds.flatMap (outs x.S)++(lf x.T ds).2) (x:=jo x ds (lf x.T ds).1) g.sr).2;have e':gK x ds=wS (jo x ds (lf x.T ds).1) (gK x ds).S:=e;rw[e'];exact⟨rfl,rfl,rfl,rfl⟩
theorem Aq{x:Hp}(hx:K0 x){z:Int}(hz:z∈zr x):K0 (gK x [z]):=by
 obtain⟨a,b⟩:=cT.1 hz;have h0:z≠0:=λe=>eP hx.sh.sr (e▸a);have hn:=DI hx hz;unfold lK at hn;refine Ba hx (by simp) (by simpa using a) (λd hd=>?_) (λh hh hne v hv q=>?_) (λk v hkv _ q=>?_)
 .rw[zp] at hd;subst hd;exact Fu h0 (by omega)
 .rw[zp] at q;subst q;have:=CE (y:=v) hh;have h1:=iZ.2 ⟨h0,show v∈outs x.S h from fZ.2 ⟨hv,h0⟩⟩;omega
 .rw[zp] at q;subst q;have:=CU hkv h0;omega
def due(o:n9):Bool:=decide (0<=o.Prog) && !o.Started
noncomputable def FO(x:Hp):Hp:=match zr x with
 | []=>x
 | z::_=>if due (ob x.S z) then gF x z else gK x [z]
noncomputable def oe:Nat->Hp->Hp
 | 0,x=>x
 | n+1,x=>oe n (FO x)
theorem fB(n:Nat)(x:Hp):oe (n+1) x=FO (oe n x):=by
 induction n generalizing x with
 | zero=>rfl
 | succ n ih=>exact ih (FO x)
theorem ny{x:Hp}(h:zr x = []):FO x=x:=by unfold FO;rw[h]
theorem jN{x:Hp}{z:Int}{l:List Int}(h:zr x=z::l):FO x=if due (ob x.S z) then gF x z else gK x [z]:=by unfold FO;rw[h]
theorem KU{x:Hp}(hx:K0 x):K0 (FO x):=by
 cases h:zr x with
 | nil=>rw[ny h];exact hx
 | cons z l=>
  have hz:z∈zr x:=by rw[h];exact zg ..
  rw[jN h];split
  .rename_i q;unfold due at q;rw[zy,zF,zb7] at q;exact vk hx (cT.1 hz).1 q.1 q.2
  .exact Aq hx hz
theorem P5{x:Hp}(hx:K0 x)(n:Nat):K0 (oe n x):=by
 induction n with
 | zero=>exact hx
 | succ n ih=>rw[fB];exact KU ih
section
variable{x:Hp}(hR:SR x.S){h:Int}(hh:h∈lv x.S)
include hR hh
theorem nf:vB (cU x.S h (fA (ob x.S h))) (gF x h).S/\(gF x h).Roots=x.Roots/\(gF x h).b7=x.b7/\(gF x h).T=x.T/\(gF x h).Q=⟨x.Q.L ++ [Aw x h],x.Q.Cap⟩:=by
 have oko:=J9 hR hh;have r1:=bP (o:=fA (ob x.S h)) hR hh rfl ⟨oko.s1,oko.s2,oko.st,oko.wk,oko.p1,oko.p2,oko.fl⟩;refine⟨H8 (x:=⟨cU x.S h (fA (ob x.S h)),x.Roots,x.b7,x.T,⟨x.Q.L ++ [Aw x h],x.Q.Cap⟩⟩) r1 h λc=>E6,?_⟩;have e:gF x h=wS ⟨cU x.S h (fA (ob x.S h)),x.Roots,x.b7,x.T,⟨x.Q.L ++ [Aw x h],x.Q.Cap⟩⟩ (gF x h).S:=po _ h;rw[e];exact⟨rfl,rfl,rfl,rfl⟩
theorem CZ:lv (gF x h).S=lv x.S:=by
 have oko:=J9 hR hh;exact (nf hR hh).1.lv.trans (iD (o:=fA (ob x.S h)) hR hh rfl ⟨oko.s1,oko.s2,oko.st,oko.wk,oko.p1,oko.p2,oko.fl⟩)
theorem yA{k:Int}(hk:k∈lv x.S):∃n,ob (gF x h).S k=AP (if k=h then fA (ob x.S h) else ob x.S k) n:=by
 have oko:=J9 hR hh;have hr:=H6 hR hk;obtain⟨n,e⟩:=(nf hR hh).1.ob k (by omega);refine⟨n,?_⟩;rw[e,gi (o:=fA (ob x.S h)) hR hh rfl ⟨oko.s1,oko.s2,oko.st,oko.wk,oko.p1,oko.p2,oko.fl⟩ (by omega)]
end
noncomputable def mu(x:Hp):Nat:=(lv x.S).length+((lv x.S).filter λh => !(ob x.S h).Started).length
theorem Wx{x:Hp}(hR:SR x.S):mu x<=48:=by
 have h1:(lv x.S).length<=24:=K9 (A2.2 hR);have h2:((lv x.S).filter λh => !(ob x.S h).Started).length<=(lv x.S).length:=zB ..;unfold mu;omega
theorem Vi{x:Hp}(hx:K0 x)(h:zr x ≠ []):mu (FO x)<mu x:=by
 cases hz:zr x with
 | nil=>exact absurd hz h
 | cons z l=>
  have hzm:z∈zr x:=by rw[hz];exact zg ..
  have hzl:=(cT.1 hzm).1;have hR:=hx.sh.sr;rw[jN hz];split
  .rename_i q;unfold due at q;rw[zy,zF,zb7] at q;unfold mu;rw[CZ hR hzl];have:=filter_lt (p:=λh => !(ob (gF x z).S h).Started) (q:=λh => !(ob x.S h).Started) (l:=lv x.S) (λk hk hp=>by
    obtain⟨n,e⟩:=yA hR hzl hk;rw[e] at hp;split at hp;·exact absurd hp (by simp)
    .exact hp) z hzl (by rw[q.2];rfl) (by
    obtain⟨n,e⟩:=yA hR hzl hzl;rw[e,zb rfl];rfl)
   omega
  .unfold mu;have hn:([z]:List Int).Nodup:=by simp
   have hm:∀d ∈ [z],d∈lv x.S:=by simpa using hzl
   rw[Gb hR hn hm,zan];have h1:((lv x.S).filter λh=>decide (h ∉ [z])).length<((lv x.S).filter λ_=>true).length:=filter_lt (λ_ _ _=>rfl) z hzl rfl (by simp);rw[zbk.2 (λ_ _=>rfl)] at h1;have h2:((lv x.S).filter λa=>(!(ob (gK x [z]).S a).Started)&&decide (a ∉ [z])).length<=((lv x.S).filter λh => !(ob x.S h).Started).length:=by
    rw[<-zbv,<-zbv];refine List.countP_mono_left λa ha hp=>?_;rw[zy,zF] at hp;obtain⟨n,e⟩:=Gc hR hn hm ha hp.2;rw[e] at hp;exact hp.1
   omega
noncomputable def bA(x:Hp):Hp:=oe 100 x
theorem vp{x:Hp}(hx:K0 x):∃n,n<=48/\zr (oe n x) = []/\(∀j,j<n->zr (oe j x) ≠ [])/\bA x=oe n x:=by
 have key:∀m,(∃n,n<=m/\zr (oe n x) = [])\/mu (oe m x)+m<=mu x:=by
  intro m;induction m with
  | zero=>exact .inr (zG _)
  | succ m ih=>
   rcases ih with ⟨n,h1,h2⟩ | ih;·exact .inl ⟨n,by omega,h2⟩
   .by_cases q:zr (oe m x) = []
    .exact .inl ⟨m,by omega,q⟩
    .have:=Vi (P5 hx m) q;rw[<-fB] at this;exact .inr (by omega)
 have h48:=Wx hx.sh.sr;have hex:∃n,n<=48/\zr (oe n x) = []:=by
  rcases key 49 with ⟨n,h1,h2⟩ | h
  .rcases zE n 49 with q | q
   .exact⟨n,by omega,h2⟩
   .rcases key 48 with h | h
    .exact h
    .have:mu (oe 48 x)=0:=by omega
     refine⟨48,zG _,?_⟩;have hl:(lv (oe 48 x).S).length=0:=by unfold mu at this;omega
     unfold zr;rw[zZ hl];rfl
  .omega
 obtain⟨n,⟨hn,hz⟩,hmin⟩:=dz hex;refine⟨n,hn,hz,λj hj q=>?_,?_⟩
 .have:=hmin j ⟨by omega,q⟩;omega
 .have:∀k,oe (n+k) x=oe n x:=λk=>by
   induction k with
   | zero=>rfl
   | succ k ih=>rw[show n+(k+1)=(n+k)+1 by omega,fB,ih,ny hz]
  have h100:=this (100-n);rw[show n+(100-n)=100 by omega] at h100;exact h100
theorem nu{x:Hp}(hx:K0 x):K0 (bA x):=P5 hx 100
theorem BL{x:Hp}(hx:K0 x):zr (bA x) = []:=by
 obtain⟨n,_,h,_,e⟩:=vp hx;rw[e];exact h
theorem Od{x:Hp}(h:zr x = []):bA x=x:=by
 have:∀n,oe n x=x:=λn=>by
  induction n with
  | zero=>rfl
  | succ n ih=>rw[fB,ih,ny h]
 exact this 100
section
variable{x:Hp}(hR:SR x.S)
include hR
theorem qO{h:Int}(hh:h∈lv x.S):h<=9223372036854775807:=by have:=H6 hR hh;omega
theorem xZ{h:Int}(hh:h∈lv x.S):y5 x.S h=some (ob x.S h,0):=by
 obtain⟨e,h1,h2⟩:=il (A2.2 hR) (qO hR hh);rw[h1,h2.2 hh]
theorem zero_eq:dW x=some (zr x):=by
 have h24:(lv x.S).length<=24:=K9 (A2.2 hR);unfold dW;simp only[jn];rw[gz (A2.2 hR),Yz];rw[U7 (lv x.S) (λb h=>if (ob x.S h).Strong==0 then b ++ [h] else b) id (λk b=>b.length<=k) (by omega) (zG _) (λk hk b hb=>?_) (λb hb=>by simp)]
 .rw[foldl_filter];rfl
 .simp only[wp,hk,ul,wn,u5 hk,Yz,xZ hR (zh hk)];by_cases c:((ob x.S (lv x.S)[k]).Strong==0)=true
  .rw[zb c,zb c,K5 (by omega) (by simp;omega),Yz,o5];exact⟨rfl,by simp;omega⟩
  .rw[za c,za c,o5];exact⟨rfl,by omega⟩
end
noncomputable def Xq(x:Hp)(h:Int):Hp:=if h∈lv x.S/\due (ob x.S h)=true then gF x h else x
theorem Jl{s:b6}(hR:SR s){h:Int}(hl:h∈lv s):As s (fA (ob s h)):=by
 have oko:=J9 hR hl;exact⟨oko.s1,oko.s2,oko.st,oko.wk,oko.p1,oko.p2,oko.fl⟩
theorem IQ(o:n9):O9 o=some (due o):=by
 unfold O9 due;congr 1
section
variable{x:Hp}(hx:K0 x)(hS:SL x){h:Int}(hh:h<=9223372036854775807)
include hx hS hh
theorem GW(hl:h∈lv x.S)(hd:due (ob x.S h)=true):x.Q.L.length<30:=by
 have hb:0<=(ob x.S h).Prog/\(ob x.S h).Started=false:=by
  unfold due at hd;rw[zy,zF,zb7] at hd;exact hd
 have:=(vk hx hl hb.1 hb.2).sh.q30;rw[(nf hx.sh.sr hl).2.2.2.2] at this;simp at this;omega
theorem BF:W9 x h=some (Xq x h):=by
 have hR:=hx.sh.sr;have cap:=hx.sh.cap;obtain⟨e,h1,h2⟩:=il (A2.2 hR) hh;unfold W9 Xq;rw[h1,Yz];by_cases hl:h∈lv x.S
 .have e0:e=0:=h2.2 hl;subst e0;have e1:(((0:Int) != 0)==false)=true:=rfl;simp only[e1,iI,IQ,Yz];cases hd:due (ob x.S h);·rw[zb (by simp),za (by simp)]
  .rw[za (by simp),zb ⟨hl,rfl⟩];have hr:=GW hx hS hh hl hd;have hok:=Jl hR hl;have l1:=iD (o:=fA (ob x.S h)) hR hl rfl hok;have r1:=bP (o:=fA (ob x.S h)) hR hl rfl hok;rw[xe (o:=fA (ob x.S h)) hR hl rfl hok,Yz,Sz _ (by omega),Yz];have et:VC x.Q ⟨1,h,(ob x.S h).Prog⟩=(⟨x.Q.L ++ [Aw x h],x.Q.Cap⟩,0):=by
    unfold VC;rw[za (by omega)]
   rw[et];dsimp only;rw[lV r1 hh (λk hk=>?_),Yz];·rfl
   .dsimp only at hk |-;rw[l1] at hk;rw[gi (o:=fA (ob x.S h)) hR hl rfl hok (qO hR hk)];split;·exact hS h hl
    .exact hS k hk
 .have e0:e≠0:=λq=>hl (h2.1 q);have e1:(e != 0)=true:=by simpa using e0
  rw[e1];simp only[show ((true==false)=true)=False by simp,D4,t8,Yz,Bool.true_or,wn];rw[za (λq=>hl q.1)]
end
noncomputable def Xm(x:Hp)(l:List Int):List Int:=l.foldl (λb h=>if h∈lv x.S/\h∉b then b ++ [h] else b) []
theorem MO{x:Hp}{z:Int}(hz:z∈lv x.S):Xm x [z] = [z]:=by
 unfold Xm;simp[hz]
section
variable{x:Hp}(hR:SR x.S)
include hR
theorem tv(l:List Int)(hl:l.length<=1000)(hb:∀h∈l,h<=9223372036854775807):Z6 x l=some (Xm x l):=by
 unfold Z6;simp only[jn];have key:=U7 (f:=λ((s20,s21,s22):Int × (List (Int × Bool)) × (List Int))=>
   if (decide (s20<(l.length:Int))) then
     (ix l s20).bind λv32=>
     (y5 x.S v32).bind λv33=>
     if ((v33.2==0)==true) then
      if (!((z8 s21 v32).getD (false:Bool))) then
       (app 8 s22 [v32]).bind λv34=>
       some (Sum.inl (w9 (s20+1),(p8 s21 v32 true),v34))
      else
      some (.inl (w9 (s20+1),s21,s22))
     else
     some (.inl (w9 (s20+1),s21,s22))
   else
   some (.inr s22)) l (λ(b:List (Int × Bool) × List Int) h=>if h∈lv x.S/\h∉b.2 then (p8 b.1 h true,b.2 ++ [h]) else b) (λb=>b.2) (λk b=>b.2.length<=k/\∀d,(z8 b.1 d).getD false=decide (d∈b.2)) (b0:=([],[])) (by omega) ⟨zG _,λd=>by simp[z8]⟩ (λk hk b hb2=>?_) (λb hb2=>by simp)
 .rw[key,Yz];congr 1;have:∀(l:List Int) (m:List (Int × Bool)) (b:List Int),(l.foldl (λ(b:List (Int × Bool) × List Int) h=>if h∈lv x.S/\h∉b.2 then (p8 b.1 h true,b.2 ++ [h]) else b) (m,b)).2=l.foldl (λb h=>if h∈lv x.S/\h∉b then b ++ [h] else b) b:=λl=>by
   induction l with
   | nil=>intro m b;rfl
   | cons h l ih=>
    intro m b;rw[zah,zah];by_cases c:h∈lv x.S/\h∉b
    .rw[zb c,zb c,ih]
    .rw[za c,za c,ih]
  exact this l [] []
 .obtain⟨hb1,hb3⟩:=hb2;obtain⟨e,h1,h2⟩:=il (A2.2 hR) (hb _ (zh hk));simp only[wp,hk,ul,wn,u5 hk,Yz,h1,hb3];by_cases hl:l[k]∈lv x.S
  .have e0:e=0:=h2.2 hl;subst e0;by_cases hm:l[k]∈b.2
   .rw[zb (by rfl),za (by simp[hm]),za (λq=>q.2 hm),o5];exact⟨rfl,by omega,hb3⟩
   .rw[zb (by rfl),zb (by simp[hm]),zb ⟨hl,hm⟩,K5 (by omega) (by simp;omega),Yz,o5];refine⟨rfl,by simp;omega,λd=>?_⟩;rw[pU];by_cases q:d=l[k]
    .rw[zb q];simp[q]
    .rw[za q,hb3];simp[q]
  .have e0:e≠0:=λq=>hl (h2.1 q);rw[za (by simp[e0]),za (λq=>hl q.1),o5];exact⟨rfl,by omega,hb3⟩
end
theorem xR{α β:Type}(p:α->Bool)(f:α->β):∀(xs:List α) (acc:List β),xs.foldl (λb x=>if p x then b ++ [f x] else b) acc=acc++(xs.filter p).map f
 | [],acc=>by simp
 | x::xs,acc=>by
  rw[zah,xR p f xs];by_cases h:p x=true
  .simp[h]
  .simp[h]
theorem pS{α:Type}{l:List α}{i:Nat}(h:i<l.length)(d:α):l.getD i d=l[i]:=by
 rw[zd,zc h];rfl
theorem JQ(c:k9)(ds:List Int)(hl:ds.length<=1000):cC c ds=some (iO ds c):=by
 unfold cC iO;rw[contains_eq _ _ (by omega)];cases (c.Intact&&c.Target != 0);·rfl
 .simp[D4]
def oa(l:List k9)(ds:List Int):List Nat:=(List.range l.length).filter λw=>iO ds (l.getD w cz)
theorem UB{l:List k9}{ds:List Int}{w:Nat}(h:w∈oa l ds):w<l.length:=by
 unfold oa at h;rw[zk,za6] at h;exact h.1
theorem QW(l:List k9)(ds:List Int):(oa l ds).length<=l.length:=by
 unfold oa;exact zO (zB ..) (by simp)
theorem UC(l:List k9)(ds:List Int):(oa l ds).Nodup:=zb6 _ List.nodup_range
theorem PK(l:List k9)(ds:List Int):cls l ds=(oa l ds).filter λw=>decide (0<=(l.getD w cz).Call):=by
 unfold cls oa;rw[zan];refine pm λw _=>?_;rw[Bool.and_comm]
def th(l:List Nat):List Int:=l.map λ(n:Nat)=>(n:Int)
theorem Iq{l:List Nat}{k:Nat}(h:k<l.length):ix (th l) (k:Int)=some ((l[k]:Nat):Int):=by
 unfold th;rw[tp,u5 h];rfl
theorem ye(l:List Nat):(th l).length=l.length:=zl ..
theorem KB(l:List k9)(ds:List Int)(hl:l.length<=1000)(hd:ds.length<=1000):M2 l ds=some (th (oa l ds)):=by
 unfold M2;simp only[jn];have hr:(List.range l.length).length=l.length:=by simp
 have key:=U7 (List.range l.length) (λ(b:List Int) (w:Nat)=>if iO ds (l.getD w cz) then b ++ [(w:Int)] else b) id (λk b=>b.length<=k) (b0:=[]) (f:=λ((s17,s18):Int × (List Int))=>
   if (decide (s17<(l.length:Int))) then
     (ix l s17).bind λv26=>
     (cC v26 ds).bind λv27=>
     if v27 then
      (app 8 s18 [s17]).bind λv28=>
      some (Sum.inl (w9 (s17+1),v28))
     else
     some (.inl (w9 (s17+1),s18))
   else
   some (.inr s18)) (by omega) (zG _) (λk hk b hb=>?_) (λb hb=>by simp)
 .rw[key,xR];rfl
 .rw[hr] at hk;simp only[wp,hk,ul,wn,u5 hk,Yz,JQ _ _ hd,List.getElem_range,pS hk];by_cases c:iO ds l[k]=true
  .rw[zb c,zb c,K5 (by omega) (by simp;omega),Yz,o5];exact⟨rfl,by simp;omega⟩
  .rw[za c,za c,o5];exact⟨rfl,by omega⟩
theorem JT(l:List k9)(hl:l.length<=1000):bT l=some l:=by
 unfold bT;rw[ky (by omega) (by omega),Yz];unfold wX;rw[zb (by simp),Yz];simp
def sw(l:List k9)(K:List Nat):List k9:=(List.range l.length).map λi=>if i∈K then ⟨(l.getD i cz).Target,false,(l.getD i cz).Call⟩ else l.getD i cz
theorem ll(l:List k9)(K:List Nat):(sw l K).length=l.length:=by simp[sw]
theorem sx{l:List k9}{K:List Nat}{i:Nat}(h:i<(sw l K).length):(sw l K)[i]=if i∈K then ⟨(l.getD i cz).Target,false,(l.getD i cz).Call⟩ else l.getD i cz:=by simp[sw]
theorem LN(l:List k9):sw l []=l:=by
 refine zb1 (ll ..) λi h1 h2=>?_;rw[sx,za (by simp),pS h2]
theorem JS{l:List k9}{K:List Nat}{w:Nat}(hw:w<l.length):sw l (K ++ [w])=(sw l K).set w ⟨(l.getD w cz).Target,false,(l.getD w cz).Call⟩:=by
 refine zb1 (by rw[zap,ll,ll]) λi h1 h2=>?_;rw[sx,zcp];by_cases e:w=i
 .subst e;rw[zb rfl,zb (by simp)]
 .rw[za e,sx];by_cases q:i∈K
  .rw[zb (ut _ q),zb q]
  .rw[za,za q];rw[zu,zp];exact λq2=>q2.elim q λq3=>e q3.symm
theorem LM(l:List k9)(ds:List Int):sw l (oa l ds)=lk l ds:=by
 refine zb1 (by rw[ll];simp[lk]) λi h1 h2=>?_;have hi:i<l.length:=by rw[ll] at h1;exact h1
 have ec:(lk l ds)[i]=ra ds l[i]:=t7 _;rw[sx,ec,pS hi];unfold ra;by_cases c:iO ds l[i]=true
 .rw[zb c,zb];unfold oa;rw[zk,za6,pS hi];exact⟨hi,c⟩
 .rw[za c,za];unfold oa;rw[zk,za6,pS hi];exact λq=>c q.2
theorem U4{α:Type}{l:List α}{k:Nat}(h:k<l.length):l.take (k+1)=l.take k ++ [l[k]]:=zx h
theorem DX(l:List k9)(ds:List Int)(hl:l.length<=1000)(hd:ds.length<=1000):gp l ds=some (lk l ds,th (cls l ds)):=by
 unfold gp;rw[KB l ds hl hd,Yz,JT l hl,Yz];simp only[jn,ye];have hp:=QW l ds;refine ca (oa l ds).length (λk (b:List k9 × List Int)=>b.1=sw l ((oa l ds).take k)/\b.2=th (((oa l ds).take k).filter λw=>decide (0<=(l.getD w cz).Call))) (by omega) ⟨by simp[LN],by simp[th]⟩ ?_ ?_
 .rintro k ⟨b1,b2⟩ hk ⟨rfl,rfl⟩;left;have hw:=UB (zh hk);have hnm:(oa l ds)[k]∉(oa l ds).take k:=λq=>by
   have hn:=UC l ds;rw[<-zb3 k (oa l ds),zbs] at hn;exact hn.2.2 _ q (oa l ds)[k] (by rw[List.drop_eq_getElem_cons hk];exact zg ..) rfl
  have h1:(oa l ds)[k]<(sw l ((oa l ds).take k)).length:=by rw[ll];exact hw
  have e1:ix (sw l ((oa l ds).take k)) (((oa l ds)[k]:Nat):Int)=some (l.getD (oa l ds)[k] cz):=by rw[u5 h1,sx,za hnm]
  have h2:(oa l ds)[k]<((sw l ((oa l ds).take k)).set (oa l ds)[k] ⟨(l.getD (oa l ds)[k] cz).Target,false,(l.getD (oa l ds)[k] cz).Call⟩).length:=by rw[zap];exact h1
  have e2:ix ((sw l ((oa l ds).take k)).set (oa l ds)[k] ⟨(l.getD (oa l ds)[k] cz).Target,false,(l.getD (oa l ds)[k] cz).Call⟩) (((oa l ds)[k]:Nat):Int)=some ⟨(l.getD (oa l ds)[k] cz).Target,false,(l.getD (oa l ds)[k] cz).Call⟩:=by rw[u5 h2,List.getElem_set_self]
  dsimp only;simp only[wp,hk,ul,wn,Iq hk,Yz,e1,zP,e2];have hle:(th (((oa l ds).take k).filter λw=>decide (0<=(l.getD w cz).Call))).length<=1000:=by
   rw[ye];exact zO (zB ..) (by simp;omega)
  rw[U4 hk,JS hw,zbb];by_cases c:0<=(l.getD (oa l ds)[k] cz).Call
  .rw[zb (zD c),K5 (by omega) (by simp only[zH,zaf];omega),Yz,o5];refine⟨_,rfl,rfl,?_⟩;rw[or,zb (zD c)];simp[th]
  .rw[za (λq=>c (zbi q)),o5];refine⟨_,rfl,rfl,?_⟩;rw[or,za (λq=>c (zbi q))];simp[th]
 .rintro⟨b1,b2⟩ ⟨rfl,rfl⟩;refine⟨_,za (by simp),?_⟩;dsimp only;rw[zU,LM,<-PK]
def La(x:Hp)(ds:List Int):Hp:=⟨x.S,x.Roots,lk x.b7 ds,x.T,⟨x.Q.L++jr x.b7 ds,x.Q.Cap⟩⟩
theorem mJ(l:List k9)(ds:List Int):(jr l ds).length=(cls l ds).length:=zl ..
theorem Gj{l:List k9}{ds:List Int}{w:Nat}(h:w∈cls l ds):w<l.length:=by
 unfold cls at h;rw[zk,za6] at h;exact h.1
theorem Tk{l:List k9}{ds:List Int}{k:Nat}(h:k<(jr l ds).length):(jr l ds)[k]=⟨2,(((cls l ds)[k]'(by rw[<-mJ];exact h):Nat):Int),(l.getD ((cls l ds)[k]'(by rw[<-mJ];exact h)) cz).Call⟩:=t7 _
theorem LO{l:List k9}{ds:List Int}{w:Nat}(h:w<l.length):ix (lk l ds) (w:Int)=some (ra ds l[w]):=by
 unfold lk;rw[tp,u5 h];rfl
section
variable{x:Hp}{ds:List Int}(hc:x.b7.length<=6)(hd:ds.length<=1000)(hq:(x.Q.L++jr x.b7 ds).length<=30)(hcap:x.Q.Cap=30)
include hc hd hq hcap
theorem JL{k:Nat}(hk:k<(jr x.b7 ds).length):VC ⟨x.Q.L++(jr x.b7 ds).take k,x.Q.Cap⟩ (jr x.b7 ds)[k]=(⟨x.Q.L++(jr x.b7 ds).take (k+1),x.Q.Cap⟩,0):=by
 rw[zL] at hq;unfold VC;rw[za (by dsimp only;rw[zL,zav,hcap];omega),U4 hk,zag]
theorem Gi:fw x ds=some (La x ds):=by
 unfold fw;rw[DX _ _ (by omega) hd,Yz];dsimp only;simp only[jn,ye];have hq2:=hq;rw[zL] at hq2;refine ca (cls x.b7 ds).length (λk (q:TQ)=>q=⟨x.Q.L++(jr x.b7 ds).take k,x.Q.Cap⟩) (by rw[<-mJ];omega) (by simp) ?_ ?_
 .rintro k q hk rfl;left;have hw:=Gj (zh hk);have hk2:k<(jr x.b7 ds).length:=by rw[mJ];exact hk
  simp only[wp,hk,ul,wn,Iq hk,Yz,LO hw];have et:(⟨2,(((cls x.b7 ds)[k]:Nat):Int),(ra ds x.b7[(cls x.b7 ds)[k]]).Call⟩:g7)=(jr x.b7 ds)[k]:=by
   rw[Tk,(ow ds _).2.1,pS hw]
  rw[et,Sz _ (by dsimp only;rw[zL,zav];omega),JL hc hd hq hcap hk2,Yz,o5 (by rw[<-mJ] at hk;omega)];exact⟨_,rfl,rfl⟩
 .rintro q rfl;refine⟨_,za (by simp),?_⟩;rw[<-mJ,zU];rfl
end
theorem BK(s:b6)(i:Nat)(c d:c9):H7 (H7 s i c) i d=H7 s i d:=by
 unfold H7;dsimp only;rw[List.set_set]
section
variable{s:b6}(hR:SR s){d:Int}(hd:d∈lv s)
include hR hd
def k1(s:b6)(d:Int):b6:=H7 s (D7 d) ⟨1,(ce s (D7 d)).Gen,JU (ob s d)⟩
def k2(s:b6)(d:Int):b6:=H7 s (D7 d) ⟨2,(ce s (D7 d)).Gen,JU (ob s d)⟩
theorem Gl:As s (JU (ob s d)):=by
 have ho:=J9 hR hd;exact⟨ho.s1,ho.s2,zae _,ho.wk,ho.p1,ho.p2,zV _⟩
theorem MH:cU s d (JU (ob s d))=k1 s d:=by
 have q:=o6 hR hd;unfold cU fL k1 H7;rw[q.2.1]
theorem Wh:At (k1 s d) d (D7 d):=by
 have q:=o6 hR hd;refine⟨by unfold k1;rw[V6];exact q.1,?_,?_⟩;·unfold k1;rw[K6 q.1,zb rfl]
 .unfold k1;rw[K6 q.1,zb rfl];exact q.2.2
theorem Wi:SR (k1 s d):=by rw[<-MH hR hd];exact bP (o:=JU (ob s d)) hR hd rfl (Gl hR hd)
theorem Wm:SR (k2 s d):=by
 have q:=o6 hR hd;have hc:=hR.cell _ q.1;unfold k2;refine hR.H7 q.1 ⟨by simp,by simp,hc.2.2.1,hc.2.2.2⟩ (λq=>absurd (.inr rfl) q) (λ_=>⟨Gl hR hd,.inl q.2.1,?_⟩);show (ob s d).Serial=_;rw[F1 hR q]
theorem Wj:T9 (k2 s d) d (D7 d):=by
 have q:=o6 hR hd;refine⟨by unfold k2;rw[V6];exact q.1,?_,?_⟩;·unfold k2;rw[K6 q.1,zb rfl];exact .inr rfl
 .unfold k2;rw[K6 q.1,zb rfl];exact q.2.2
theorem Ql:Y0 (k1 s d).S d=some ((k2 s d).S,0):=by
 have q:=o6 hR hd;have hR1:=Wi hR hd;have q1:=Wh hR hd;have hr:=H6 hR hd;have hlen:=hR1.len;have hH:BT d:=((ru hR1).2 q1.d).2.1;have hsl:(d-1) % 32=(D7 d:Nat):=((ru hR1).2 q1.d).2.2.1;have hg:(d-1) / 32=(ce s (D7 d)).Gen:=by
  have:=q.2.2;have h24:=hR.len;have:=q.1;omega
 unfold Y0 G9;rw[wU hR1 q1.d,Yz,za (by simp),Ir q1.1,Yz,q1.2.1,za (by simp),Yz,za (by simp),oO (by omega),Yz,zb hH,hsl,qK (by omega),Yz,zb hH,hg,mh rfl q1.1 hlen,Yz];have e:(ce (k1 s d) (D7 d)).Val=JU (ob s d):=by unfold k1;rw[K6 q.1,zb rfl]
 rw[e];congr 2;show (H7 (k1 s d) (D7 d) _).S=(k2 s d).S;unfold k1 k2;rw[BK]
theorem Wd(hw:(ob s d).Weak=0):DK (k2 s d) (D7 d)=wo s d:=by
 have q:=o6 hR hd;have e:ce (k2 s d) (D7 d)=⟨2,(ce s (D7 d)).Gen,JU (ob s d)⟩:=by unfold k2;rw[K6 q.1,zb rfl]
 unfold DK wo FK;rw[e];rw[F1 hR q] at hw;rw[zb hw];unfold k2;rw[BK];rfl
theorem Wl(hw:(ob s d).Weak≠0):k2 s d=wo s d:=by
 have q:=o6 hR hd;unfold k2 wo FK;rw[F1 hR q] at hw |-;rw[za hw]
end
theorem Kk{x:Hp}(hR:SR x.S){d:Int}(hd:d∈lv x.S):aZ x d=some (wS x (wo x.S d)):=by
 unfold aZ;rw[xZ hR hd,Yz];have e1:S9 x.S d (⟨(ob x.S d).Serial,0,(ob x.S d).Weak,(ob x.S d).Prog,(ob x.S d).Started,[]⟩:n9)=some (k1 x.S d,0):=by
  rw[<-MH hR hd];exact xe (o:=JU (ob x.S d)) hR hd rfl (Gl hR hd)
 rw[e1,Yz,Ql hR hd,Yz];by_cases hw:(ob x.S d).Weak=0
 .rw[zb (by simpa using hw),Ik (Wm hR hd) (Wj hR hd),Yz,Wd hR hd hw];rfl
 .rw[za (by simpa using hw)];show some (wS x (k2 x.S d))=_;rw[Wl hR hd hw]
theorem Dj:∀(l:List Int) {x:Hp},SR x.S->SL x->SL (l.foldl aD x)
 | [],x,_,h=>h
 | v::l,x,hR,h=>Dj l (x:=aD x v) (NQ hR v) (h.OI hR v)
theorem Dg{y:Hp}(hR:SR y.S)(l:List Int)(hl:l.length<=1000000)(hb:∀v∈l,v<=9223372036854775807){K:Hp->Option Hp}:((lp (S:=Int × b9) (E:=b9) (λ((s35,s36):Int × b9)=>
     if (decide (s35<(l.length:Int))) then
      (ix l s35).bind λv39=>
      (E2 s36 v39).bind λv40=>
      some (.inl (w9 (s35+1),v40))
     else
     some (.inr s36)) (0,y)).bind K)=K (l.foldl aD y):=by
 have key:=U7 l aD id (λk z=>SR z.S) (b0:=y) (f:=λ((s35,s36):Int × b9)=>
     if (decide (s35<(l.length:Int))) then
      (ix l s35).bind λv39=>
      (E2 s36 v39).bind λv40=>
      some (Sum.inl (w9 (s35+1),v40))
     else
     some (.inr s36)) (by omega) hR (λk hk z hz=>?_) (λz hz=>by simp)
 .rw[key,Yz];rfl
 .simp only[wp,hk,ul,wn,u5 hk,Yz,gh hz (hb _ (zh hk))];rw[o5];exact⟨rfl,NQ hz _⟩
theorem Mt(s:b6)(ds:List Int){k:Nat}(hk:k<ds.length):oi s (ds.take (k+1))=wo (oi s (ds.take k)) ds[k]:=by
 unfold oi;rw[U4 hk,zal];rfl
section
variable{y:Hp}(hR:SR y.S){ds:List Int}(hn:ds.Nodup)(hm:∀d∈ds,d∈lv y.S)
include hR hn hm
theorem yi{k:Nat}(hk:k<ds.length):SR (oi y.S (ds.take k))/\ds[k]∈lv (oi y.S (ds.take k)):=by
 have g:=eH (ds.take k) hR ((zb8 k ds).nodup hn) λd hd=>hm d (zad hd);refine⟨g.sr,?_⟩;rw[g.lv,zk,zF];refine⟨hm _ (zh hk),λq=>?_⟩;rw[<-zb3 k ds,zbs] at hn;exact hn.2.2 _ q ds[k] (by rw[List.drop_eq_getElem_cons hk];exact zg ..) rfl
theorem Kj(hl:ds.length<=1000){K:Hp->Option Hp}:((lp (S:=Int × b9) (E:=b9) (λ((s42,s43):Int × b9)=>
    if (decide (s42<(ds.length:Int))) then
     (ix ds s42).bind λv46=>
     (aZ s43 v46).bind λv47=>
     some (.inl (w9 (s42+1),v47))
    else
    some (.inr s43)) (0,y)).bind K)=K (wS y (oi y.S ds)):=by
 have key:=jA (f:=λ((s42,s43):Int × b9)=>
    if (decide (s42<(ds.length:Int))) then
     (ix ds s42).bind λv46=>
     (aZ s43 v46).bind λv47=>
     some (Sum.inl (w9 (s42+1),v47))
    else
    some (.inr s43)) (t0:=y) ds.length (λk z=>z=wS y (oi y.S (ds.take k))) (λz=>z=wS y (oi y.S ds)) (by omega) rfl ?_ ?_
 .obtain⟨e,h1,h2⟩:=key;rw[h1,Yz,h2]
 .rintro k z hk rfl;left;obtain⟨h1,h2⟩:=yi hR hn hm hk;simp only[wp,hk,ul,wn,u5 hk,Yz,Kk (x:=wS y (oi y.S (ds.take k))) h1 h2];rw[o5,Mt _ _ hk];exact⟨_,rfl,rfl⟩
 .rintro z rfl;exact⟨_,za (by simp),by rw[zU]⟩
end
section
variable{x:Hp}(hx:K0 x){ds:List Int}(hn:ds.Nodup)(hm:∀d∈ds,d∈lv x.S)
include hx hn hm
theorem Gp:ds.length<=24:=zO (Z3 hn hm) (K9 (A2.2 hx.sh.sr))
theorem Ie{d:Int}(hd:d∈lv x.S):(ob x.S d).Fields.length<=4:=(J9 hx.sh.sr hd).fl
theorem IM{d:Int}(hd:d∈lv x.S):(outs x.S d).length<=4:=zO (Ng _) (Ie hx hn hm hd)
theorem uM:∀(l:List Int),(∀d∈l,d∈lv x.S)->(l.flatMap (outs x.S)).length<=4*l.length
 | [],_=>by simp
 | d::l,h=>by
  rw[zbg,zL,zH];have:=uM l λe he=>h e (zn _ he);have:=IM hx hn hm (h d (zg ..));omega
theorem QU:∀v∈ds.flatMap (outs x.S)++(lf x.T ds).2,v<=9223372036854775807:=λv hv=>by
 rcases zu.1 hv with q | q
 .obtain⟨d,hd,q⟩:=ms.1 q;obtain⟨q,_⟩:=fZ.1 q;rcases hx.sh.fl d (hm d hd) v q with e | e
  .omega
  .exact qO hx.sh.sr e
 .by_cases h0:v=0
  .omega
  .have hl:=Gp hx hn hm;have h3:=(jQ hx.sh.hr ds (by omega)).2.2.2.2.2 v;have h4:=iZ.2 ⟨h0,q⟩;have h5:0<own x.T v:=by omega
   obtain⟨p,hp,hq⟩:=zbw.1 h5;have hq:(v != 0&&p.Val==v)=true:=hq;rw[zy,pu] at hq;have:=(hx.sh.pr _ _ (cg.1 hp)).2;rw[hq.2] at this;exact qO hx.sh.sr this
theorem Nu:(ds.flatMap (outs x.S)++(lf x.T ds).2).length<=200:=by
 have hl:=Gp hx hn hm;have h1:=uM hx hn hm ds hm;have h2:=(jQ hx.sh.hr ds (by omega)).2.2.1;rw[zL];omega
theorem HT(hq:(x.Q.L++jr x.b7 ds).length<=30){l:List Int}(h1:Z6 x l=some ds):bQ x l=some (gK x ds):=by
 have hl:=Gp hx hn hm;have hR:=hx.sh.sr;obtain⟨w1,w2,w3,w4,w5,w6⟩:=jQ hx.sh.hr ds (by omega);have ol:=Nu hx hn hm;have fl:=uM hx hn hm ds hm;unfold bQ;rw[h1,Yz,Gi (by have:=hx.sh.c6;omega) (by omega) hq hx.sh.cap,Yz];simp only[jn];have key:=U7 ds (λb d=>b++outs x.S d) id (λk b=>b.length<=4*k) (b0:=[]) (f:=λ((s49,s50):Int × (List Int))=>
   if (decide (s49<(ds.length:Int))) then
    (ix ds s49).bind λv53=>
    (y5 (La x ds).S v53).bind λv54=>
    (jk v54.1.Fields).bind λv55=>
    (app 8 s50 v55).bind λv56=>
    some (Sum.inl (w9 (s49+1),v56))
   else
   some (.inr s50)) (by omega) (by simp) (λk hk b hb=>?_) (λb hb=>by simp)
 .rw[key,Yz,rv,zcg];dsimp only[id];rw[show (La x ds).T=x.T from rfl,w1,Yz];have ol2:=ol;rw[zL] at ol2;rw[K5 (by omega) (by omega),Yz];have k1:=Kj (y:=⟨(La x ds).S,(La x ds).Roots,(La x ds).b7,(lf x.T ds).1,(La x ds).Q⟩) hR hn hm (by omega) (K:=λe=>(lp (S:=Int × b9) (E:=b9) (λ((s35,s36):Int × b9)=>
     if (decide (s35<((ds.flatMap (outs x.S)++(lf x.T ds).2).length:Int))) then
      (ix (ds.flatMap (outs x.S)++(lf x.T ds).2) s35).bind λv39=>
      (E2 s36 v39).bind λv40=>
      some (.inl (w9 (s35+1),v40))
     else
     some (.inr s36)) (0,e)).bind λe34=>some e34)
  refine zct k1 ?_;have g:=eH ds hR hn hm;have k2:=Dg (y:=wS (⟨(La x ds).S,(La x ds).Roots,(La x ds).b7,(lf x.T ds).1,(La x ds).Q⟩:Hp) (oi x.S ds)) g.sr _ (by omega) (QU hx hn hm) (K:=λe34=>some e34);refine zct k2 ?_;rfl
 .have hd:=hm _ (zh hk);have f4:=Ie hx hn hm hd;have o4:=IM hx hn hm hd;simp only[wp,hk,ul,wn,u5 hk,Yz,show (La x ds).S=x.S from rfl,xZ hR hd,EI _ (by omega:(ob x.S ds[k]).Fields.length<=1000000)];have e:nz (ob x.S ds[k]).Fields=outs x.S ds[k]:=rfl;rw[e,K5 (by omega) (by omega),Yz,o5];exact⟨rfl,by rw[zL];omega⟩
end
theorem PE{x:Hp}(hR:SR x.S)(hS:SL x){ds:List Int}(hn:ds.Nodup)(hm:∀d∈ds,d∈lv x.S)(t:Tb):SL (jo x ds t):=λk hk=>by
 have g:=eH ds hR hn hm;have hk:k∈lv (oi x.S ds):=hk;rw[g.lv,zk,zF] at hk;have e:ob (jo x ds t).S k=ob x.S k:=g.ob k hk.1 hk.2;rw[e];exact hS k hk.1
theorem LG{x:Hp}(hR:SR x.S)(hS:SL x){ds:List Int}(hn:ds.Nodup)(hm:∀d∈ds,d∈lv x.S):SL (gK x ds):=
 Dj _ (x:=jo x ds (lf x.T ds).1) (eH ds hR hn hm).sr (PE hR hS hn hm _)
theorem NK{x:Hp}(hR:SR x.S)(hS:SL x){h:Int}(hh:h∈lv x.S):SL (gF x h):=by
 have hok:=Jl hR hh;have r1:=bP (o:=fA (ob x.S h)) hR hh rfl hok;refine SL.E7 (x:=⟨cU x.S h (fA (ob x.S h)),x.Roots,x.b7,x.T,⟨x.Q.L ++ [Aw x h],x.Q.Cap⟩⟩) (λk hk=>?_) r1 h;dsimp only at hk |-;rw[iD (o:=fA (ob x.S h)) hR hh rfl hok] at hk;rw[gi (o:=fA (ob x.S h)) hR hh rfl hok (qO hR hk)];split;·exact hS h hh
 .exact hS k hk
theorem Vj{x:Hp}(hx:K0 x)(hS:SL x):SL (FO x):=by
 cases h:zr x with
 | nil=>rw[ny h];exact hS
 | cons z l=>
  have hz:=(cT.1 (show z∈zr x by rw[h];exact zg ..)).1;rw[jN h];split;·exact NK hx.sh.sr hS hz
  .exact LG hx.sh.sr hS (by simp) (by simpa using hz)
theorem Hi{x:Hp}(hx:K0 x)(hS:SL x)(n:Nat):SL (oe n x):=by
 induction n with
 | zero=>exact hS
 | succ n ih=>rw[fB];exact Vj (P5 hx n) ih
theorem Jk{x:Hp}(hx:K0 x)(hS:SL x):SL (bA x):=Hi hx hS 100
section
variable{x:Hp}(hx:K0 x)(hS:SL x)
include hx hS
theorem KZ{z:Int}(hz:z∈zr x):(x.Q.L++jr x.b7 [z]).length<=30:=by
 have h1:=(Aq hx hz).sh.q30;have hzl:=(cT.1 hz).1;rw[(sq hx.sh.sr (ds:=[z]) (by simp) (by simpa using hzl)).2.2.2] at h1;exact h1
theorem KK(h:zr x = []):((dW x).bind λv4=>
  if ((v4.length:Int)==0) then
   some (Sum.inr x)
  else
  (ix v4 0).bind λv5=>
  (y5 x.S v5).bind λv6=>
  (O9 v6.1).bind λv7=>
  if v7 then
   (W9 x v5).bind λv8=>
   some (.inl v8)
  else
  (cut v4 0 1).bind λv9=>
  (bQ x v9).bind λv10=>
  some (Sum.inl (α:=Hp) (β:=Hp) v10))=some (.inr x):=by
 rw[zero_eq hx.sh.sr,Yz,h];rfl
theorem Xy(z:Int)(l:List Int):cut (z::l) 0 1=some [z]:=by
 unfold cut;rw[zb (by simp;omega)];simp
theorem Ha(h:zr x ≠ []):((dW x).bind λv4=>
  if ((v4.length:Int)==0) then
   some (Sum.inr x)
  else
  (ix v4 0).bind λv5=>
  (y5 x.S v5).bind λv6=>
  (O9 v6.1).bind λv7=>
  if v7 then
   (W9 x v5).bind λv8=>
   some (.inl v8)
  else
  (cut v4 0 1).bind λv9=>
  (bQ x v9).bind λv10=>
  some (Sum.inl (α:=Hp) (β:=Hp) v10))=some (.inl (FO x)):=by
 cases hz:zr x with
 | nil=>exact absurd hz h
 | cons z l=>
  have hzm:z∈zr x:=by rw[hz];exact zg ..
  have hzl:=(cT.1 hzm).1;have hR:=hx.sh.sr;rw[zero_eq hR,Yz,hz,za (by simp;omega),show ix (z::l) 0=some z from rfl,Yz,xZ hR hzl,Yz,IQ,Yz,jN hz];by_cases hd:due (ob x.S z)=true
  .rw[zb hd,zb hd,BF hx hS (qO hR hzl),Yz];unfold Xq;rw[zb ⟨hzl,hd⟩]
  .rw[za hd,za hd,Xy hx hS,Yz,HT hx (ds:=[z]) (by simp) (by simpa using hzl) (KZ hx hS hzm) (by rw[tv hR [z] (by simp) (by simpa using qO hR hzl),MO hzl]),Yz]
theorem jh:R5 x=some (bA x):=by
 obtain⟨n,hn,h1,h2,h3⟩:=vp hx;unfold R5;refine lC (λj=>oe j x) rfl n (λ_=>True) (by omega) trivial (λk hk _=>.inl ⟨?_,trivial⟩) (λ_=>⟨oe n x,?_,by rw[h3]⟩)
 .have:=Ha (P5 hx k) (Hi hx hS k) (h2 k hk);rw[<-fB] at this;exact this
 .exact KK (P5 hx n) (Hi hx hS n) h1
end
def M3(n l m e:Int):Int:=if n<l\/n > m then e else 0
def bH(a b c:Int):Int:=if a≠0 then a else if b≠0 then b else c
def y4(k a b c:Int):Int:=
 if k=1 then bH (M3 a 0 5 6) (M3 b 0 4 1) (M3 c (-1) 5 13)
 else if k=2\/k=9\/k=10 then bH (M3 a 0 5 6) (M3 b 0 5 6) 0
 else if k=3 then M3 a 0 5 6
 else if k=4 then bH (M3 a 0 5 6) (M3 b 0 5 6) (M3 c 0 3 5)
 else if k=5 then bH (M3 a 0 5 6) (M3 b 0 3 5) (M3 c (-1) 5 6)
 else if k=6 then bH (M3 a 0 5 7) (M3 b (-1) 5 6) (M3 c (-1) 5 13)
 else if k=7 then bH (M3 a 0 5 6) (M3 b 0 5 7) 0
 else if k=8 then bH (M3 a 0 5 6) (M3 b (-1) 5 6) 0
 else if k=11 then 0
 else if k=12 then M3 a 0 200 12
 else 14
def De:l7:=⟨some 251,0,5,6⟩
def Rf:l7:=⟨some 252,0,5,6⟩
def Wy:l7:=⟨some 252,-1,5,6⟩
def WI:l7:=⟨some 254,-1,5,13⟩
def vF:List (Int × List l7):=[(1,[De,⟨some 252,0,4,1⟩,WI]),(2,[De,Rf]),(3,[De]),(4,[De,Rf,⟨some 254,0,3,5⟩]),
 (5,[De,⟨some 252,0,3,5⟩,⟨some 254,-1,5,6⟩]),(6,[⟨some 251,0,5,7⟩,Wy,WI]),(7,[De,⟨some 252,0,5,7⟩]),(8,[De,Wy]),(9,[De,Rf]),(10,[De,Rf]),(11,[]),(12,[⟨some 251,0,200,12⟩])]
theorem Gm:mK=some vF:=by kernel_rfl
def gX(o:j5)(d:l7):Int:=if d.part=some 251 then o.A else if d.part=some 252 then o.B else o.C
def qC(o:j5)(d:l7):Bool:=decide (gX o d<d.least)||decide (gX o d > d.most)
def sQ(o:j5):List l7->Int ⊕ Unit
 | []=>.inr ()
 | d::ds=>if qC o d then .inl d.e else sQ o ds
theorem Eh(o:j5)(d:l7)(ds:List l7):sQ o (d::ds)=if qC o d then .inl d.e else sQ o ds:=rfl
def Hs(d:l7):Prop:=d.part=some 251\/d.part=some 252\/d.part=some 254
theorem UE(o:j5){d:l7}(h:Hs d):sU d.part o=some (gX o d):=by
 unfold gX;rcases h with h | h | h
 .rw[h];rfl
 .rw[h];rfl
 .rw[h];rfl
theorem TY(o:j5)(ds:List l7)(hl:ds.length<=10)(hp:∀d∈ds,Hs d):lp (S:=Int) (E:=Int ⊕ Unit) (λ(s11:Int)=>
   if (decide (s11<(ds.length:Int))) then
    (ix ds s11).bind λv13=>
    (sU v13.part o).bind λv14=>
    if ((decide (v14<v13.least))||(decide (v14 > v13.most))) then
     some (.inr (.inl v13.e))
    else
    some (.inl (w9 (s11+1)))
   else
   some (.inr (.inr ()))) 0=some (sQ o ds):=by
 refine qh (Bu ds.length (λk=>sQ o ds=sQ o (ds.drop k)) (λe=>e=sQ o ds) (by omega) rfl (λk hk hP=>?_) (λhP=>?_))
 .rw[zb (by simpa using hk),u5 hk,Yz,UE o (hp _ (zh hk)),Yz];rw[List.drop_eq_getElem_cons hk,Eh] at hP;by_cases c:qC o ds[k]=true
  .rw[zb (show ((decide (gX o ds[k]<ds[k].least))||(decide (gX o ds[k] > ds[k].most)))=true from c)];rw[zb c] at hP;exact .inr ⟨_,rfl,hP.symm⟩
  .rw[za (show ¬((decide (gX o ds[k]<ds[k].least))||(decide (gX o ds[k] > ds[k].most)))=true from c),o5];rw[za c] at hP;exact .inl ⟨rfl,hP⟩
 .rw[List.drop_length] at hP;exact⟨_,za (by simp),hP.symm⟩
theorem PR:∀p∈vF,p.2.length<=10/\∀d∈p.2,Hs d:=by
 have:vF.all (λp=>decide (p.2.length<=10)&&p.2.all λd=>(d.part==some 251)||(d.part==some 252)||(d.part==some 254))=true:=by kernel_rfl
 intro p hp;have:=zf.1 this p hp;rw[zy,zF,zf] at this;refine⟨this.1,λd hd=>?_⟩;have:=this.2 d hd;simp only[zbu,pu] at this;unfold Hs;rcases this with (h | h) | h
 .exact .inl h
 .exact .inr (.inl h)
 .exact .inr (.inr h)
theorem ID{m:List (Int × List l7)}{k:Int}{v:List l7}(h:z8 m k=some v):(k,v)∈m:=by
 induction m with
 | nil=>cases h
 | cons p m ih=>
  unfold z8 at h;split at h
  .rename_i c;have:k=p.1:=by simpa using c
   cases h;subst this;exact zg ..
  .exact zn _ (ih h)
def uk(o:j5)(ds:List l7):Int:=match sQ o ds with
 | .inl e=>e
 | .inr _=>0
theorem RM(o:j5):uk o []=0:=rfl
theorem um(o:j5)(d:l7)(ds:List l7):uk o (d::ds)=if qC o d then d.e else uk o ds:=by
 unfold uk;rw[Eh];cases qC o d <;> rfl
theorem CC(o:j5)(d:l7):M3 (gX o d) d.least d.most d.e=if qC o d then d.e else 0:=by
 unfold M3 qC;by_cases h:gX o d<d.least\/gX o d > d.most
 .rw[zb h,zb (by simpa using h)]
 .rw[za h,za (by simpa using h)]
theorem RK(o:j5)(d:l7):uk o [d]=M3 (gX o d) d.least d.most d.e:=by rw[um,RM,CC]
theorem Ot(o:j5)(d e:l7)(h1:d.e≠0):uk o [d,e]=bH (M3 (gX o d) d.least d.most d.e) (M3 (gX o e) e.least e.most e.e) 0:=by
 rw[um,RK,CC o d];unfold bH;cases qC o d
 .simp only[zC,t8,ne_eq,not_true_eq_false];split;·rfl
  .rename_i h;simpa using h
 .simp[h1]
theorem RL(o:j5)(d e f:l7)(h1:d.e≠0)(h2:e.e≠0):uk o [d,e,f]=bH (M3 (gX o d) d.least d.most d.e) (M3 (gX o e) e.least e.most e.e) (M3 (gX o f) f.least f.most f.e):=by
 rw[um,um,RK,CC o d,CC o e];unfold bH;cases qC o d <;> cases qC o e <;> simp[h1,h2]
theorem MJ(o:j5):(match z8 vF o.Kind with
  | none=>14
  | some ds=>uk o ds)=y4 o.Kind o.A o.B o.C:=by
 obtain⟨k,a,b,c⟩:=o;dsimp only;by_cases h:1<=k/\k<=12
 .have:k=1\/k=2\/k=3\/k=4\/k=5\/k=6\/k=7\/k=8\/k=9\/k=10\/k=11\/k=12:=by omega
  rcases this with rfl | rfl | rfl | rfl | rfl | rfl | rfl | rfl | rfl | rfl | rfl | rfl
  .exact RL _ _ _ _ (by decide) (by decide)
  .exact Ot _ _ _ (by decide)
  .exact RK _ _
  .exact RL _ _ _ _ (by decide) (by decide)
  .exact RL _ _ _ _ (by decide) (by decide)
  .exact RL _ _ _ _ (by decide) (by decide)
  .exact Ot _ _ _ (by decide)
  .exact Ot _ _ _ (by decide)
  .exact Ot _ _ _ (by decide)
  .exact Ot _ _ _ (by decide)
  .rfl
  .exact RK _ _
 .have e:z8 vF k=none:=by
   cases hm:z8 vF k with
   | none=>rfl
   | some v=>
    have:=ID hm;simp only[vF,zM,Prod.mk.injEq,zcl,or_false] at this;omega
  rw[e];unfold y4;repeat rw[za (by omega)]
theorem ov(o:j5):W1 o=some (y4 o.Kind o.A o.B o.C):=by
 rw[<-MJ];unfold W1;rw[Gm,Yz];cases h:z8 vF o.Kind with
 | none=>rfl
 | some ds=>
  obtain⟨h1,h2⟩:=PR _ (ID h);rw[za (by simp)];simp only[jn,ww];rw[TY o ds h1 h2,Yz];unfold uk;cases sQ o ds <;> rfl
theorem Qh(n l m e:Int):dJ n l m e=some (M3 n l m e):=by
 unfold dJ M3;by_cases h:n<l\/n > m
 .rw[zb h,zb (by simpa using h)]
 .rw[za h,za (by simpa using h)]
theorem Ml(a b c:Int):cr a b c=some (bH a b c):=by
 unfold cr bH;by_cases h:a=0
 .by_cases g:b=0
  .rw[za (by simpa using h),za (by simpa using g),za (by simpa using h),za (by simpa using g)]
  .rw[za (by simpa using h),zb (by simpa using g),za (by simpa using h),zb (by simpa using g)]
 .rw[zb (by simpa using h),zb (by simpa using h)]
theorem HW(o:fp):gb o=some (y4 o.Kind o.A o.B o.C):=by
 unfold gb y4;simp only[Qh,Ml,Yz,jn];by_cases h:1<=o.Kind/\o.Kind<=12
 .have:o.Kind=1\/o.Kind=2\/o.Kind=3\/o.Kind=4\/o.Kind=5\/o.Kind=6\/o.Kind=7\/o.Kind=8\/o.Kind=9\/o.Kind=10\/o.Kind=11\/o.Kind=12:=by omega
  rcases this with h | h | h | h | h | h | h | h | h | h | h | h <;> rw[h] <;> rfl
 .have n:∀j:Int,1<=j->j<=12->(o.Kind==j)=false:=λj h1 h2=>by
   rw[beq_eq_false_iff_ne];omega
  simp only[n 1 (by omega) (by omega),n 2 (by omega) (by omega),n 3 (by omega) (by omega),n 4 (by omega) (by omega),n 5 (by omega) (by omega),n 6 (by omega) (by omega),n 7 (by omega) (by omega),n 8 (by omega) (by omega),n 9 (by omega) (by omega),n 10 (by omega) (by omega),n 11 (by omega) (by omega),n 12 (by omega) (by omega),zC,t8];repeat rw[za (by omega)]
theorem Ro{x:Hp}(hx:K0 x){ds:List Int}:(x.Q.L++jr x.b7 ds).length<=30:=by
 have hS:=hx.sh;have c6:=hS.c6;have h24:(lv x.S).length<=24:=K9 (A2.2 hS.sr);have htd:(x.Q.L++jr x.b7 ds).Pairwise λa b=>¬(a.Kind=b.Kind/\a.At=b.At):=by
  rw[zar];refine⟨hS.td,Bc ..,λa ha b hb q=>?_⟩;obtain⟨w,hw,rfl,hh,_⟩:=gB.1 hb;have hi:x.b7[w].Intact=true:=by
   unfold iO at hh;rw[zy,zy] at hh;exact hh.1.1
  have:=((hS.cl w hw).2.2.2.2 hi).2;rw[zbj] at this;exact this (gJ.2 ⟨a,ha,q.1,q.2⟩)
 have:=Aa (m:=lv x.S) htd λt ht=>by
  rcases zu.1 ht with q | q
  .rcases (hS.tk t q).2.2 with c | c
   .exact .inl ⟨c.1,c.2.1⟩
   .exact .inr c
  .obtain⟨w,hw,rfl,_,_⟩:=gB.1 q;exact .inr ⟨rfl,by dsimp only;omega,by dsimp only;omega⟩
 omega
section
variable{x:Hp}(hB:HB x)
include hB
end
structure DP (x y:Hp):Prop where
 lv:∀h∈lv y.S,h∈lv x.S
 aH:y.S.Serial=x.S.Serial
 len:y.S.S.b7.length=x.S.S.b7.length
 ob:∀h∈Sh.lv y.S,(ob y.S h).Serial=(ob x.S h).Serial/\(Sh.ob y.S h).Prog=(Sh.ob x.S h).Prog/\(Sh.ob y.S h).Fields=(Sh.ob x.S h).Fields/\((Sh.ob x.S h).Started=true->(Sh.ob y.S h).Started=true)
 rt:y.Roots=x.Roots
 cn:y.b7.length=x.b7.length
 cl:∀i (h:i<y.b7.length) (h':i<x.b7.length),y.b7[i]=⟨x.b7[i].Target,x.b7[i].Intact&&decide (x.b7[i].Target∈Sh.lv y.S),x.b7[i].Call⟩
 q:∃l,y.Q=⟨x.Q.L++l,x.Q.Cap⟩/\(∀t∈l,t.Kind=1->t.At∈Sh.lv x.S/\(Sh.ob x.S t.At).Started=false)/\∀h∈Sh.lv y.S,(Sh.ob y.S h).Started=true->(Sh.ob x.S h).Started=false->∃t∈l,t.Kind=1/\t.At=h
 rc:∀h,bb x.S x.T (nZ x) h->bb y.S y.T (nZ y) h
 has:∀k v,Has y.T k v->Has x.T k v
theorem DP.refl{x:Hp}(hx:jY x):DP x x:=by
 refine⟨λ_ h=>h,rfl,rfl,λh _=>⟨rfl,rfl,rfl,id⟩,rfl,rfl,λi h h'=>?_,⟨[],by simp,by simp,λh _ a b=>?_⟩,λ_ h=>h,λ_ _ h=>h⟩
 .have:=(hx.cl i h).2.2.2.2;cases hI:x.b7[i].Intact;·rw[Bool.false_and,<-hI]
  .rw[zD (this hI).1,Bool.and_self,<-hI]
 .rw[a] at b;cases b
theorem DP.trans{x y z:Hp}(a:DP x y)(b:DP y z):DP x z:=by
 obtain⟨l1,q1,q2,q3⟩:=a.q;obtain⟨l2,r1,r2,r3⟩:=b.q;refine⟨λh hh=>a.lv h (b.lv h hh),b.aH.trans a.aH,b.len.trans a.len,λh hh=>?_,b.rt.trans a.rt,b.cn.trans a.cn,λi h h'=>?_,⟨l1++l2,?_,λt ht hk=>?_,λh hh s1 s2=>?_⟩,λh hh=>b.rc h (a.rc h hh),λk v hh=>a.has k v (b.has k v hh)⟩
 .obtain⟨b1,b2,b3,b4⟩:=b.ob h hh;obtain⟨a1,a2,a3,a4⟩:=a.ob h (b.lv h hh);exact⟨b1.trans a1,b2.trans a2,b3.trans a3,λq=>b4 (a4 q)⟩
 .have hy:i<y.b7.length:=by rw[a.cn];exact h'
  rw[b.cl i h hy,a.cl i hy h'];dsimp only;congr 1;rw[Bool.and_assoc];congr 1;by_cases q:x.b7[i].Target∈Sh.lv z.S
  .rw[zD q,zD (b.lv _ q)];rfl
  .rw[zY q,Bool.and_false]
 .rw[r1,q1,zag]
 .rcases zu.1 ht with q | q
  .exact q2 t q hk
  .obtain⟨e1,e2⟩:=r2 t q hk;refine⟨a.lv _ e1,?_⟩;cases hs:(Sh.ob x.S t.At).Started;·rfl
   .rw[(a.ob _ e1).2.2.2 hs] at e2;cases e2
 .cases hs:(Sh.ob y.S h).Started
  .obtain⟨t,ht,e⟩:=r3 h hh s1 hs;exact⟨t,t6 _ ht,e⟩
  .obtain⟨t,ht,e⟩:=q3 h (b.lv h hh) hs s2;exact⟨t,ut _ ht,e⟩
theorem Ji(s:b6)(h:Int)(o:n9):(cU s h o).S.b7.length=s.S.b7.length:=J2 ..
theorem Rb{x:Hp}(hx:K0 x){z:Int}(hz:z∈lv x.S)(hs:(ob x.S z).Started=false):DP x (gF x z):=by
 have hR:=hx.sh.sr;obtain⟨k,e1,e2,e3,e4⟩:=nf hR hz;have l1:=CZ hR hz;have hob:∀h∈lv x.S,(ob (gF x z).S h).Serial=(ob x.S h).Serial/\(ob (gF x z).S h).Prog=(ob x.S h).Prog/\(ob (gF x z).S h).Fields=(ob x.S h).Fields/\((ob (gF x z).S h).Started=true↔(ob x.S h).Started=true\/h=z):=λh hh=>by
  obtain⟨n,e⟩:=yA hR hz hh;rw[e];by_cases q:h=z
  .subst q;rw[zb rfl];exact⟨rfl,rfl,rfl,by simp⟩
  .rw[za q];exact⟨rfl,rfl,rfl,by simp[q]⟩
 have hot:∀h∈nZ x,h∈nZ (gF x z):=λh hh=>by
  unfold nZ at hh |-;rw[e1,e4];rcases zu.1 hh with q | q
  .exact ut _ q
  .refine t6 _ ?_;obtain⟨t,ht,a,b⟩:=lE.1 q;exact lE.2 ⟨t,ut _ ht,a,b⟩
 have rf:=DP.refl hx.sh;refine⟨λh hh=>by rw[l1] at hh;exact hh,k.aH,k.len.trans (Ji ..),λh hh=>?_,e1,by rw[e2],λi h h'=>?_,⟨[Aw x z],by rw[e4],λt ht hk=>?_,λh hh s1 s2=>?_⟩,λh hh=>?_,λk v hh=>by rw[e3] at hh;exact hh⟩
 .rw[l1] at hh;obtain⟨a,b,c,d⟩:=hob h hh;exact⟨a,b,c,λq=>d.2 (.inl q)⟩
 .have e5:(gF x z).b7[i]=x.b7[i]:=by simp only[e2]
  rw[e5,l1];exact rf.cl i h' h'
 .rw[zp] at ht;subst ht;exact⟨hz,hs⟩
 .rw[l1] at hh;rcases (hob h hh).2.2.2.1 s1 with q | q
  .rw[q] at s2;cases s2
  .exact⟨Aw x z,List.mem_singleton_self _,rfl,q.symm⟩
 .induction hh with
  | base h1 h2=>exact .base (hot _ h1) (by rw[l1];exact h2)
  | step h0 h1 h2 ih=>
   refine .step ih ?_ (by rw[l1];exact h2);unfold outs at h1 |-;rw[(hob _ h0.live).2.2.1];exact h1
  | pair h1 h0 h2 ih=>exact .pair (by rw[e3];exact h1) ih (by rw[l1];exact h2)
theorem PF{x:Hp}(hx:K0 x){z:Int}(hz:z∈zr x):DP x (gK x [z]):=by
 have hR:=hx.sh.sr;have hzl:=(cT.1 hz).1;have h0:z≠0:=λe=>eP hR (e▸hzl);have hfree:=DI hx hz;have hn:([z]:List Int).Nodup:=by simp
 have hm:∀d ∈ [z],d∈lv x.S:=by simpa using hzl
 have g:=eH [z] hR hn hm;have k:=(hU ([z].flatMap (outs x.S)++(lf x.T [z]).2) (x:=jo x [z] (lf x.T [z]).1) g.sr).1;obtain⟨e1,e2,e3,e4⟩:=sq hR hn hm;obtain⟨_,w2,_,_,w5,w6⟩:=jQ hx.sh.hr [z] (by simp);have l1:∀h,h∈lv (gK x [z]).S↔h∈lv x.S/\h≠z:=λh=>by
  rw[Gb hR hn hm,zk,zF,zp]
 have hob:∀h∈lv (gK x [z]).S,(ob (gK x [z]).S h).Serial=(ob x.S h).Serial/\(ob (gK x [z]).S h).Prog=(ob x.S h).Prog/\(ob (gK x [z]).S h).Fields=(ob x.S h).Fields/\(ob (gK x [z]).S h).Started=(ob x.S h).Started:=λh hh=>by
  obtain⟨a,b⟩:=(l1 h).1 hh;obtain⟨n,e⟩:=Gc hR hn hm a (by simpa using b);rw[e];exact⟨rfl,rfl,rfl,rfl⟩
 refine⟨λh hh=>((l1 h).1 hh).1,k.aH.trans g.aH,k.len.trans g.len,λh hh=>?_,e1,by rw[e2];simp[lk],λi h h'=>?_,⟨jr x.b7 [z],by rw[e4],λt ht hk=>?_,λh hh s1 s2=>?_⟩,λh hh=>?_,λk v hh=>?_⟩
 .obtain⟨a,b,c,d⟩:=hob h hh;exact⟨a,b,c,λq=>d.trans q⟩
 .have e5:(gK x [z]).b7[i]=ra [z] x.b7[i]:=by
   simp only[e2];exact t7 _
  rw[e5];have hc:=(hx.sh.cl i h').2.2.2.2;unfold ra iO;cases hI:x.b7[i].Intact;·rw[za (by simp),Bool.false_and,<-hI]
  .have ht:=(hc hI).1;have ht0:x.b7[i].Target≠0:=λe=>eP hR (e▸ht);by_cases q:x.b7[i].Target=z
   .rw[zb (by simp[q,h0]),zY (λr=>((l1 _).1 r).2 q)];rfl
   .rw[za (by simp[q]),zD ((l1 _).2 ⟨ht,q⟩),Bool.and_self,<-hI]
 .obtain⟨w,hw,rfl,_,_⟩:=gB.1 ht;simp at hk
 .rw[(hob h hh).2.2.2,s2] at s1;cases s1
 .unfold lK at hfree;have key:bb (gK x [z]).S (gK x [z]).T (nZ (gK x [z])) h/\h≠z:=by
   induction hh with
   | base h1 h2=>
    rename_i a;have hne:a≠z:=λe=>by
     subst e;exact Fu h0 (by omega:Q0 (nZ x) a=0) h1
    refine⟨.base ?_ ((l1 _).2 ⟨h2,hne⟩),hne⟩;unfold nZ at h1 |-;rw[e1,e4,yb _ _ _ λt ht=>by
     obtain⟨w,_,rfl,_⟩:=gB.1 ht;simp]
    exact h1
   | step q0 q1 q2 ih=>
    rename_i a b;have hne:b≠z:=λe=>by
     subst e;have:=CE (y:=b) q0.live;have h1:=iZ.2 ⟨h0,q1⟩;omega
    refine⟨.step ih.1 ?_ ((l1 _).2 ⟨q2,hne⟩),hne⟩;unfold outs at q1 |-;rw[(hob _ ((l1 _).2 ⟨q0.live,ih.2⟩)).2.2.1];exact q1
   | pair q1 q0 q2 ih=>
    rename_i a b;have hne:b≠z:=λe=>by
     subst e;have:=CU q1 h0;omega
    exact⟨.pair (by rw[e3];exact (w5 _ _).2 ⟨by simpa using ih.2,q1⟩) ih.1 ((l1 _).2 ⟨q2,hne⟩),hne⟩
  exact key.1
 .rw[e3] at hh;exact ((w5 _ _).1 hh).2
theorem RB{x:Hp}(hx:K0 x):DP x (FO x):=by
 cases h:zr x with
 | nil=>rw[ny h];exact DP.refl hx.sh
 | cons z l=>
  have hz:z∈zr x:=by rw[h];exact zg ..
  rw[jN h];split
  .rename_i q;unfold due at q;rw[zy,zF,zb7] at q;exact Rb hx (cT.1 hz).1 q.2
  .exact PF hx hz
theorem Rz{x:Hp}(hx:K0 x)(n:Nat):DP x (oe n x):=by
 induction n with
 | zero=>exact DP.refl hx.sh
 | succ n ih=>rw[fB];exact ih.trans (RB (P5 hx n))
theorem lY{x:Hp}(hx:K0 x):DP x (bA x):=Rz hx 100
theorem Qv{T E R:Type}{f:T × Int->Option ((T × Int) ⊕ E)}{t0:T}{κ:E->Option R}{r:R}(n:Nat)(P:Nat->T->Prop)(hn:n<4611686018427387904)(h0:P 0 t0)
  (hs:∀k t,k<n->P k t->∃t',f (t,(k:Int))=some (.inl (t',((k+1:Nat):Int)))/\P (k+1) t')(he:∀t,P n t->∃e,f (t,(n:Int))=some (.inr e)/\κ e=some r):(lp f (t0,0)).bind κ=some r:=by
 refine Qu (λ(s:T × Int)=>∃k:Nat,s.2=(k:Int)/\k<=n/\P k s.1) (λs=>n-s.2.toNat) ⟨0,rfl,zV _,h0⟩ (by show n-_<_;omega) ?_;rintro⟨t,_⟩ ⟨k,rfl,hk,hP⟩;rcases zE k n with h1 | h1
 .obtain⟨t',k1,k2⟩:=hs k t h1 hP;exact .inl ⟨_,k1,⟨k+1,rfl,h1,k2⟩,by show n-_<n-_;simp;omega⟩
 .have:k=n:=by omega
  subst this;exact .inr (he t hP)
section
variable{x:Hp}(hB:HB x)
include hB
end
structure Ks (s s':b6):Prop where
 sr:SR s'
 aH:s'.Serial=s.Serial
 lv:lv s'=lv s
 ob:∀h∈Sh.lv s,(ob s' h).Serial=(ob s h).Serial
theorem Ks.refl{s:b6}(hR:SR s):Ks s s:=⟨hR,rfl,rfl,λ_ _=>rfl⟩
theorem Ks.trans{a b c:b6}(h:Ks a b)(q:Ks b c):Ks a c:=⟨q.sr,q.aH.trans h.aH,q.lv.trans h.lv,λk hk=>(q.ob k (by rw[h.lv];exact hk)).trans (h.ob k hk)⟩
theorem vB.ks{s s':b6}(hR:SR s)(k:vB s s'):Ks s s':=⟨k.sr,k.aH,k.lv,λh hh=>by
 obtain⟨n,e⟩:=k.ob h (by have:=H6 hR hh;omega);rw[e]⟩
theorem Kn.ks{s s':b6}(k:Kn s s')(e:s'.Serial=s.Serial):Ks s s':=⟨k.sr,e,k.lv,λh hh=>by
 obtain⟨n,m,e⟩:=k.ob h hh;rw[e]⟩
theorem UZ{s:b6}(hR:SR s){h:Int}(hh:h∈lv s){o:n9}(hs:o.Serial=(ob s h).Serial)(ho:As s o):Ks s (cU s h o):=⟨bP hR hh hs ho,rfl,iD hR hh hs ho,λk hk=>by
 rw[gi hR hh hs ho (by have:=H6 hR hk;omega)];split;·rename_i e;subst e;exact hs
 .rfl⟩
theorem Dp{x:Hp}(hR:SR x.S)(h:Int):Ks x.S (E7 x h).S:=(H8 hR h λc=>E6).ks hR
theorem Dk{x:Hp}(hR:SR x.S)(h:Int):Ks x.S (aD x h).S:=(H8 hR h λc=>P2).ks hR
theorem yJ(x:Hp)(h:Int):(aD x h).Roots=x.Roots/\(aD x h).b7=x.b7/\(aD x h).T=x.T/\(aD x h).Q=x.Q:=yV x h kP
theorem dd{x:Hp}(hR:SR x.S)(r:Nat)(h:Int):Ks x.S (G2 x r h).S:=
 (Dp hR h).trans (Dk (x:=wR (E7 x h) (x.Roots.set r h)) (jK hR h) _)
theorem Bf{x:Hp}(hR:SR x.S){h:Int}(hh:h∈lv x.S){n:Nat}(hn:n<(ob x.S h).Fields.length)(v:Int):Ks x.S (bG x h n v).S:=by
 have k1:=Dp hR v;have hh1:h∈lv (E7 x v).S:=by rw[k1.lv];exact hh
 have hof:(ob (E7 x v).S h).Fields=(ob x.S h).Fields:=by
  obtain⟨n,e⟩:=(H8 hR v (f:=Y9) λc=>E6).ob h (by have:=H6 hR hh;omega);show (ob (uf x v Y9).S h).Fields=_;rw[e]
 have ho:As (E7 x v).S (rq (ob (E7 x v).S h) ((ob x.S h).Fields.set n v)):=by
  have:=J9 k1.sr hh1;refine⟨this.s1,this.s2,this.st,this.wk,this.p1,this.p2,?_⟩;have h4:=this.fl;rw[hof] at h4;simpa using h4
 have k2:=UZ (o:=rq (ob (E7 x v).S h) ((ob x.S h).Fields.set n v)) k1.sr hh1 rfl ho;exact (k1.trans k2).trans (Dk (x:=wS (E7 x v) (cU (E7 x v).S h (rq (ob (E7 x v).S h) ((ob x.S h).Fields.set n v)))) k2.sr _)
theorem oH(x:Hp)(h:Int)(n:Nat)(v:Int):(bG x h n v).Roots=x.Roots/\(bG x h n v).b7=x.b7/\(bG x h n v).T=x.T/\(bG x h n v).Q=x.Q:=by
 obtain⟨a,b,c,d⟩:=yJ (wS (E7 x v) (cU (E7 x v).S h (rq (ob (E7 x v).S h) ((ob x.S h).Fields.set n v)))) ((ob x.S h).Fields.getD n 0);obtain⟨a',b',c',d'⟩:=ua x v;exact⟨a.trans a',b.trans b',c.trans c',d.trans d'⟩
theorem EN{x:Hp}(hR:SR x.S)(v:Int)(t:Tb)(old:Int):Ks x.S (iJ x v t old).S:=
 (Dp hR v).trans (Dk (x:=wT (E7 x v) t) (jK hR v) old)
theorem rI(x:Hp)(v:Int)(t:Tb)(old:Int):(iJ x v t old).Roots=x.Roots/\(iJ x v t old).b7=x.b7/\(iJ x v t old).T=t/\(iJ x v t old).Q=x.Q:=by
 obtain⟨a,b,c,d⟩:=yJ (wT (E7 x v) t) old;obtain⟨a',b',c',d'⟩:=ua x v;exact⟨a.trans a',b.trans b',c,d.trans d'⟩
theorem TF{s:b6}(hR:SR s){i:Nat}(hi:i<s.S.b7.length)(h2:(ce s i).State=2):Ks s (DK s i):=⟨Cy hR hi,rfl,Cv hR hi h2,λh hh=>by rw[Cx hR hi h2 hh]⟩
theorem Uf{x:Hp}(hR:SR x.S)(h:Int){d:Int}(hd:T9 x.S h (D7 h)->0<=(ce x.S (D7 h)).Val.Weak+d):Ks x.S (iu x h d).S:=by
 unfold iu;split
 .rename_i q;exact (mW hR q.1 q.2.1 (hd q)).ks rfl
 .exact Ks.refl hR
theorem MZ(x:Hp)(h d:Int):(iu x h d).Roots=x.Roots/\(iu x h d).b7=x.b7/\(iu x h d).T=x.T/\(iu x h d).Q=x.Q:=by
 unfold iu;split <;> exact⟨rfl,rfl,rfl,rfl⟩
theorem KW(x:Hp)(h:Int):(pG x h).Roots=x.Roots/\(pG x h).b7=x.b7/\(pG x h).T=x.T/\(pG x h).Q=x.Q:=by
 unfold pG;split;·split <;> exact⟨rfl,rfl,rfl,rfl⟩
 .exact⟨rfl,rfl,rfl,rfl⟩
theorem Jq{x:Hp}(hR:SR x.S)(h:Int)(hd:T9 x.S h (D7 h)->1<=(ce x.S (D7 h)).Val.Weak):Ks x.S (pG x h).S:=by
 unfold pG;split
 .rename_i q;have hd:=hd q;have kn:=mW (d:=-1) hR q.1 q.2.1 (by omega);split
  .rename_i c;have hi1:D7 h<(lF x.S (D7 h) (-1)).S.b7.length:=by rw[kn.len];exact q.1
   have hce:ce (lF x.S (D7 h) (-1)) (D7 h)=⟨(ce x.S (D7 h)).State,(ce x.S (D7 h)).Gen,Xu (ce x.S (D7 h)).Val ((ce x.S (D7 h)).Val.Weak + -1)⟩:=by
    rw[eU hR q.1 q.2.1,zb rfl]
   have h2:(ce (lF x.S (D7 h) (-1)) (D7 h)).State=2:=by rw[hce];exact c.1
   exact (kn.ks rfl).trans (TF kn.sr hi1 h2)
  .exact kn.ks rfl
 .exact Ks.refl hR
theorem FD{x:Hp}(hx:K0 x){n:Nat}(hn:n<6)(h call:Int):Ks x.S (cH x n h call).S:=by
 have hR:=hx.sh.sr;have hnl:n<x.b7.length:=by have:=hx.sh.c6;omega
 have ok:∀k i,T9 x.S k i->0<=(ce x.S i).Val.Weak:=λk i q=>(hR.ok i q.1 q.2.1).wk;have tw:∀i,T9 x.S (ma x n) i->1<=(ce x.S i).Val.Weak:=λi q=>by
  have htg:ma x n=x.b7[n].Target:=by
   unfold ma;rw[zd,zc hnl];rfl
  have r:=q.KJ hR;have p:=tN hnl (by rw[<-htg];omega);rw[<-htg,q.2.2] at p;have:=(hx.wk i q.1 q.2.1).1;omega
 unfold cH;have s1:Ks x.S (iu (wC x (x.b7.set n (fE h call))) h 1).S:=Uf (x:=wC x (x.b7.set n (fE h call))) hR h λq=>by
  have:=ok _ _ q;dsimp only;omega
 by_cases q:T9 x.S h (D7 h)
 .have e:iu (wC x (x.b7.set n (fE h call))) h 1=wS (wC x (x.b7.set n (fE h call))) (lF x.S (D7 h) 1):=by
   unfold iu;rw[zb q]
  have hd:=ok _ _ q;have kn:=mW (d:=1) hR q.1 q.2.1 (by omega);rw[e] at s1 |-;refine s1.trans (Jq (x:=wS (wC x (x.b7.set n (fE h call))) (lF x.S (D7 h) 1)) kn.sr _ λq2=>?_);dsimp only at q2 |-;have q3:=(kn.ad _ _).1 q2;have:=tw _ q3;rw[eU hR q.1 q.2.1];split
  .rename_i e2;rw[e2] at this;show 1<=(ce x.S (D7 h)).Val.Weak+1;omega
  .exact this
 .have e:iu (wC x (x.b7.set n (fE h call))) h 1=wC x (x.b7.set n (fE h call)):=by
   unfold iu;rw[za q]
  rw[e] at s1 |-;exact s1.trans (Jq (x:=wC x (x.b7.set n (fE h call))) hR _ λq2=>tw _ q2)
theorem Ak(x:Hp)(n:Nat)(h call:Int):(cH x n h call).Roots=x.Roots/\(cH x n h call).b7=x.b7.set n (fE h call)/\(cH x n h call).T=x.T/\(cH x n h call).Q=x.Q:=by
 obtain⟨a,b,c,d⟩:=KW (iu (wC x (x.b7.set n (fE h call))) h 1) (ma x n);obtain⟨a',b',c',d'⟩:=MZ (wC x (x.b7.set n (fE h call))) h 1;exact⟨a.trans a',b.trans b',c.trans c',d.trans d'⟩
abbrev Xo(s:b6)(n:Nat)(p:Int):n9:=⟨s.Serial+1,0,0,p,false,List.replicate n 0⟩
def dp(s:b6)(i n:Nat)(p:Int):b6:=⟨⟨s.S.b7.set i ⟨1,(ce s i).Gen,Xo s n p⟩,s.S.Last⟩,s.Serial+1⟩
section
variable{s:b6}(hR:SR s){i:Nat}(hi:i<s.S.b7.length)(h0:(ce s i).State=0){n:Nat}(hn:n<=4){p:Int}(hp : -1<=p/\p<=5)
include hR hi h0 hn hp
theorem jC:(dp s i n p).S.b7.length=s.S.b7.length:=by simp[dp]
theorem lG(j:Nat):ce (dp s i n p) j=if j=i then ⟨1,(ce s i).Gen,Xo s n p⟩ else ce s j:=xX hi _ _ j
theorem EG:SR (dp s i n p):=by
 have hser:=hR.aH;have hc:=hR.cell i hi;have hnt:¬Th (ce s i):=λh=>by
  rcases h with h | h <;> omega
 refine⟨by rw[jC hR hi h0 hn hp];exact hR.len,hR.l0,hR.l9,by show 0<=s.Serial+1;omega,λj hj=>?_,λj hj ht=>?_,λj hj ht=>?_,λj k hj hk a b e=>?_⟩
 .rw[jC hR hi h0 hn hp] at hj;rw[lG hR hi h0 hn hp];split;·exact⟨show (0:Int)<=1 by decide,show (1:Int)<=3 by decide,hc.2.2.1,hc.2.2.2⟩
  .exact hR.cell j hj
 .rw[jC hR hi h0 hn hp] at hj;rw[lG hR hi h0 hn hp] at ht |-;split at ht;·exact absurd (.inl rfl) ht
  .rename_i e;rw[za e];exact hR.no j hj ht
 .rw[jC hR hi h0 hn hp] at hj;rw[lG hR hi h0 hn hp] at ht |-;split at ht
  .rename_i e;rw[zb e];exact⟨by show 1<=s.Serial+1;omega,zae _,zae 0,zae 0,hp.1,hp.2,by simpa using hn⟩
  .rename_i e;rw[za e];have:=hR.ok j hj ht;exact⟨this.s1,by show _<=s.Serial+1;have:=this.s2;omega,this.st,this.wk,this.p1,this.p2,this.fl⟩
 .rw[jC hR hi h0 hn hp] at hj hk;rw[lG hR hi h0 hn hp] at a e;rw[lG hR hi h0 hn hp] at b e;have old:∀m,m<s.S.b7.length->Th (ce s m)->(ce s m).Val.Serial≠s.Serial+1:=λm hm t q=>by
   have:=(hR.ok m hm t).s2;omega
  by_cases ej:j=i <;> by_cases ek:k=i
  .rw[ej,ek]
  .rw[za ek] at b e;rw[zb ej] at e;exact absurd e.symm (old k hk b)
  .rw[za ej] at a e;rw[zb ek] at e;exact absurd e (old j hj a)
  .rw[za ej] at a e;rw[za ek] at b e;exact hR.dif j k hj hk a b e
theorem yq{k:Int}{j:Nat}(q:T9 s k j):j≠i:=λe=>by
 subst e;rcases q.2.1 with h | h <;> omega
theorem MX{k:Int}{j:Nat}:T9 (dp s i n p) k j↔T9 s k j\/(j=i/\k=bX s i):=by
 unfold T9;rw[jC hR hi h0 hn hp,lG hR hi h0 hn hp];by_cases e:j=i
 .rw[zb e];subst e;constructor
  .rintro⟨a,b,c⟩;exact .inr ⟨rfl,c⟩
  .rintro (⟨a,b,c⟩ | ⟨_,c⟩);·exact absurd rfl (yq hR hi h0 hn hp ⟨a,b,c⟩)
   .exact⟨hi,.inl rfl,c⟩
 .rw[za e];constructor;·exact .inl
  .rintro (h | ⟨h,_⟩);·exact h
   .exact absurd h e
theorem BA:lv (dp s i n p)=lv s ++ [bX s i]:=by
 have e:=GH (s:=s) (A2.2 hR) hi (by rw[<-O3 hi];exact h0) (Xo s n p) rfl (gz (A2.2 hR));unfold dp;rw[show (ce s i).Gen=s.S.b7[i].Gen by rw[O3 hi]];have e2:bX s i=1+(i:Int)+32*s.S.b7[i].Gen:=by unfold bX;rw[O3 hi]
 rw[e2];have:=gz (A2.2 (by have:=EG hR hi h0 hn hp;unfold dp at this;rw[show (ce s i).Gen=s.S.b7[i].Gen by rw[O3 hi]] at this;exact this));rw[e] at this;exact (zJ this).symm
theorem MY:bX s i∉lv s:=λh=>by
 obtain⟨j,q⟩:=(gR hR).1 h;have:i=j:=by
  have a:=q.2.2;have b:=q.1;unfold bX at a;have:=hR.len;omega
 subst this;have:=q.2.1;omega
theorem BB{k:Int}(hk:k∈lv s):ob (dp s i n p) k=ob s k:=by
 obtain⟨j,q⟩:=(gR hR).1 hk;have hj:=yq hR hi h0 hn hp q.d;have q2:At (dp s i n p) k j:=by
  refine⟨by rw[jC hR hi h0 hn hp];exact q.1,?_,?_⟩ <;> rw[lG hR hi h0 hn hp,za hj]
  .exact q.2.1
  .exact q.2.2
 rw[F1 (EG hR hi h0 hn hp) q2,F1 hR q,lG hR hi h0 hn hp,za hj]
theorem uW:ob (dp s i n p) (bX s i)=Xo s n p:=by
 have q2:At (dp s i n p) (bX s i) i:=by
  refine⟨by rw[jC hR hi h0 hn hp];exact hi,?_,?_⟩ <;> rw[lG hR hi h0 hn hp,zb rfl]
  rfl
 rw[F1 (EG hR hi h0 hn hp) q2,lG hR hi h0 hn hp,zb rfl]
end
theorem Jo{l:List Int}{h:Int}(e:h∉l):Q0 l h=0:=Nat.eq_zero_of_not_pos λq=>e (iZ.1 q).2
theorem yr{x:Hp}(hx:K0 x){i:Nat}(hi:i<x.S.S.b7.length)(h0:(ce x.S i).State=0){n:Nat}(hn:n<=4){p:Int}(hp : -1<=p/\p<=5):K0 (wS x (dp x.S i n p)):=by
 have hR:=hx.sh.sr;have hS:=EG hR hi h0 hn hp;have hl:=BA hR hi h0 hn hp;have hnew:=MY hR hi h0 hn hp;have mem:∀ {k},k∈lv x.S->k∈lv (dp x.S i n p):=λhk=>by rw[hl];exact ut _ hk
 have mem0:∀ {k},k=0\/k∈lv x.S->k=0\/k∈lv (dp x.S i n p):=λhk=>hk.imp id mem;have hpos:=ta hR hi;have split:∀ {k},k∈lv (dp x.S i n p)->k∈lv x.S\/k=bX x.S i:=λhk=>by
  rw[hl] at hk;rcases zu.1 hk with q | q
  .exact .inl q
  .exact .inr (zp.1 q)
 have rep:∀v∈List.replicate n (0:Int),v=0:=λv hv=>(za9.1 hv).2;have ntgt:∀j (hj:j<x.b7.length),x.b7[j].Target≠bX x.S i:=λj hj e=>by
  obtain⟨q,hq⟩:=(hx.sh.cl j hj).2.2.2.1 (by rw[e];omega);rw[e] at hq;have:q=i:=by
   have a:=hq.2.2;have b:=hq.1;unfold bX at a;have:=hR.len;omega
  exact yq hR hi h0 hn hp hq this
 refine⟨⟨hS,hx.sh.hr,hx.sh.r6,hx.sh.c6,hx.sh.cap,hx.sh.q30,λt ht=>?_,hx.sh.td,λh hh=>mem0 (hx.sh.rt h hh),λh hh v hv=>?_,λk v hk=>?_,λj hj=>?_⟩,λj hj ht=>?_,λh hh hs=>?_⟩
 .obtain⟨a,b,c⟩:=hx.sh.tk t ht;refine⟨a,b,c.imp (λ⟨d,e,f⟩=>⟨d,mem e,?_⟩) id⟩;show (ob (dp x.S i n p) t.At).Started=true;rw[BB hR hi h0 hn hp e];exact f
 .rcases split hh with q | q
  .have hv':v∈(ob (dp x.S i n p) h).Fields:=hv;rw[BB hR hi h0 hn hp q] at hv';exact mem0 (hx.sh.fl h q v hv')
  .subst q;have hv':v∈(ob (dp x.S i n p) (bX x.S i)).Fields:=hv;rw[uW hR hi h0 hn hp] at hv';exact .inl (rep v hv')
 .obtain⟨a,b⟩:=hx.sh.pr k v hk;exact⟨mem a,mem b⟩
 .obtain⟨a,b,c,d,e⟩:=hx.sh.cl j hj;refine⟨a,b,c,λq=>?_,λq=>⟨mem (e q).1,(e q).2⟩⟩;obtain⟨m,hm⟩:=d q;exact⟨m,(MX hR hi h0 hn hp).2 (.inl hm)⟩
 .have hj':j<x.S.S.b7.length:=by have:j<(dp x.S i n p).S.b7.length:=hj;rwa [jC hR hi h0 hn hp] at this
  show (ce (dp x.S i n p) j).Val.Weak=(jd x.b7 (1+(j:Int)+32*(ce (dp x.S i n p) j).Gen):Int)/\_;have ht':Th (ce (dp x.S i n p) j):=ht;rw[lG hR hi h0 hn hp] at ht' |-;by_cases e:j=i
  .subst e;rw[zb rfl];refine⟨?_,λq=>absurd (show (1:Int)=2 from q) (by decide)⟩;show (0:Int)=(jd x.b7 (bX x.S j):Int);have:jd x.b7 (bX x.S j)=0:=by
    unfold jd;rw[List.countP_eq_zero];intro c hc;obtain⟨m,hm,rfl⟩:=wt hc;have:=ntgt m hm;simp[this]
   rw[this];rfl
  .rw[za e] at ht' |-;exact hx.wk j hj' ht'
 .have hinn:∀y,jW (dp x.S i n p) y=jW x.S y:=λy=>by
   unfold jW;rw[hl,mt,List.sum_append];have e1:(lv x.S).map (λk=>Q0 (outs (dp x.S i n p) k) y)=(lv x.S).map λk=>Q0 (outs x.S k) y:=zt λk hk=>by
    unfold outs;rw[BB hR hi h0 hn hp hk]
   rw[e1];have e2:outs (dp x.S i n p) (bX x.S i) = []:=by
    refine za3.2 λv hv=>?_;have h1:=fZ.1 hv;rw[uW hR hi h0 hn hp] at h1;exact h1.2 (rep v h1.1)
   simp[e2,H9]
  have hnm:∀y,lK (wS x (dp x.S i n p)) y=lK x y:=λy=>by
   unfold lK;show jW (dp x.S i n p) y+own x.T y+Q0 (nZ x) y=_;rw[hinn]
  rw[hnm];have hs':(ob (dp x.S i n p) h).Strong<12:=hs;show (ob (dp x.S i n p) h).Strong=_;rcases split hh with q | q
  .rw[BB hR hi h0 hn hp q] at hs' |-;exact hx.fair h q hs'
  .subst q;rw[uW hR hi h0 hn hp];have h1:lK x (bX x.S i)=0:=by
    unfold lK;have a1:jW x.S (bX x.S i)=0:=by
     unfold jW;have:=Hj (λk=>Q0 (outs x.S k) (bX x.S i)) 0 (lv x.S) λk hk=>Nat.le_of_eq<|Jo λq=>by
      have q2:=fZ.1 q;rcases hx.sh.fl k hk _ q2.1 with e | e
      .exact q2.2 e
      .exact hnew e
     omega
    have a2:own x.T (bX x.S i)=0:=by
     unfold own;rw[List.countP_eq_zero];intro c hc;have:=(hx.sh.pr _ _ (cg.1 hc)).2;have hne:c.Val≠bX x.S i:=λe=>hnew (e▸this);simp[hne]
    have a3:Q0 (nZ x) (bX x.S i)=0:=Jo λq=>by
     unfold nZ at q;rcases zu.1 q with q | q
     .have q2:=fZ.1 q;rcases hx.sh.rt _ q2.1 with e | e
      .exact q2.2 e
      .exact hnew e
     .obtain⟨t,ht,k1,k2⟩:=lE.1 q;rcases (hx.sh.tk t ht).2.2 with ⟨_,b,_⟩ | ⟨b,_⟩;·exact hnew (k2▸b)
      .omega
    omega
   rw[h1,H9];rfl
structure Ev (x y:Hp):Prop where
 lv:∀h∈lv y.S,(h∈Sh.lv x.S/\(ob y.S h).Serial=(ob x.S h).Serial)\/(h∉Sh.lv x.S/\(ob y.S h).Serial=x.S.Serial+1)
 s1:x.S.Serial<=y.S.Serial
 s2:y.S.Serial<=x.S.Serial+1
theorem Ev.refl(x:Hp):Ev x x:=⟨λh hh=>.inl ⟨hh,rfl⟩,by omega,by omega⟩
theorem Ks.ev{x y:Hp}(k:Ks x.S y.S):Ev x y:=⟨λh hh=>by
 rw[k.lv] at hh;exact .inl ⟨hh,k.ob h hh⟩,by rw[k.aH];omega,by rw[k.aH];omega⟩
theorem Ev.ks{x y z:Hp}(e:Ev x y)(k:Ks y.S z.S):Ev x z:=⟨λh hh=>by
 rw[k.lv] at hh;rw[k.ob h hh];exact e.lv h hh,by rw[k.aH];exact e.s1,by rw[k.aH];exact e.s2⟩
theorem Ev.Yu{x y z:Hp}(e:Ev x y)(s:DP y z):Ev x z:=⟨λh hh=>by
 rw[(s.ob h hh).1];exact e.lv h (s.lv h hh),by rw[s.aH];exact e.s1,by rw[s.aH];exact e.s2⟩
theorem Wt{x:Hp}(hx:K0 x){i:Nat}(hi:i<x.S.S.b7.length)(h0:(ce x.S i).State=0){n:Nat}(hn:n<=4){p:Int}(hp : -1<=p/\p<=5):Ev x (wS x (dp x.S i n p)):=⟨λh hh=>by
 have hR:=hx.sh.sr;have hh':h∈lv (dp x.S i n p):=hh;show (_/\(ob (dp x.S i n p) h).Serial=_)\/_/\(ob (dp x.S i n p) h).Serial=_;rw[BA hR hi h0 hn hp] at hh';rcases zu.1 hh' with q | q
 .exact .inl ⟨q,by rw[BB hR hi h0 hn hp q]⟩
 .rw[zp.1 q];exact .inr ⟨MY hR hi h0 hn hp,by rw[uW hR hi h0 hn hp]⟩,by show _<=x.S.Serial+1;omega,zae _⟩
def Cw(x y:Hp)(w:Int):Prop:=∀i:Nat,(i:Int)≠w->(y.b7.getD i cz).Target=(x.b7.getD i cz).Target/\((y.b7.getD i cz).Intact=true->(x.b7.getD i cz).Intact=true)
theorem Cw.refl(x:Hp)(w:Int):Cw x x w:=λi _=>⟨rfl,id⟩
theorem Cw.same{x y:Hp}(h:y.b7=x.b7)(w:Int):Cw x y w:=λi _=>by rw[h];exact⟨rfl,id⟩
theorem Cw.trans{x y z:Hp}{w:Int}(a:Cw x y w)(b:Cw y z w):Cw x z w:=λi hi=>⟨(b i hi).1.trans (a i hi).1,λq=>(a i hi).2 ((b i hi).2 q)⟩
theorem DP.cw{x y:Hp}(s:DP x y)(w:Int):Cw x y w:=λi _=>by
 by_cases h:i<x.b7.length
 .have h':i<y.b7.length:=by rw[s.cn];exact h
  rw[Ii h,Ii h',s.cl i h' h];exact⟨rfl,λq=>(zy _ _▸q).1⟩
 .have h':¬i<y.b7.length:=by rw[s.cn];exact h
  rw[zd,zd,pi (by omega),pi (by omega)];exact⟨rfl,id⟩
theorem Cw.set{x y:Hp}{w:Nat}{c:k9}(h:y.b7=x.b7.set w c):Cw x y w:=λi hi=>by
 rw[h,zd,zd,List.getElem?_set_ne (by omega)];exact⟨rfl,id⟩
def VE(s:b6)(i:Nat):Prop:=i<s.S.b7.length/\(ce s i).State=0/\∀j,j<i->(ce s j).State≠0
theorem MS{s:b6}(hR:SR s)(hb:s.Serial<9223372036854775807)(a p:Int) :
  (¬(0<=a/\a<=4)/\X0 s a p=some (s,0,1)) \/
  ((0<=a/\a<=4)/\¬(-1<=p/\p<=5)/\X0 s a p=some (s,0,13)) \/
  ((0<=a/\a<=4)/\(-1<=p/\p<=5)/\(∀i,i<s.S.b7.length->(ce s i).State≠0)/\X0 s a p=some (s,0,4)) \/
  ((0<=a/\a<=4)/\(-1<=p/\p<=5)/\∃i,VE s i/\X0 s a p=some (dp s i a.toNat p,bX s i,0)):=by
 have hs':=hR.aH;have hR':=A2.2 hR;unfold X0 qn;by_cases ha:0<=a/\a<=4
 .right;obtain⟨ha1,ha2⟩:=ha;obtain⟨n,rfl⟩:∃n:Nat,a=n:=⟨a.toNat,by omega⟩;rw[za (by simp;omega),ky (by omega) (by omega)];simp only[Yz];by_cases hp : -1<=p/\p<=5
  .right;unfold V7;simp only[Yz];have e1:(decide (p >= -1)&&decide (p<6))=true:=by simp;omega
   rw[e1];have hl:Ye s.S:=⟨pn hR',hR'.l0,hR'.l9,λi hi=>Dm hR' i hi⟩;rcases Dy hl ⟨s.Serial+1,0,0,p,false,List.replicate n 0⟩ with ⟨i,hi,h0,hf,e⟩ | ⟨hf,e⟩
   .right;refine⟨⟨ha1,ha2⟩,hp,i,⟨hi,by rw[O3 hi];exact h0,λj hj=>by rw[O3 (by omega)];exact hf j hj⟩,?_⟩;simp only[zcj,zC,t8,zch];rw[show w9 (s.Serial+1)=s.Serial+1 from T5 (by omega) (by omega),e];unfold dp bX;rw[O3 hi];simp
   .left;refine⟨⟨ha1,ha2⟩,hp,λi hi=>by rw[O3 hi];exact hf i hi,?_⟩;simp only[zcj,zC,t8,zch];rw[show w9 (s.Serial+1)=s.Serial+1 from T5 (by omega) (by omega),e];simp
  .left;refine⟨⟨ha1,ha2⟩,hp,?_⟩;unfold V7;simp only[Yz];have e1:(decide (p >= -1)&&decide (p<6))=false:=by rw[zbj];simp;omega
   rw[e1];simp
 .left;refine⟨ha,?_⟩;rw[zb (by simp;omega)];simp
def sd(x:Hp)(r:Int):Int:=if r<0 then 0 else x.Roots.getD r.toNat 0
def Au(x:Hp)(r:Int):Int × Int:=if sd x r=0 then (0,2) else (sd x r,0)
def aH(x:Hp)(h:Int):Int:=(ob x.S h).Serial
theorem Bp{n l m e:Int}(he:e≠0)(h:M3 n l m e=0):l<=n/\n<=m:=by
 unfold M3 at h;split at h;·exact absurd h he
 .omega
theorem Gy{a b c:Int}(h:bH a b c=0):a=0/\b=0/\c=0:=by
 unfold bH at h;split at h;·contradiction
 .split at h;·contradiction
  .omega
theorem tt{k a b c:Int}(h:y4 k a b c=0):1<=k/\k<=12:=by
 refine Decidable.byContradiction λq=>?_;have:y4 k a b c=14:=by
  unfold y4;repeat rw[za (by omega)]
 omega
theorem Td{a b c:Int}(h:y4 1 a b c=0):(0<=a/\a<=5)/\(0<=b/\b<=4) /\ -1<=c/\c<=5:=by
 obtain⟨h1,h2,h3⟩:=Gy (show bH (M3 a 0 5 6) (M3 b 0 4 1) (M3 c (-1) 5 13)=0 from h);exact⟨Bp (by decide) h1,Bp (by decide) h2,Bp (by decide) h3⟩
theorem LL{a b c:Int}(h:y4 2 a b c=0):(0<=a/\a<=5)/\(0<=b/\b<=5):=by
 obtain⟨h1,h2,_⟩:=Gy (show bH (M3 a 0 5 6) (M3 b 0 5 6) 0=0 from h);exact⟨Bp (by decide) h1,Bp (by decide) h2⟩
theorem VK{a b c:Int}(h:y4 3 a b c=0):0<=a/\a<=5:=Bp (by decide) (show M3 a 0 5 6=0 from h)
theorem Te{a b c:Int}(h:y4 4 a b c=0):(0<=a/\a<=5)/\(0<=b/\b<=5)/\0<=c/\c<=3:=by
 obtain⟨h1,h2,h3⟩:=Gy (show bH (M3 a 0 5 6) (M3 b 0 5 6) (M3 c 0 3 5)=0 from h);exact⟨Bp (by decide) h1,Bp (by decide) h2,Bp (by decide) h3⟩
theorem Tf{a b c:Int}(h:y4 5 a b c=0):(0<=a/\a<=5)/\(0<=b/\b<=3) /\ -1<=c/\c<=5:=by
 obtain⟨h1,h2,h3⟩:=Gy (show bH (M3 a 0 5 6) (M3 b 0 3 5) (M3 c (-1) 5 6)=0 from h);exact⟨Bp (by decide) h1,Bp (by decide) h2,Bp (by decide) h3⟩
theorem PI{a b c:Int}(h:y4 6 a b c=0):(0<=a/\a<=5)/\(-1<=b/\b<=5) /\ -1<=c/\c<=5:=by
 obtain⟨h1,h2,h3⟩:=Gy (show bH (M3 a 0 5 7) (M3 b (-1) 5 6) (M3 c (-1) 5 13)=0 from h);exact⟨Bp (by decide) h1,Bp (by decide) h2,Bp (by decide) h3⟩
theorem Tg{a b c:Int}(h:y4 7 a b c=0):(0<=a/\a<=5)/\(0<=b/\b<=5):=by
 obtain⟨h1,h2,_⟩:=Gy (show bH (M3 a 0 5 6) (M3 b 0 5 7) 0=0 from h);exact⟨Bp (by decide) h1,Bp (by decide) h2⟩
theorem Ti{a b c:Int}(h:y4 8 a b c=0):(0<=a/\a<=5)/\(-1<=b/\b<=5):=by
 obtain⟨h1,h2,_⟩:=Gy (show bH (M3 a 0 5 6) (M3 b (-1) 5 6) 0=0 from h);exact⟨Bp (by decide) h1,Bp (by decide) h2⟩
theorem Tj{a b c:Int}(h:y4 9 a b c=0):(0<=a/\a<=5)/\(0<=b/\b<=5):=LL (show y4 2 a b c=0 from h)
theorem RX{a b c:Int}(h:y4 10 a b c=0):(0<=a/\a<=5)/\(0<=b/\b<=5):=LL (show y4 2 a b c=0 from h)
section
variable{x:Hp}(hx:jY x)
include hx
theorem Sy{r:Int}(h:0<=r/\r<=5):ix x.Roots r=some (sd x r):=by
 have:=hx.r6;obtain⟨n,rfl⟩:∃n:Nat,r=n:=⟨r.toNat,by omega⟩;have hn:n<x.Roots.length:=by omega
 rw[u5 hn];unfold sd;rw[za (by omega),zP,zd,zc hn];rfl
theorem Hg{r:Int}(h:¬(0<=r/\r<=5)):sd x r=0:=by
 have:=hx.r6;unfold sd;split;·rfl
 .rw[zd,pi (by omega)];rfl
theorem dV(r:Int):sd x r=0\/sd x r∈lv x.S:=by
 by_cases h:0<=r/\r<=5
 .have e:=Sy hx h;unfold ix at e;rw[zb h.1] at e;exact hx.rt _ (zj e)
 .exact .inl (Hg hx h)
theorem jM(r:Int):sd x r<=9223372036854775807:=by
 rcases dV hx r with h | h
 .omega
 .have:=H6 hx.sr h;omega
theorem nr(r:Int):N9 x r=some (sd x r):=by
 have h6:=hx.r6;unfold N9;by_cases h:0<=r/\r<=5
 .rw[za (by simp;omega),Sy hx h];rfl
 .rw[zb (by simp;omega),Hg hx h]
theorem je(r:Int):O4 x r=some (Au x r):=by
 unfold O4 Au;rw[nr hx,Yz];by_cases h:sd x r=0
 .rw[zb (by simpa using h),zb h]
 .rw[za (by simpa using h),za h]
theorem Vb{h:Int}(hh:h<=9223372036854775807):eQ x h=some (aH x h):=by
 obtain⟨e,h1,_⟩:=il (A2.2 hx.sr) hh;unfold eQ;rw[h1];rfl
theorem HN(r:Int):dE x r=some (aH x (sd x r)):=by
 unfold dE;rw[nr hx,Yz,Vb hx (jM hx r)];rfl
theorem Fg:aH x 0=0:=by
 unfold aH;rw[vK (A2.2 hx.sr) (by omega) (eP hx.sr)]
end
theorem Vc{x z:Hp}(hx:jY x)(k:Ks x.S z.S){h:Int}(hh:h=0\/h∈lv x.S):aH z h=aH x h:=by
 rcases hh with e | e
 .subst e;unfold aH;rw[vK (A2.2 hx.sr) (by omega) (eP hx.sr),vK (A2.2 k.sr) (by omega) (eP k.sr)]
 .exact k.ob h e
theorem Rt{x z:Hp}(h:z.Roots=x.Roots)(r:Int):sd z r=sd x r:=by unfold sd;rw[h]
noncomputable def AF(x:Hp)(o:j5)(v:Hp × Int):Option (Hp × Int × Int):=
 if (v.2 != 0) then some (x,0,v.2) else (R5 v.1).bind λv5=>(Z0 v.1 v5 o).bind λv6=>some (v5,v6,0)
theorem qG{x:Hp}{o:j5}{n:Option Nat}(hc:y4 o.Kind o.A o.B o.C=0)(hk:∃l,gA=some l/\z8 l o.Kind=some n):u6 x o=(wY n ⟨x,o⟩).bind (AF x o):=by
 obtain⟨l,h1,h2⟩:=hk;unfold u6;rw[ov,hc,Yz,za (by simp),h1,Yz,h2,za (by simp)];rfl
theorem LU{x:Hp}{o:j5}(hc:y4 o.Kind o.A o.B o.C≠0):u6 x o=some (x,0,y4 o.Kind o.A o.B o.C)/\True:=by
 constructor
 .unfold u6;rw[ov,Yz,zb (by simpa using hc)]
 .trivial
section
variable{x:Hp}{a b c:Int}
theorem XA(hc:y4 1 a b c=0):u6 x ⟨1,a,b,c⟩=(X9 ⟨x,⟨1,a,b,c⟩⟩).bind (AF x ⟨1,a,b,c⟩):=qG (o:=⟨1,a,b,c⟩) (n:=some 203) hc ⟨_,rfl,rfl⟩
theorem XB(hc:y4 2 a b c=0):u6 x ⟨2,a,b,c⟩=(L0 ⟨x,⟨2,a,b,c⟩⟩).bind (AF x ⟨2,a,b,c⟩):=qG (o:=⟨2,a,b,c⟩) (n:=some 204) hc ⟨_,rfl,rfl⟩
theorem XC(hc:y4 3 a b c=0):u6 x ⟨3,a,b,c⟩=(bt ⟨x,⟨3,a,b,c⟩⟩).bind (AF x ⟨3,a,b,c⟩):=qG (o:=⟨3,a,b,c⟩) (n:=some 205) hc ⟨_,rfl,rfl⟩
theorem XD(hc:y4 4 a b c=0):u6 x ⟨4,a,b,c⟩=(bu ⟨x,⟨4,a,b,c⟩⟩).bind (AF x ⟨4,a,b,c⟩):=qG (o:=⟨4,a,b,c⟩) (n:=some 206) hc ⟨_,rfl,rfl⟩
theorem XE(hc:y4 5 a b c=0):u6 x ⟨5,a,b,c⟩=(az ⟨x,⟨5,a,b,c⟩⟩).bind (AF x ⟨5,a,b,c⟩):=qG (o:=⟨5,a,b,c⟩) (n:=some 207) hc ⟨_,rfl,rfl⟩
theorem Tq(hc:y4 6 a b c=0):u6 x ⟨6,a,b,c⟩=(L4 ⟨x,⟨6,a,b,c⟩⟩).bind (AF x ⟨6,a,b,c⟩):=qG (o:=⟨6,a,b,c⟩) (n:=some 208) hc ⟨_,rfl,rfl⟩
theorem XF(hc:y4 7 a b c=0):u6 x ⟨7,a,b,c⟩=(aN ⟨x,⟨7,a,b,c⟩⟩).bind (AF x ⟨7,a,b,c⟩):=qG (o:=⟨7,a,b,c⟩) (n:=some 209) hc ⟨_,rfl,rfl⟩
theorem XG(hc:y4 8 a b c=0):u6 x ⟨8,a,b,c⟩=(bw ⟨x,⟨8,a,b,c⟩⟩).bind (AF x ⟨8,a,b,c⟩):=qG (o:=⟨8,a,b,c⟩) (n:=some 210) hc ⟨_,rfl,rfl⟩
theorem XH(hc:y4 9 a b c=0):u6 x ⟨9,a,b,c⟩=(cd ⟨x,⟨9,a,b,c⟩⟩).bind (AF x ⟨9,a,b,c⟩):=qG (o:=⟨9,a,b,c⟩) (n:=some 211) hc ⟨_,rfl,rfl⟩
theorem VQ(hc:y4 10 a b c=0):u6 x ⟨10,a,b,c⟩=(T1 ⟨x,⟨10,a,b,c⟩⟩).bind (AF x ⟨10,a,b,c⟩):=qG (o:=⟨10,a,b,c⟩) (n:=some 212) hc ⟨_,rfl,rfl⟩
theorem Ck{k:Int}(hk:k=11\/k=12)(hc:y4 k a b c=0):u6 x ⟨k,a,b,c⟩=some (x,0,14)/\True:=by
 constructor
 .unfold u6;rw[ov,hc,Yz,za (by simp)];rcases hk with rfl | rfl <;> rfl
 .trivial
variable{y:lT}
end
section
variable{s:b6}(hR:SR s){i:Nat}(hi:i<s.S.b7.length)
include hR hi
end
theorem Wr{s:b6}(hR:SR s)(hb:s.Serial<9223372036854775807)(a p:Int) :
  (∃e,e≠0/\X0 s a p=some (s,0,e)/\True) \/
  ((0<=a/\a<=4)/\(-1<=p/\p<=5)/\∃i,VE s i/\X0 s a p=some (dp s i a.toNat p,bX s i,0)/\True):=by
 rcases MS hR hb a p with ⟨h1,e⟩ | ⟨h1,h2,e⟩ | ⟨h1,h2,h3,e⟩ | ⟨h1,h2,i,h3,e⟩;·exact .inl ⟨1,by decide,e,trivial⟩
 .exact .inl ⟨13,by decide,e,trivial⟩
 .exact .inl ⟨4,by decide,e,trivial⟩
 .exact .inr ⟨h1,h2,i,h3,e,trivial⟩
abbrev Yr(o:j5):fp:=⟨o.Kind,o.A,o.B,o.C⟩
structure Dn (x:Hp) (o:j5) (z:Hp) (v:Int):Prop where
 rt:K0 z
 sl:SL z
 ev:Ev x z
 cw:Cw x z (if o.Kind=6 then o.A else -1)
 mc:u6 x o=some (bA z,v,0)
 rf:True
def Er(x:Hp)(o:j5)(e:Int):Prop:=e≠0/\u6 x o=some (x,0,e)/\True
theorem Wu{x:Hp}(hx:K0 x)(hS:SL x){i:Nat}(hi:i<x.S.S.b7.length)(h0:(ce x.S i).State=0){n:Nat}(hn:n<=4){p:Int}(hp : -1<=p/\p<=5):SL (wS x (dp x.S i n p)):=λk hk=>by
 have hR:=hx.sh.sr;have hk':k∈lv (dp x.S i n p):=hk;show (ob (dp x.S i n p) k).Strong<=_;rw[BA hR hi h0 hn hp] at hk';rcases zu.1 hk' with q | q
 .rw[BB hR hi h0 hn hp q];exact hS k q
 .rw[zp.1 q,uW hR hi h0 hn hp];show (0:Int)<=_;decide
theorem vm{y:Hp}(hy:K0 y){a:Int}(ha:0<=a/\a<=5){h:Int}(hh:h=0\/h∈lv y.S):sd (bA (G2 y a.toNat h)) a=h/\aH (bA (G2 y a.toNat h)) h=aH y h:=by
 have hz:=bO hy (r:=a.toNat) (by omega) hh;have st:=lY hz;have w:=nu hz;have e1:(bA (G2 y a.toNat h)).Roots=y.Roots.set a.toNat h:=st.rt.trans (jJ y a.toNat h).1;have h6:=hy.sh.r6;have e2:sd (bA (G2 y a.toNat h)) a=h:=by
  unfold sd;rw[za (by omega),e1,zd,List.getElem?_set_self (by omega)];rfl
 refine⟨e2,?_⟩;have k:=dd hy.sh.sr a.toNat h;rcases dV w.sh a with q | q
 .rw[e2] at q;subst q;rw[Fg w.sh,Fg hy.sh]
 .rw[e2] at q;have h1:=(st.ob h q).1;have h2:=st.lv h q;rw[k.lv] at h2;exact h1.trans (k.ob h h2)
section
variable{x:Hp}{a b c:Int}
theorem kg{o:j5}{y:Hp}{e:Int}(he:e≠0):AF x o (y,e)=some (x,0,e):=by
 unfold AF;rw[zb (by simpa using he)]
theorem RZ{z:Hp}(hz:K0 z)(hS:SL z){k:Int}(hk:k≠5/\k≠6/\k≠8/\k≠10):AF x ⟨k,a,b,c⟩ (z,0)=some (bA z,aH (bA z) (sd (bA z) a),0):=by
 unfold AF Z0;rw[za (by simp),jh hz hS,Yz];simp only[jn];rw[za (by simp;omega),za (by simp;omega)];have:(k==8)=false:=by simp;omega
 rw[this,za (by simp),za (by simp;omega),HN (nu hz).sh];rfl
theorem Hm{o:j5}{v e:Int}(he:e≠0):C2 ⟨x,o⟩ v e=some (x,e):=by
 unfold C2;rw[zb (by simpa using he)]
variable(hx:K0 x)(hS:SL x)
include hx hS
theorem ql{k:Int}(ha:0<=a/\a<=5){h:Int}(hh:h=0\/h∈lv x.S):C2 ⟨x,⟨k,a,b,c⟩⟩ h 0=some (G2 x a.toNat h,0):=by
 unfold C2;rw[za (by simp),Jf hx hS a (tz hx hS hh),za (by omega),zb hh];rfl
theorem mb{k:Int}(hk:k=2\/k=3\/k=4\/k=7\/k=9)(hc:y4 k a b c=0)(ha:0<=a/\a<=5){h:Int}(hh:h=0\/h∈lv x.S)
  (h1:u6 x ⟨k,a,b,c⟩=AF x ⟨k,a,b,c⟩ (G2 x a.toNat h,0))(h2:True):Dn x ⟨k,a,b,c⟩ (G2 x a.toNat h) (aH x h):=by
 have hz:=bO hx (r:=a.toNat) (by omega) hh;have zS:=pk hx.sh.sr hS a.toNat h;obtain⟨e1,e2⟩:=vm hx ha hh;refine⟨hz,zS,(dd hx.sh.sr a.toNat h).ev,Cw.same (jJ x a.toNat h).2.1 _,?_,?_⟩;·rw[h1,RZ hz zS (by omega),e1,e2]
 .trivial
theorem d2(hc:y4 2 a b c=0):Dn x ⟨2,a,b,c⟩ (G2 x a.toNat (sd x b)) (aH x (sd x b)):=by
 obtain⟨ha,hb⟩:=LL hc;refine mb hx hS (.inl rfl) hc ha (dV hx.sh b) ?_ ?_
 .rw[XB hc];unfold L0;rw[nr hx.sh,Yz,ql hx hS ha (dV hx.sh b)];rfl
 .trivial
theorem d3(hc:y4 3 a b c=0):Dn x ⟨3,a,b,c⟩ (G2 x a.toNat 0) 0:=by
 have ha:=VK hc;have:=mb (b:=b) (c:=c) hx hS (.inr (.inl rfl)) hc ha (h:=0) (.inl rfl) ?_ ?_;·rwa [Fg hx.sh] at this
 .rw[XC hc];unfold bt;rw[ql hx hS ha (.inl rfl)];rfl
 .trivial
theorem d4(hc:y4 4 a b c=0):(sd x b=0/\Er x ⟨4,a,b,c⟩ 2)\/(∃e,J4 x.S (sd x b) c=some (0,e)/\Er x ⟨4,a,b,c⟩ e) \/
  (sd x b∈lv x.S/\∃n:Nat,c=n/\∃hn:n<(ob x.S (sd x b)).Fields.length,Dn x ⟨4,a,b,c⟩ (G2 x a.toNat (ob x.S (sd x b)).Fields[n]) (aH x (ob x.S (sd x b)).Fields[n])):=by
 obtain⟨ha,hb,_⟩:=Te hc;have hm:u6 x ⟨4,a,b,c⟩=_:=XD hc;unfold bu at hm;rw[je hx.sh,Yz] at hm;by_cases h0:sd x b=0
 .refine .inl ⟨h0,by decide,?_,?_⟩
  .rw[hm];unfold Au;rw[zb h0,zb (by simp),Yz,kg (by decide)]
  .trivial
 .have has:Au x b=(sd x b,0):=by unfold Au;rw[za h0]
  rw[has,za (by simp)] at hm;right;rcases vG hx hS (sd x b) c (jM hx.sh b) with ⟨e,he,f1,f2⟩ | ⟨hl,n,hn0,hn,f1,f2⟩
  .refine .inl ⟨e,f1,he,?_,?_⟩
   .rw[hm];dsimp only;rw[f1,Yz,Hm he,Yz,Yz,kg he]
   .trivial
  .refine .inr ⟨hl,n,hn0,hn,?_⟩;have hv:=hx.sh.fl _ hl _ (zh hn);refine mb hx hS (by omega) hc ha hv ?_ ?_
   .rw[hm];dsimp only;rw[f1,Yz,ql hx hS ha hv];rfl
   .trivial
theorem Qn{n:Nat}(hn:n<6):∃h:n<x.b7.length,cD x.b7 n=some (if x.b7[n].Target=0\/x.b7[n].Intact=false then (0,9) else (x.b7[n].Target,0))/\True:=by
 have c6:=hx.sh.c6;have hl:n<x.b7.length:=by omega
 refine⟨hl,?_,?_⟩
 .unfold cD jP;have:(decide ((n:Int)>=0)&&decide ((n:Int)<(x.b7.length:Int)))=true:=by simp;omega
  rw[this,Yz,za (by simp),u5 hl,Yz];by_cases q:x.b7[n].Target=0\/x.b7[n].Intact=false
  .rw[zb q,zb (by rcases q with q | q <;> simp[q])]
  .rw[za q,za (by simpa using q)]
 .trivial
theorem d7(hc:y4 7 a b c=0):∃h:b.toNat<x.b7.length,((x.b7[b.toNat].Intact=false/\Er x ⟨7,a,b,c⟩ 9) \/
  (x.b7[b.toNat].Intact=true/\Dn x ⟨7,a,b,c⟩ (G2 x a.toNat x.b7[b.toNat].Target) (aH x x.b7[b.toNat].Target))):=by
 obtain⟨ha,hb⟩:=Tg hc;obtain⟨n,rfl⟩:∃n:Nat,b=n:=⟨b.toNat,by omega⟩;obtain⟨hl,l1,l2⟩:=Qn hx hS (n:=n) (by omega);rw[zP];refine⟨hl,?_⟩;have hm:u6 x ⟨7,a,n,c⟩=_:=XF hc;unfold aN at hm;rw[show cD (r9.mk x ⟨7,a,n,c⟩).x.b7 (r9.mk x ⟨7,a,n,c⟩).o.B=_ from l1,Yz] at hm;have cl:=hx.sh.cl n hl;cases hI:x.b7[n].Intact
 .left;rw[zb (.inr hI)] at hm;refine⟨rfl,by decide,?_,?_⟩
  .rw[hm];dsimp only;rw[Hm (by decide),Yz,Yz];exact kg (e:=9) (by decide)
  .trivial
 .right;have ht:=(cl.2.2.2.2 hI).1;have ht0:x.b7[n].Target≠0:=λe=>eP hx.sh.sr (e▸ht);rw[za (by simp[ht0,hI])] at hm;refine⟨rfl,mb hx hS (by omega) hc ha (.inr ht) ?_ trivial⟩;rw[hm];dsimp only;rw[ql hx hS ha (.inr ht)];rfl
theorem d9(hc:y4 9 a b c=0):(sd x b=0/\Er x ⟨9,a,b,c⟩ 2)\/(sd x b∈lv x.S/\(∀v,¬Has x.T (sd x b) v)/\Er x ⟨9,a,b,c⟩ 9) \/
  (sd x b∈lv x.S/\∃v,Has x.T (sd x b) v/\Dn x ⟨9,a,b,c⟩ (G2 x a.toNat v) (aH x v)):=by
 obtain⟨ha,hb⟩:=Tj hc;have hT:=hx.sh.hr;have hm:u6 x ⟨9,a,b,c⟩=_:=XH hc;unfold cd at hm;rw[je hx.sh,Yz] at hm;by_cases h0:sd x b=0
 .refine .inl ⟨h0,by decide,?_,?_⟩
  .rw[hm];unfold Au;rw[zb h0,zb (by simp),Yz,kg (by decide)]
  .trivial
 .have has:Au x b=(sd x b,0):=by unfold Au;rw[za h0]
  have hl:=(dV hx.sh b).resolve_left h0;rw[has,za (by simp)] at hm;dsimp only at hm;unfold uH at hm;right;by_cases hv:∃v,Has x.T (sd x b) v
  .obtain⟨v,hv⟩:=hv;rw[Ij hT hv] at hm;refine .inr ⟨hl,v,hv,mb hx hS (by omega) hc ha (.inr (hx.sh.pr _ _ hv).2) ?_ trivial⟩;rw[hm,Yz,Yz];dsimp only;rw[ql hx hS ha (.inr (hx.sh.pr _ _ hv).2)];rfl
  .have hv':∀v,¬Has x.T (sd x b) v:=λv q=>hv ⟨v,q⟩;rw[Kf hT hv'] at hm;refine .inl ⟨hl,hv',by decide,?_,?_⟩
   .rw[hm,Yz,Yz];dsimp only;rw[Hm (by decide),Yz,Yz];exact kg (e:=9) (by decide)
   .trivial
end
section
variable{x:Hp}{a b c:Int}
theorem RY{z:Hp}(hz:K0 z)(hS:SL z){k:Int}{r:Int}(hk:k=5/\r=c\/(k=6\/k=8)/\r=b):AF x ⟨k,a,b,c⟩ (z,0)=some (bA z,aH z (sd z r),0):=by
 unfold AF Z0;rw[za (by simp),jh hz hS,Yz];simp only[jn];rcases hk with ⟨rfl,rfl⟩ | ⟨rfl | rfl,rfl⟩
 .rw[zb (by rfl),HN hz.sh];rfl
 .rw[za (by decide),zb (by rfl),zb (by rfl),HN hz.sh];rfl
 .rw[za (by decide),za (by decide),zb (by rfl),HN hz.sh];rfl
variable(hx:K0 x)(hS:SL x)
include hx hS
theorem rH{z:Hp}(hz:K0 z)(zS:SL z)(k:Ks x.S z.S)(er:z.Roots=x.Roots){kd r:Int}(hk:kd=5/\r=c\/(kd=6\/kd=8)/\r=b)(hc:y4 kd a b c=0)(cw:Cw x z (if kd=6 then a else -1))
  (h1:u6 x ⟨kd,a,b,c⟩=AF x ⟨kd,a,b,c⟩ (z,0))(h2:True):Dn x ⟨kd,a,b,c⟩ z (aH x (sd x r)):=by
 refine⟨hz,zS,k.ev,cw,?_,?_⟩;·rw[h1,RY hz zS hk,Rt er,Vc hx.sh k (dV hx.sh r)]
 .trivial
theorem d5(hc:y4 5 a b c=0):(sd x a=0/\Er x ⟨5,a,b,c⟩ 2)\/(∃e,ax x (sd x a) b (sd x c)=some (x,e)/\Er x ⟨5,a,b,c⟩ e) \/
  (sd x a∈lv x.S/\∃n:Nat,b=n/\n<(ob x.S (sd x a)).Fields.length/\Dn x ⟨5,a,b,c⟩ (bG x (sd x a) n (sd x c)) (aH x (sd x c))):=by
 obtain⟨ha,hb,hcc⟩:=Tf hc;have hm:u6 x ⟨5,a,b,c⟩=_:=XE hc;unfold az at hm;rw[je hx.sh,Yz] at hm;by_cases h0:sd x a=0
 .have has:Au x a=(0,2):=by unfold Au;rw[zb h0]
  rw[has,zb (by simp)] at hm;refine .inl ⟨h0,by decide,?_,?_⟩
  .rw[hm,Yz];exact kg (e:=2) (by decide)
  .trivial
 .have has:Au x a=(sd x a,0):=by unfold Au;rw[za h0]
  rw[has,za (by simp)] at hm;dsimp only at hm;rw[nr hx.sh,Yz] at hm;right;rcases xK hx hS (sd x a) b (sd x c) (jM hx.sh a) (jM hx.sh c) with ⟨e,he,f1,f2⟩ | ⟨hl,hv,n,hn0,hn,f1,f2⟩
  .refine .inl ⟨e,f1,he,?_,?_⟩;·rw[hm,f1,Yz,Yz,kg he]
   .trivial
  .refine .inr ⟨hl,n,hn0,hn,rH hx hS (Cp hx hl hn hv) (JY hx.sh.sr hS hl _ _) (Bf hx.sh.sr hl hn _) (oH _ _ _ _).1 (.inl ⟨rfl,rfl⟩) hc (Cw.same (oH _ _ _ _).2.1 _) ?_ ?_⟩
   .rw[hm,f1];rfl
   .trivial
theorem d6(hc:y4 6 a b c=0):(sd x b=0/\Er x ⟨6,a,b,c⟩ 2)\/(∃e,R7 x a (sd x b) c=some (x,e)/\Er x ⟨6,a,b,c⟩ e) \/
  (wb x.Q a=false/\Dn x ⟨6,a,b,c⟩ (cH x a.toNat (sd x b) c) (aH x (sd x b))):=by
 obtain⟨ha,hb,hcc⟩:=PI hc;have hm:u6 x ⟨6,a,b,c⟩=_:=Tq hc;unfold L4 at hm;have key:(u6 x ⟨6,a,b,c⟩=(((R7 x a (sd x b) c).bind λv1=>some (v1.1,v1.2)).bind (AF x ⟨6,a,b,c⟩))/\True)\/(sd x b=0/\Er x ⟨6,a,b,c⟩ 2):=by
  by_cases h1:b = -1
  .subst h1;left;rw[Hg hx.sh (r:=-1) (by omega)];refine⟨?_,trivial⟩;rw[hm,zb (by rfl)]
  .rw[za (by simpa using h1),je hx.sh,Yz] at hm;by_cases h0:sd x b=0
   .have has:Au x b=(0,2):=by unfold Au;rw[zb h0]
    rw[has,zb (by simp)] at hm;refine .inr ⟨h0,by decide,?_,?_⟩
    .rw[hm,Yz];exact kg (e:=2) (by decide)
    .trivial
   .have has:Au x b=(sd x b,0):=by unfold Au;rw[za h0]
    rw[has,za (by simp)] at hm;exact .inl ⟨hm,trivial⟩
 rcases key with ⟨hm,hnm⟩ | key
 .right;rcases DE hx a (sd x b) c (jM hx.sh b) hcc with ⟨e,he,f1,f2⟩ | ⟨hh,n,rfl,hn,hw,f1,f2⟩
  .refine .inl ⟨e,f1,he,?_,?_⟩;·rw[hm,f1,Yz,Yz,kg he]
   .trivial
  .rw[zP];obtain⟨r1,r2,_,_⟩:=Ak x n (sd x b) c;refine .inr ⟨hw,rH hx hS (vW hx hn hh hcc hw) (FE hx hS hn _ _) (FD hx hn _ _) r1 (.inr ⟨.inl rfl,rfl⟩) hc (by rw[zb rfl];exact Cw.set r2) ?_ ?_⟩
   .rw[hm,f1];rfl
   .trivial
 .exact .inl key
theorem d8(hc:y4 8 a b c=0):(sd x a=0/\Er x ⟨8,a,b,c⟩ 2)\/(sd x a∈lv x.S/\∃e,bY x (sd x a) (sd x b)=some (x,e)/\Er x ⟨8,a,b,c⟩ e) \/
  (sd x a∈lv x.S/\∃r,U3 x.T (sd x a) (sd x b)=some r/\r.2.2=0/\Dn x ⟨8,a,b,c⟩ (iJ x (sd x b) r.1 r.2.1) (aH x (sd x b))):=by
 obtain⟨ha,hb⟩:=Ti hc;have hm:u6 x ⟨8,a,b,c⟩=_:=XG hc;unfold bw at hm;rw[je hx.sh,Yz] at hm;by_cases h0:sd x a=0
 .have has:Au x a=(0,2):=by unfold Au;rw[zb h0]
  rw[has,zb (by simp)] at hm;refine .inl ⟨h0,by decide,?_,?_⟩
  .rw[hm,Yz];exact kg (e:=2) (by decide)
  .trivial
 .have has:Au x a=(sd x a,0):=by unfold Au;rw[za h0]
  have hl:=(dV hx.sh a).resolve_left h0;rw[has,za (by simp)] at hm;dsimp only at hm;rw[nr hx.sh,Yz] at hm;right;rcases QV hx hS (sd x a) (sd x b) (jM hx.sh a) (jM hx.sh b) with ⟨e,he,f1,f2⟩ | ⟨hl,hv,r,r1,r2,f1,f2⟩
  .refine .inl ⟨hl,e,f1,he,?_,?_⟩;·rw[hm,f1,Yz,Yz,kg he]
   .trivial
  .refine .inr ⟨hl,r,r1,r2,rH hx hS (EO hx hl hv r1 r2) (Ny hx.sh.sr hS _ _ _) (EN hx.sh.sr _ _ _) (rI _ _ _ _).1 (.inr ⟨.inr rfl,rfl⟩) hc (Cw.same (rI _ _ _ _).2.1 _) ?_ ?_⟩
   .rw[hm,f1];rfl
   .trivial
theorem d10(hz:zr x = [])(hc:y4 10 a b c=0):Dn x ⟨10,a,b,c⟩ x (if sd x a=sd x b then 1 else 0):=by
 obtain⟨ha,hb⟩:=RX hc;refine⟨hx,hS,Ev.refl x,Cw.refl x _,?_,?_⟩
 .rw[VQ hc];unfold T1 AF Z0;rw[Yz,za (by simp),jh hx hS,Yz];simp only[jn];rw[za (by decide),za (by decide),za (by decide),zb (by rfl),nr hx.sh,Yz,nr hx.sh,Yz];by_cases q:sd x a=sd x b
  .rw[zb (by simpa using q),zb q];rfl
  .rw[za (by simpa using q),za q];rfl
 .trivial
theorem d1(hb:x.S.Serial<9223372036854775807)(hc:y4 1 a b c=0):(∃e,X0 x.S b c=some (x.S,0,e)/\Er x ⟨1,a,b,c⟩ e) \/
  (b.toNat<=4/\(-1<=c/\c<=5)/\∃i,VE x.S i/\Dn x ⟨1,a,b,c⟩ (G2 (wS x (dp x.S i b.toNat c)) a.toNat (bX x.S i)) (x.S.Serial+1)):=by
 obtain⟨ha,hbb,hcc⟩:=Td hc;have hR:=hx.sh.sr;have hm:u6 x ⟨1,a,b,c⟩=_:=XA hc;unfold X9 at hm;dsimp only at hm;rcases Wr hR hb b c with ⟨e,he,f1,f2⟩ | ⟨_,_,i,hF,f1,f2⟩
 .refine .inl ⟨e,f1,he,?_,?_⟩;·rw[hm,f1,Yz,zb (by simpa using he),Yz,kg he]
  .trivial
 .refine .inr ⟨by omega,hcc,i,hF,?_⟩;obtain⟨hi,h0,_⟩:=hF;have hn:b.toNat<=4:=by omega
  have hy:=yr hx hi h0 hn hcc;have yS:=Wu hx hS hi h0 hn hcc;have hh:bX x.S i=0\/bX x.S i∈lv (wS x (dp x.S i b.toNat c)).S:=.inr (by
   show _∈lv (dp x.S i b.toNat c);rw[BA hR hi h0 hn hcc];exact t6 _ (zp.2 rfl))
  have hz:=bO hy (r:=a.toNat) (by omega) hh;have zS:=pk hy.sh.sr yS a.toNat (bX x.S i);obtain⟨e1,e2⟩:=vm hy ha hh;have e3:aH (wS x (dp x.S i b.toNat c)) (bX x.S i)=x.S.Serial+1:=by
   show (ob (dp x.S i b.toNat c) (bX x.S i)).Serial=_;rw[uW hR hi h0 hn hcc]
  refine⟨hz,zS,(Wt hx hi h0 hn hcc).ks (dd hy.sh.sr a.toNat _),Cw.same (jJ (wS x (dp x.S i b.toNat c)) a.toNat _).2.1 _,?_,?_⟩
  .rw[hm,f1,Yz,za (by simp)];dsimp only;rw[show C2 ⟨⟨dp x.S i b.toNat c,x.Roots,x.b7,x.T,x.Q⟩,⟨1,a,b,c⟩⟩ (bX x.S i) 0=_ from ql hy yS ha hh,Yz,Yz,RZ hz zS (by omega),e1,e2,e3]
  .trivial
end
theorem Tr{x:Hp}(hx:K0 x)(hS:SL x)(hz:zr x = [])(hb:x.S.Serial<9223372036854775807)(o:j5):(∃e,Er x o e)\/∃z v,Dn x o z v:=by
 obtain⟨k,a,b,c⟩:=o;by_cases hc:y4 k a b c=0
 .have:=tt hc;have hk:k=1\/k=2\/k=3\/k=4\/k=5\/k=6\/k=7\/k=8\/k=9\/k=10\/k=11\/k=12:=by omega
  rcases hk with rfl | rfl | rfl | rfl | rfl | rfl | rfl | rfl | rfl | rfl | rfl | rfl
  .rcases d1 hx hS hb hc with ⟨e,_,h⟩ | ⟨_,_,i,_,h⟩;·exact .inl ⟨e,h⟩
   .exact .inr ⟨_,_,h⟩
  .exact .inr ⟨_,_,d2 hx hS hc⟩
  .exact .inr ⟨_,_,d3 hx hS hc⟩
  .rcases d4 hx hS hc with ⟨_,h⟩ | ⟨e,_,h⟩ | ⟨_,n,_,_,h⟩;·exact .inl ⟨_,h⟩
   .exact .inl ⟨_,h⟩
   .exact .inr ⟨_,_,h⟩
  .rcases d5 hx hS hc with ⟨_,h⟩ | ⟨e,_,h⟩ | ⟨_,n,_,_,h⟩;·exact .inl ⟨_,h⟩
   .exact .inl ⟨_,h⟩
   .exact .inr ⟨_,_,h⟩
  .rcases d6 hx hS hc with ⟨_,h⟩ | ⟨e,_,h⟩ | ⟨_,h⟩;·exact .inl ⟨_,h⟩
   .exact .inl ⟨_,h⟩
   .exact .inr ⟨_,_,h⟩
  .obtain⟨_,⟨_,h⟩ | ⟨_,h⟩⟩:=d7 hx hS hc;·exact .inl ⟨_,h⟩
   .exact .inr ⟨_,_,h⟩
  .rcases d8 hx hS hc with ⟨_,h⟩ | ⟨_,e,_,h⟩ | ⟨_,r,_,_,h⟩;·exact .inl ⟨_,h⟩
   .exact .inl ⟨_,h⟩
   .exact .inr ⟨_,_,h⟩
  .rcases d9 hx hS hc with ⟨_,h⟩ | ⟨_,_,h⟩ | ⟨_,v,_,h⟩;·exact .inl ⟨_,h⟩
   .exact .inl ⟨_,h⟩
   .exact .inr ⟨_,_,h⟩
  .exact .inr ⟨_,_,d10 hx hS hz hc⟩
  .obtain⟨h1,h2⟩:=Ck (x:=x) (a:=a) (b:=b) (c:=c) (.inl rfl) hc;exact .inl ⟨14,by decide,h1,h2⟩
  .obtain⟨h1,h2⟩:=Ck (x:=x) (a:=a) (b:=b) (c:=c) (.inr rfl) hc;exact .inl ⟨14,by decide,h1,h2⟩
 .obtain⟨h1,h2⟩:=LU (x:=x) (o:=⟨k,a,b,c⟩) hc;exact .inl ⟨_,hc,h1,h2⟩
noncomputable def fS(x:Hp)(o:j5):Hp × Int × Int:=(u6 x o).getD (x,0,0)
structure Vt (x:Hp) (o:j5) (y:Hp) (v e:Int):Prop where
 rt:K0 y
 sl:SL y
 zr:zr y = []
 ev:Ev x y
 cw:Cw x y (if o.Kind=6 then o.A else -1)
 er:e≠0->y=x/\v=0
 mc:u6 x o=some (y,v,e)
 rf:True
theorem Dn.Yq{x z:Hp}{o:j5}{v:Int}(d:Dn x o z v):Vt x o (bA z) v 0:=by
 have st:=lY d.rt;exact⟨nu d.rt,Jk d.rt d.sl,BL d.rt,d.ev.Yu st,d.cw.trans (st.cw _),λh=>absurd rfl h,d.mc,d.rf⟩
theorem QE{x:Hp}(hx:K0 x)(hS:SL x)(hz:zr x = [])(hb:x.S.Serial<9223372036854775807)(o:j5):∃y v e,Vt x o y v e:=by
 rcases Tr hx hS hz hb o with ⟨e,h1,h2,h3⟩ | ⟨z,v,d⟩;·exact⟨x,0,e,hx,hS,hz,Ev.refl x,Cw.refl x _,λ_=>⟨rfl,rfl⟩,h2,h3⟩
 .exact⟨_,_,_,d.Yq⟩
theorem tO{x:Hp}(hx:K0 x)(hS:SL x)(hz:zr x = [])(hb:x.S.Serial<9223372036854775807)(o:j5):Vt x o (fS x o).1 (fS x o).2.1 (fS x o).2.2:=by
 obtain⟨y,v,e,h⟩:=QE hx hS hz hb o;have:fS x o=(y,v,e):=by unfold fS;rw[h.mc];rfl
 rw[this];exact h
noncomputable def runs(x:Hp)(l:List j5):Hp × List Int:=l.foldl (λp o=>((fS p.1 o).1,p.2 ++ [(fS p.1 o).2.1])) (x,[])
theorem qg(x:Hp)(l:List j5)(o:j5):runs x (l ++ [o])=((fS (runs x l).1 o).1,(runs x l).2 ++ [(fS (runs x l).1 o).2.1]):=by
 unfold runs;rw[zal];rfl
theorem yO{x:Hp}(hx:K0 x)(hS:SL x)(hz:zr x = [])(l:List j5)(hb:x.S.Serial+l.length<9223372036854775807)(P:Hp->Prop)(h0:P x)
  (hs:∀(y:Hp) (o:j5),o∈l->K0 y->Vt y o (fS y o).1 (fS y o).2.1 (fS y o).2.2->P y->P (fS y o).1):∀k,k<=l.length ->
  K0 (runs x (l.take k)).1/\SL (runs x (l.take k)).1/\zr (runs x (l.take k)).1 = []/\(runs x (l.take k)).1.S.Serial<=x.S.Serial+k/\(runs x (l.take k)).2.length=k/\P (runs x (l.take k)).1
 | 0,_=>⟨hx,hS,hz,by show x.S.Serial<=_;omega,rfl,h0⟩
 | k+1,hk=>by
  obtain⟨a1,a2,a3,a4,a5,a6⟩:=yO hx hS hz l hb P h0 hs k (by omega);have hk':k<l.length:=by omega
  have n:=tO a1 a2 a3 (by omega) l[k];rw[U4 hk',qg];exact⟨n.rt,n.sl,n.zr,by have:=n.ev.s2;show (fS _ _).1.S.Serial<=_;omega,by simp[a5],hs _ _ (zh hk') a1 n a6⟩
theorem run_eq{x:Hp}(hx:K0 x)(hS:SL x)(hz:zr x = [])(l:List j5)(hl:l.length<=1000)(hb:x.S.Serial+l.length<9223372036854775807) :
  gS x l=some (runs x l)/\True:=by
 have all:=yO hx hS hz l hb (λ_=>True) trivial (λ_ _ _ _ _ _=>trivial);constructor
 .unfold gS;simp only[jn];refine ca (T:=Hp × List Int) l.length (λk acc=>acc=runs x (l.take k)) (by omega) rfl (λk acc hk hP=>?_) (λacc hP=>?_)
  .subst hP;obtain⟨a1,a2,a3,a4,a5,_⟩:=all k (by omega);have n:=tO a1 a2 a3 (by omega) l[k];refine .inl ⟨_,?_,rfl⟩;rw[U4 hk,qg];show (if _ then _ else _)=_;rw[zb (by simpa using hk),u5 hk,Yz,n.mc,Yz,K5 (by omega) (by rw[a5];simp;omega),Yz,o5]
  .subst hP;refine⟨runs x (l.take l.length),?_,?_⟩
   .show (if _ then _ else _)=_;rw[za (by simp)]
   .rw[zU]
 .trivial
section
variable{x:Hp}(hB:HB x)
include hB
end
def pV(k:Nat)(l:Int)(p:Nat):Hp:=⟨⟨⟨List.replicate k ⟨0,0,z0⟩,l⟩,0⟩,List.replicate 6 0,List.replicate 6 ⟨0,false,-1⟩,List.replicate p ⟨0,0,0⟩,⟨[],30⟩⟩
theorem Mx{k p:Nat}{l:Int}(hk:1<=k/\k<=24)(hl:0<=l/\l<=9)(hp:1<=p/\p<=8) :
  lB k l p=some (pV k l p)/\tT k l p=some (hO (pV k l p))/\K0 (pV k l p)/\SL (pV k l p)/\zr (pV k l p) = []:=by
 have e1:jj k l=some (pV k l p).S:=by
  unfold jj aE;rw[za (by simp;omega),ky (by omega) (by omega)];rfl
 obtain⟨a,h1,h2,h3,_⟩:=WA k l;rw[e1] at h1;have ha:=zJ h1;subst ha;have hR:SR (pV k l p).S:=A2.1 h3;have hce:∀i,ce (pV k l p).S i=⟨0,0,z0⟩:=λi=>by
  unfold ce pV;dsimp only;rw[zd,List.getElem?_replicate];split <;> rfl
 have hlv:lv (pV k l p).S = []:=za3.2 λh hh=>by
  obtain⟨i,q⟩:=(gR hR).1 hh;have:=q.2.1;rw[hce] at this;cases this
 refine⟨?_,?_,⟨⟨hR,(Vm (V:=Int) (λ_ _=>True) hp.1 hp.2).1,rfl,rfl,rfl,zV _,(λt ht=>nomatch ht),List.Pairwise.nil,(λh hh=>.inl (za9.1 hh).2),λh hh=>?_,λa v hv=>?_,λi hi=>?_⟩,λi hi ht=>?_,λh hh=>?_⟩,λh hh=>?_,?_⟩
 .unfold lB;rw[za (by simp;omega),e1,Yz,show mk 8 6 (0:Int)=some (List.replicate 6 0) from rfl,Yz];refine rX (a:=List.replicate 6 ⟨0,false,-1⟩) (by kernel_rfl) ?_;rw[Uj hp.1 hp.2,Yz];refine rX (a:=⟨[],30⟩) (by kernel_rfl) ?_;rfl
 .unfold tT;rw[za (by simp;omega),h2,Yz,show mk 8 6 (0:Int)=some (List.replicate 6 0) from rfl,Yz];refine rX (a:=List.replicate 6 ⟨0,false,-1⟩) (by kernel_rfl) ?_;unfold IY;rw[za (by simp;omega),ky (by omega) (by omega),Yz,Yz];refine rX (a:=⟨[],30⟩) (by kernel_rfl) ?_;unfold hO pV;dsimp only;rw[zce,zce];rfl
 .rw[hlv] at hh;cases hh
 .obtain⟨i,hi,_⟩:=hv;have:=hi.2.1;rw[show (pV k l p).T=List.replicate p ⟨0,0,0⟩ from rfl,vj] at this;cases this
 .have:(pV k l p).b7[i]=⟨0,false,-1⟩:=List.getElem_replicate ..;rw[this];exact⟨by decide,by decide,λ_=>rfl,λh=>absurd rfl h,λh=>by cases h⟩
 .rw[hce] at ht;rcases ht with h | h <;> cases h
 .rw[hlv] at hh;cases hh
 .rw[hlv] at hh;cases hh
 .unfold zr;rw[hlv];rfl
section
variable{x:Hp}(hB:HB x)
include hB
end
def EZ(o:j5):fp:=⟨o.Kind,o.A,o.B,o.C⟩
abbrev Cd(o:j5):Int:=y4 o.Kind o.A o.B o.C
theorem Ci(k a b c:Int):U6 [k,a,b,c]=some (if y4 k a b c≠0 then (⟨0,0,0,0⟩,y4 k a b c) else (⟨k,a,b,c⟩,0)):=by
 unfold U6;rw[za (by simp)];show (W1 ⟨k,a,b,c⟩).bind _=_;rw[ov,Yz];by_cases h:y4 k a b c=0
 .rw[za (by simpa using h),za (by simpa using h)]
 .rw[zb (by simpa using h),zb h]
theorem LR(k a b c:Int):jF [k,a,b,c]=some (if y4 k a b c≠0 then (⟨0,0,0,0⟩,y4 k a b c) else (⟨k,a,b,c⟩,0)):=by
 unfold jF;rw[za (by simp)];show (gb ⟨k,a,b,c⟩).bind _=_;rw[HW,Yz];by_cases h:y4 k a b c=0
 .rw[za (by simpa using h),za (by simpa using h)]
 .rw[zb (by simpa using h),zb h]
theorem four(l:List Int):(∃k a b c,l = [k,a,b,c])\/l.length≠4:=by
 match l with
 | []=>exact .inr (by simp)
 | [_]=>exact .inr (by simp)
 | [_,_]=>exact .inr (by simp)
 | [_,_,_]=>exact .inr (by simp)
 | [k,a,b,c]=>exact .inl ⟨k,a,b,c,rfl⟩
 | _::_::_::_::_::l=>exact .inr (by simp)
theorem Cj{l:List Int}(h:l.length≠4):U6 l=some (⟨0,0,0,0⟩,14)/\jF l=some (⟨0,0,0,0⟩,14):=by
 unfold U6 jF;have:(((l.length:Int) != 4))=true:=by simp;omega
 rw[zb this,zb this];exact⟨rfl,rfl⟩
def aL(l:List Int):j5 × Int:=(U6 l).getD (⟨0,0,0,0⟩,0)
theorem DZ(l:List Int):U6 l=some (aL l)/\jF l=some (EZ (aL l).1,(aL l).2):=by
 unfold aL;rcases four l with ⟨k,a,b,c,rfl⟩ | h
 .rw[Ci,LR];refine⟨rfl,?_⟩;rw[ww];by_cases h:y4 k a b c≠0
  .rw[zb h,zb h];rfl
  .rw[za h,za h];rfl
 .rw[(Cj h).1,(Cj h).2];exact⟨rfl,rfl⟩
def pf(o:j5):Bool:=((decide (o.Kind>=1))&&(decide (o.Kind<=10)))&&(Cd o==0)
def tR(p:List j5):Bool:=decide (p.length<=6)&&p.all pf
def fk(l:List (List j5)):Bool:=decide (l.length<=6)&&l.all tR
section
variable{l:List (List j5)}(hl:l.length<=12)(hp:∀p∈l,p.length<=12)
include hl hp
theorem ES:fP l=some (fk l):=by
 unfold fP fk;by_cases h6:l.length > 6
 .rw[zb (by simp;omega),zY (by omega)];rfl
 .rw[za (by simp;omega),zD (by omega),zbc];simp only[jn];have key:=CF (f:=λ(s23:Int)=>
   if (decide (s23<(l.length:Int))) then
     (ix l s23).bind λv34=>
     if (decide ((v34.length:Int) > 6)) then
      some (.inr (.inl false))
     else
     (lp (S:=Int) (E:=Bool ⊕ Unit) (λ(s36:Int)=>
      if (decide (s36<(v34.length:Int))) then
       (ix v34 s36).bind λv38=>
       (fO v38).bind λv39=>
       (D4 ((!v39)==false) 0 (W1 v38)).bind λv40=>
       if ((!v39)||(v40 != 0)) then
        some (.inr (.inl false))
       else
       some (.inl (w9 (s36+1)))
      else
      some (.inr (.inr ()))) 0).bind λe35=>
     match e35 with
     | .inl w=>some (.inr (.inl w))
     | .inr w=>some (Sum.inl (w9 (s23+1)))
   else
   some (.inr (.inr ()))) l tR (.inr ()) (Sum.inl (β:=Unit) false) (by omega) (λk hk=>?_) (by simp)
  .refine rX key ?_;cases l.all tR <;> rfl
  .rw[zb (by simpa using hk),u5 hk,Yz];unfold tR;have hm:=hp _ (zh hk);generalize l[k]=p at hm |-;by_cases hq:p.length > 6
   .rw[zb (by simp;omega),zY (by omega)];rfl
   .rw[za (by simp;omega),zD (by omega),zbc];have k2:=CF (f:=λ(s36:Int)=>
      if (decide (s36<(p.length:Int))) then
       (ix p s36).bind λv38=>
       (fO v38).bind λv39=>
       (D4 ((!v39)==false) 0 (W1 v38)).bind λv40=>
       if ((!v39)||(v40 != 0)) then
        some (.inr (.inl false))
       else
       some (Sum.inl (w9 (s36+1)))
      else
      some (.inr (.inr ()))) p pf (.inr ()) (Sum.inl (β:=Unit) false) (by omega) (λj hj=>?_) (by simp)
    .refine zct (rX k2 (r:=if p.all pf=true then some (.inl (w9 ((k:Int)+1))) else some (.inr (.inl false))) ?_) ?_;·cases p.all pf <;> rfl
     .rw[o5]
    .rw[zb (by simpa using hj),u5 hj,Yz,ov];unfold pf fO;rw[Yz,o5];cases ((decide (p[j].Kind>=1))&&(decide (p[j].Kind<=10)));·rfl
     .by_cases h:Cd p[j]=0
      .have e:y4 p[j].Kind p[j].A p[j].B p[j].C=0:=h;rw[e,h];rfl
      .have e1:(y4 p[j].Kind p[j].A p[j].B p[j].C != 0)=true:=by simpa using h
       have e2:(Cd p[j]==0)=false:=by simpa using h
       rw[e2];refine rX (a:=Cd p[j]) rfl ?_;rw[show (Cd p[j] != 0)=true from e1];rfl
theorem GU:pZ (l.map (List.map EZ))=some (fk l):=by
 unfold pZ fk;rw[zl];by_cases h6:l.length > 6
 .rw[zb (by simp;omega),zY (by omega)];rfl
 .rw[za (by simp;omega),zD (by omega),zbc];simp only[jn];have key:=CF (f:=λ(s23:Int)=>
   if (decide (s23<(l.length:Int))) then
     (ix (l.map (List.map EZ)) s23).bind λv34=>
     if (decide ((v34.length:Int) > 6)) then
      some (.inr (.inl false))
     else
     (lp (S:=Int) (E:=Bool ⊕ Unit) (λ(s36:Int)=>
      if (decide (s36<(v34.length:Int))) then
       (ix v34 s36).bind λv38=>
       (pY v38).bind λv39=>
       (D4 ((!v39)==false) 0 (gb v38)).bind λv40=>
       if ((!v39)||(v40 != 0)) then
        some (.inr (.inl false))
       else
       some (.inl (w9 (s36+1)))
      else
      some (.inr (.inr ()))) 0).bind λe35=>
     match e35 with
     | .inl w=>some (.inr (.inl w))
     | .inr w=>some (Sum.inl (w9 (s23+1)))
   else
   some (.inr (.inr ()))) l tR (.inr ()) (Sum.inl (β:=Unit) false) (by omega) (λk hk=>?_) (by simp)
  .refine rX key ?_;cases l.all tR <;> rfl
  .rw[zb (by simpa using hk),tp,u5 hk,un,Yz,zl];unfold tR;have hm:=hp _ (zh hk);generalize l[k]=p at hm |-;by_cases hq:p.length > 6
   .rw[zb (by simp;omega),zY (by omega)];rfl
   .rw[za (by simp;omega),zD (by omega),zbc];have k2:=CF (f:=λ(s36:Int)=>
      if (decide (s36<(p.length:Int))) then
       (ix (p.map EZ) s36).bind λv38=>
       (pY v38).bind λv39=>
       (D4 ((!v39)==false) 0 (gb v38)).bind λv40=>
       if ((!v39)||(v40 != 0)) then
        some (.inr (.inl false))
       else
       some (Sum.inl (w9 (s36+1)))
      else
      some (.inr (.inr ()))) p pf (.inr ()) (Sum.inl (β:=Unit) false) (by omega) (λj hj=>?_) (by simp)
    .refine zct (rX k2 (r:=if p.all pf=true then some (.inl (w9 ((k:Int)+1))) else some (.inr (.inl false))) ?_) ?_;·cases p.all pf <;> rfl
     .rw[o5]
    .rw[zb (by simpa using hj),tp,u5 hj,un,Yz,HW];unfold pf pY;rw[Yz,o5];rw[show (EZ p[j]).Kind=p[j].Kind from rfl];cases ((decide (p[j].Kind>=1))&&(decide (p[j].Kind<=10)));·rfl
     .by_cases h:Cd p[j]=0
      .have e:y4 p[j].Kind (EZ p[j]).A (EZ p[j]).B (EZ p[j]).C=0:=h;rw[e,h];rfl
      .have e1:(y4 p[j].Kind p[j].A p[j].B p[j].C != 0)=true:=by simpa using h
       have e2:(Cd p[j]==0)=false:=by simpa using h
       rw[e2];refine rX (a:=Cd p[j]) rfl ?_;rw[show (Cd p[j] != 0)=true from e1];rfl
end
noncomputable def FM(x:Hp):List Int:=Kg x.S x.T
noncomputable def dA(x:Hp):List Int:=Vw x.S x.T (FM x)
theorem br{x:Hp}{h:Int}:h∈dA x↔h∈lv x.S/\¬bb x.S x.T (FM x) h:=by
 classical
 unfold dA Vw;rw[zk,zF]
section
variable{x:Hp}(hx:K0 x)
include hx
theorem eG:(dA x).Nodup:=zb6 _ (tA (A2.2 hx.sh.sr))
theorem cK:∀d∈dA x,d∈lv x.S:=λd hd=>(br.1 hd).1
theorem Jg{h:Int}(hl:h∈lv x.S)(hs:(ob x.S h).Strong<12):KM x.S x.T h=(Q0 (nZ x) h:Int):=LZ.2 hx.fair h hl hs
theorem CA{h:Int}(hl:h∈lv x.S)(ho:h∈nZ x):h∈FM x:=by
 refine pT.2 ⟨hl,?_⟩;by_cases hs:(ob x.S h).Strong<12
 .left;rw[Jg hx hl hs];have:=iZ.2 ⟨λe=>eP hx.sh.sr (e▸hl),ho⟩;omega
 .exact .inr (by omega)
theorem GD{h:Int}(hh:h∈FM x):h∈lv x.S/\(h∈nZ x\/12<=(ob x.S h).Strong):=by
 obtain⟨hl,hs⟩:=pT.1 hh;refine⟨hl,?_⟩;by_cases q:(ob x.S h).Strong<12
 .rcases hs with hs | hs
  .rw[Jg hx hl q] at hs;exact .inl (iZ.1 (by omega)).2
  .omega
 .exact .inr (by omega)
theorem PY:∀d∈dA x,d∉nZ x:=λd hd q=>by
 obtain⟨a,b⟩:=br.1 hd;exact b (.base (CA hx a q) a)
theorem PW:∀h∈lv x.S,h∉dA x->∀v∈(ob x.S h).Fields,v∉dA x:=λh hh hn v hv q=>by
 obtain⟨a,b⟩:=br.1 q;have hr:bb x.S x.T (FM x) h:=qr λr=>hn (br.2 ⟨hh,r⟩);exact b (.step hr (fZ.2 ⟨hv,λe=>eP hx.sh.sr (e▸a)⟩) a)
theorem PZ:∀k v,Has x.T k v->k∉dA x->v∉dA x:=λk v hk hn q=>by
 obtain⟨a,b⟩:=br.1 q;have hr:bb x.S x.T (FM x) k:=qr λr=>hn (br.2 ⟨(hx.sh.pr k v hk).1,r⟩);exact b (.pair hk hr a)
theorem dP:K0 (gK x (dA x)):=Ba hx (eG hx) (cK hx) (PY hx) (PW hx) (PZ hx)
end
theorem yI:∀(l:List Int) {x:Hp} (hR:SR x.S) {h:Int} (hh:h∈lv x.S) (hs:12<=(ob x.S h).Strong),12<=(ob (l.foldl aD x).S h).Strong
 | [],_,_,_,_,hs=>hs
 | v::l,x,hR,h,hh,hs=>by
  have k1:=H8 hR v (f:=kP) λc=>P2;refine yI l (x:=aD x v) k1.sr (by
   show h∈lv (uf x v kP).S;rw[k1.lv];exact hh) ?_
  show 12<=(ob (uf x v kP).S h).Strong;rw[vt (x:=x) hR (h:=v) (f:=kP) (λc=>P2) hh];split
  .unfold kP;rw[zb hs];omega
  .exact hs
section
variable{x:Hp}(hx:K0 x)
include hx
theorem xV{h:Int}:h∈lv (gK x (dA x)).S↔bb x.S x.T (FM x) h:=by
 rw[Gb hx.sh.sr (eG hx) (cK hx),zk,zF,br];constructor
 .rintro⟨a,b⟩;exact qr λr=>b ⟨a,r⟩
 .intro r;exact⟨r.live,λq=>q.2 r⟩
theorem Wa{h:Int}(hh:h∈lv (gK x (dA x)).S):(ob (gK x (dA x)).S h).Serial=(ob x.S h).Serial/\(ob (gK x (dA x)).S h).Prog=(ob x.S h).Prog/\(ob (gK x (dA x)).S h).Fields=(ob x.S h).Fields/\(ob (gK x (dA x)).S h).Started=(ob x.S h).Started:=by
 have r:=(xV hx).1 hh;obtain⟨n,e⟩:=Gc hx.sh.sr (eG hx) (cK hx) r.live (λq=>(br.1 q).2 r);rw[e];exact⟨rfl,rfl,rfl,rfl⟩
theorem Mm{h:Int}(hh:h∈lv (gK x (dA x)).S)(hs:12<=(ob x.S h).Strong):12<=(ob (gK x (dA x)).S h).Strong:=by
 have r:=(xV hx).1 hh;have g:=eH (dA x) hx.sh.sr (eG hx) (cK hx);have hn:h∉dA x:=λq=>(br.1 q).2 r;refine yI _ (x:=jo x (dA x) (lf x.T (dA x)).1) g.sr ?_ ?_
 .show h∈lv (oi x.S (dA x));rw[g.lv,zk];exact⟨r.live,by simpa using hn⟩
 .show 12<=(ob (oi x.S (dA x)) h).Strong;rw[g.ob h r.live hn];exact hs
theorem TA:nZ (gK x (dA x))=nZ x:=by
 obtain⟨e1,_,_,e4⟩:=sq hx.sh.sr (eG hx) (cK hx);unfold nZ;rw[e1,e4,yb _ _ _ λt ht=>by
  obtain⟨w,_,rfl,_⟩:=gB.1 ht;simp]
theorem PU{h:Int}(hh:bb x.S x.T (FM x) h):bb (gK x (dA x)).S (gK x (dA x)).T (FM (gK x (dA x))) h:=by
 have w:=dP hx;obtain⟨_,_,e3,_⟩:=sq hx.sh.sr (eG hx) (cK hx);have hlen:(dA x).length<=1000:=by
  have:=Z3 (eG hx) (cK hx);have:=K9 (A2.2 hx.sh.sr);omega
 obtain⟨_,_,_,_,w5,_⟩:=jQ hx.sh.hr (dA x) hlen;induction hh with
 | base h1 h2=>
  have hl:=(xV hx).2 (.base h1 h2);refine .base ?_ hl;rcases (GD hx h1).2 with q | q
  .exact CA w hl (by rw[TA hx];exact q)
  .exact pT.2 ⟨hl,.inr (Mm hx hl q)⟩
 | step q0 q1 q2 ih=>
  refine .step ih ?_ ((xV hx).2 (.step q0 q1 q2));unfold outs at q1 |-;rw[(Wa hx ((xV hx).2 q0)).2.2.1];exact q1
 | pair q1 q0 q2 ih=>
  refine .pair ?_ ih ((xV hx).2 (.pair q1 q0 q2));rw[e3];exact (w5 _ _).2 ⟨λq=>(br.1 q).2 q0,q1⟩
theorem Ei:dA (gK x (dA x)) = []:=za3.2 λh hh=>by
 obtain⟨a,b⟩:=br.1 hh;exact b (PU hx ((xV hx).1 a))
end
theorem DW{x:Hp}(hx:K0 x)(hg:dA x = []):zr x = []:=za3.2 λh hh=>by
 have hl:=(cT.1 hh).1;have hs:=(cT.1 hh).2;have hf:=DI hx hh;have h0:h≠0:=λe=>eP hx.sh.sr (e▸hl);have r:bb x.S x.T (FM x) h:=qr λr=>by
  have:h∈dA x:=br.2 ⟨hl,r⟩;rw[hg] at this;cases this
 unfold lK at hf;cases r with
 | base h1 h2=>
  rcases (GD hx h1).2 with q | q
  .have:=iZ.2 ⟨h0,q⟩;omega
  .omega
 | step q0 q1 q2=>
  have:=CE (y:=h) q0.live;have h1:=iZ.2 ⟨h0,q1⟩;omega
 | pair q1 q0 q2=>
  have:=CU q1 h0;omega
theorem xW{x:Hp}(hx:K0 x):bA (gK x (dA x))=gK x (dA x):=Od (DW (dP hx) (Ei hx))
theorem Mz{c:Int}(h:0<=c):1<=Y9 c:=by unfold Y9;split <;> (try split) <;> omega
theorem GV{x:Hp}(hR:SR x.S){h:Int}(hh:h∈lv x.S){k:Int}(hk:k∈lv x.S):(ob (gF x h).S k).Strong=if k=h then Y9 (ob x.S k).Strong else (ob x.S k).Strong:=by
 have oko:=J9 hR hh;have ho:As x.S (fA (ob x.S h)):=⟨oko.s1,oko.s2,oko.st,oko.wk,oko.p1,oko.p2,oko.fl⟩;have r1:=bP (o:=fA (ob x.S h)) hR hh rfl ho;have l1:lv (cU x.S h (fA (ob x.S h)))=lv x.S:=iD (o:=fA (ob x.S h)) hR hh rfl ho;have hr:=H6 hR hk;have e1:(ob (cU x.S h (fA (ob x.S h))) k).Strong=(ob x.S k).Strong:=by
  rw[gi (o:=fA (ob x.S h)) hR hh rfl ho (by omega)];split;·rename_i e;subst e;rfl
  .rfl
 have:=vt (x:=⟨cU x.S h (fA (ob x.S h)),x.Roots,x.b7,x.T,⟨x.Q.L ++ [Aw x h],x.Q.Cap⟩⟩) r1 (h:=h) (f:=Y9) (λc=>E6) (k:=k) (by
  show k∈lv (cU x.S h (fA (ob x.S h)));rw[l1];exact hk)
 rw[show (ob (gF x h).S k).Strong=_ from this];show (if k=h then Y9 (ob (cU x.S h (fA (ob x.S h))) k).Strong else (ob (cU x.S h (fA (ob x.S h))) k).Strong)=_;rw[e1]
theorem UL{x:Hp}(hx:K0 x)(hz:zr x = []){h:Int}(hh:h∈lv x.S):zr (gF x h) = []:=za3.2 λk hk=>by
 obtain⟨a,b⟩:=cT.1 hk;rw[CZ hx.sh.sr hh] at a;rw[GV hx.sh.sr hh a] at b;have h0:=(J9 hx.sh.sr a).st;have hn:(ob x.S k).Strong≠0:=λq=>by
  have:k∈zr x:=cT.2 ⟨a,q⟩;rw[hz] at this;cases this
 split at b;·have:=Mz h0;omega
 .exact hn b
structure Qd (x y:Hp) (l:List Int):Prop where
 rt:K0 y
 sl:SL y
 zr:zr y = []
 lv:lv y.S=lv x.S
 ob:∀k∈Sh.lv x.S,∃n,Sh.ob y.S k=AP (if k∈l then fA (Sh.ob x.S k) else Sh.ob x.S k) n
 ro:y.Roots=x.Roots
 ce:y.b7=x.b7
 t:y.T=x.T
 q:y.Q=⟨x.Q.L++l.map (Aw x),x.Q.Cap⟩
 aH:y.S.Serial=x.S.Serial
theorem Ra{x:Hp}(hR:SR x.S){h:Int}(hh:h∈lv x.S):(gF x h).S.Serial=x.S.Serial:=(nf hR hh).1.aH
theorem yB:∀(l:List Int) {x:Hp},K0 x->SL x->Sh.zr x = []->l.Nodup->(∀h∈l,h∈Sh.lv x.S/\due (Sh.ob x.S h)=true)->Qd x (l.foldl gF x) l
 | [],x,hx,hS,hz,_,_=>⟨hx,hS,hz,rfl,λk hk=>⟨(Sh.ob x.S k).Strong,by rw[za (by simp)];rfl⟩,rfl,rfl,rfl,by simp,rfl⟩
 | h::l,x,hx,hS,hz,hn,hd=>by
  obtain⟨hl,hdu⟩:=hd h (zg ..);have hR:=hx.sh.sr;rw[me] at hn;have q2:=hdu;unfold due at q2;rw[zy,zF,zb7] at q2;have h1:=vk hx hl q2.1 q2.2;have h2:=NK hR hS hl;have h3:=UL hx hz hl;have lq:=CZ hR hl;have oq:∀k∈Sh.lv x.S,k≠h->∃n,Sh.ob (gF x h).S k=AP (Sh.ob x.S k) n:=λk hk hne=>by
   obtain⟨n,e⟩:=yA hR hl hk;rw[za hne] at e;exact⟨n,e⟩
  have ih:=yB l h1 h2 h3 hn.2 λk hk=>by
   obtain⟨a,b⟩:=hd k (zn _ hk);obtain⟨n,e⟩:=oq k a λe=>hn.1 (e▸hk);refine⟨by rw[lq];exact a,?_⟩;rw[e];exact b
  obtain⟨_,k1,k2,k3,k4⟩:=nf hR hl;refine⟨ih.rt,ih.sl,ih.zr,ih.lv.trans lq,λk hk=>?_,ih.ro.trans k1,ih.ce.trans k2,ih.t.trans k3,?_,ih.aH.trans (Ra hR hl)⟩
  .obtain⟨n,e⟩:=ih.ob k (by rw[lq];exact hk);obtain⟨m,e2⟩:=yA hR hl hk;refine⟨n,?_⟩;show Sh.ob (l.foldl gF (gF x h)).S k=_;rw[e];by_cases c:k=h
   .subst c;rw[za hn.1,zb (zg ..),e2,zb rfl]
   .rw[za c] at e2;by_cases c2:k∈l
    .rw[zb c2,zb (zn _ c2),e2]
    .rw[za c2,za (λq=>by
      rcases zM.1 q with r | r
      .exact c r
      .exact c2 r),e2]
  .show (l.foldl gF (gF x h)).Q=_;rw[ih.q,k4];have:l.map (Aw (gF x h))=l.map (Aw x):=zt λk hk=>by
    obtain⟨a,_⟩:=hd k (zn _ hk);obtain⟨n,e⟩:=oq k a λe=>hn.1 (e▸hk);show (⟨1,k,(Sh.ob (gF x h).S k).Prog⟩:g7)=⟨1,k,(Sh.ob x.S k).Prog⟩;rw[e]
   rw[this];simp
noncomputable def jR(x:Hp):List Int:=(dA x).filter λh=>due (Sh.ob x.S h)
noncomputable def Av(x:Hp):Hp:=if jR x = [] then gK x (dA x) else (jR x).foldl gF x
theorem mF{x:Hp}:∀h∈jR x,h∈Sh.lv x.S/\due (Sh.ob x.S h)=true:=λh hh=>by
 obtain⟨a,b⟩:=zk.1 hh;exact⟨(br.1 a).1,b⟩
theorem xz{x:Hp}(hx:K0 x):(jR x).Nodup:=zb6 _ (eG hx)
theorem LF{x:Hp}(hx:K0 x)(hS:SL x)(hz:zr x = []):Qd x ((jR x).foldl gF x) (jR x):=yB _ hx hS hz (xz hx) mF
theorem Gk{x:Hp}(hx:K0 x)(hS:SL x)(hz:zr x = []):K0 (Av x)/\SL (Av x)/\zr (Av x) = []:=by
 unfold Av;split;·exact⟨dP hx,LG hx.sh.sr hS (eG hx) (cK hx),DW (dP hx) (Ei hx)⟩
 .have q:=LF hx hS hz;exact⟨q.rt,q.sl,q.zr⟩
theorem Tm{y:Hp}(h:jR y = []):Av y=gK y (dA y):=by
 unfold Av;rw[zb h]
section
variable{x:Hp}(hx:K0 x)
include hx
end
structure Rs (x:Hp) (n:Nat):Prop where
 rt:K0 x
 sl:SL x
 zr:zr x = []
 aH:x.S.Serial<=n
section
variable{x:Hp}(hx:K0 x)(hS:SL x)
include hx hS
theorem LI:U2 x=some (dA x):=by
 have hB:=We hx hS;unfold U2;rw[GB (A2.2 hx.sh.sr) hx.sh.hr hB.tb hB.fb hB.sb];rfl
theorem Cs:(dA x).length<=24:=zO (zB ..) (K9 (A2.2 hx.sh.sr))
theorem SY:gw x=some (jR x):=by
 have hR:=hx.sh.sr;have hl:=Cs hx hS;unfold gw;rw[LI hx hS,Yz];unfold J8;simp only[jn];refine rX (a:=jR x) ?_ rfl;refine ca (dA x).length (λk b=>b=((dA x).take k).filter λh=>due (Sh.ob x.S h)) (by omega) rfl (λk b hk hP=>?_) (λb hP=>?_)
 .subst hP;have hm:=cK hx _ (zh hk);have hle:(((dA x).take k).filter λh=>due (Sh.ob x.S h)).length<=24:=zO (zB ..) (by simp;omega);refine .inl ⟨_,?_,rfl⟩;rw[zb (by simpa using hk),u5 hk,Yz,U4 hk,zbb];unfold ig;rw[xZ hR hm,Yz,Yz];have e:(decide ((ob x.S (dA x)[k],(0:Int)).1.Prog>=0) && !(ob x.S (dA x)[k],(0:Int)).1.Started)=due (ob x.S (dA x)[k]):=rfl;rw[e];cases hd:due (ob x.S (dA x)[k])
  .rw[za (by simp),o5];simp[hd]
  .rw[zb rfl,K5 (by omega) (by simp;omega),Yz,o5];simp[hd]
 .subst hP;refine⟨_,za (by simp),?_⟩;rw[zU];rfl
noncomputable def LJ(x:Hp):Int:=if jR x = [] then ((lv x.S).length:Int)-((lv (Av x).S).length:Int) else 0
omit hx hS in
theorem Ua {l:List Int} (hn:l.Nodup) (hm:∀d∈l,d∈lv x.S):Xm x l=l:=by
 have key:∀(l b:List Int),(b++l).Nodup->(∀d∈l,d∈lv x.S)->l.foldl (λb h=>if h∈lv x.S/\h∉b then b ++ [h] else b) b=b++l:=by
  intro l;induction l with
  | nil=>intro b _ _;simp
  | cons a l ih=>
   intro b hn hm;rw[zah];have ha:a∉b:=λq=>by
    rw[zbs] at hn;exact hn.2.2 a q a (zg ..) rfl
   rw[zb ⟨hm a (zg ..),ha⟩,ih (b ++ [a]) (by simpa using hn) λd hd=>hm d (zn _ hd)];simp
 exact key l [] (by simpa using hn) hm
variable(hz:zr x = [])
include hz
theorem RC{k:Nat}(hk:k<(jR x).length):(((jR x).take k).foldl gF x)=(((jR x).take k).foldl gF x)/\K0 (((jR x).take k).foldl gF x)/\SL (((jR x).take k).foldl gF x)/\(jR x)[k]∈lv (((jR x).take k).foldl gF x).S/\due (ob (((jR x).take k).foldl gF x).S (jR x)[k])=true:=by
 have hn:=xz hx;have q:=yB ((jR x).take k) hx hS hz ((zb8 ..).nodup hn) λh hh=>mF h (zad hh);obtain⟨a,b⟩:=mF (jR x)[k] (zh hk);refine⟨rfl,q.rt,q.sl,by rw[q.lv];exact a,?_⟩;obtain⟨n,e⟩:=q.ob _ a;have hnot:(jR x)[k]∉(jR x).take k:=λh=>by
  have:=U4 hk;have hs:((jR x).take (k+1)).Nodup:=(zb8 ..).nodup hn;rw[this,zbs] at hs;exact hs.2.2 _ h _ (List.mem_singleton_self _) rfl
 rw[e,za hnot];exact b
theorem HQ:(jR x).length<=24:=zO (zB ..) (Cs hx hS)
theorem Tl:aK x=some (Av x,((jR x).length:Int),LJ x):=by
 have hR:=hx.sh.sr;have hl:=HQ hx hS hz;obtain⟨c1,c2,c3⟩:=Gk hx hS hz;unfold aK;rw[SY hx hS,Yz];simp only[jn];refine ca (jR x).length (λk b=>b=((jR x).take k).foldl gF x) (by omega) rfl (λk b hk hP=>?_) (λb hP=>?_)
 .subst hP;obtain⟨_,r1,r2,r3,r4⟩:=RC hx hS hz hk;refine .inl ⟨_,?_,rfl⟩;rw[zb (by simpa using hk),u5 hk,Yz,BF r1 r2 (qO r1.sh.sr r3),Yz,o5,U4 hk,zal];unfold Xq;rw[zb ⟨r3,r4⟩];rfl
 .subst hP;refine⟨_,za (by simp),?_⟩;rw[zU];by_cases hb:jR x = []
  .have e:Av x=gK x (dA x):=Tm hb;rw[za (by simp[hb])];unfold LJ;rw[zb hb,e,hb];have h1:=eG hx;have h2:=cK hx;have hlive:=gz (A2.2 hR);have hlive2:=gz (A2.2 (dP hx).sh.sr);have l1:=K9 (A2.2 hR);have l2:=K9 (A2.2 (dP hx).sh.sr);show (U2 x).bind _=_;rw[LI hx hS,Yz,List.foldl_nil,HT hx h1 h2 (Ro hx) (by rw[tv hR _ (by have:=Cs hx hS;omega) λh hh=>qO hR (h2 h hh),Ua h1 h2]),Yz,jh (dP hx) (by rw[<-e];exact c2),Yz,xW hx,hlive,Yz,hlive2,Yz,T5 (by omega) (by omega)];rfl
  .have:0<(jR x).length:=List.length_pos_iff.2 hb;rw[zb (by simp;omega)];unfold LJ Av;rw[za hb,za hb]
end
theorem PM{x:Hp}(hx:K0 x)(hS:SL x)(hz:zr x = []):(Av x).S.Serial=x.S.Serial:=by
 unfold Av;split
 .have g:=eH (dA x) hx.sh.sr (eG hx) (cK hx);exact (hU ((dA x).flatMap (outs x.S)++(lf x.T (dA x)).2) (x:=jo x (dA x) (lf x.T (dA x)).1) g.sr).1.aH.trans g.aH
 .exact (LF hx hS hz).aH
def Sv(s s':b6):Prop:=s'.S.b7.length=s.S.b7.length/\∀i,i<s.S.b7.length->(ce s i).Gen<=(ce s' i).Gen/\((ce s' i).Gen=(ce s i).Gen->((ce s i).State≠0->(ce s' i).State≠0)/\((ce s' i).State=1->(ce s i).State=0\/((ce s i).State=1/\((ce s i).Val.Started=true->(ce s' i).Val.Started=true))))
theorem Sv.refl(s:b6):Sv s s:=⟨rfl,λi _=>⟨zae _,λ_=>⟨id,λh=>.inr ⟨h,id⟩⟩⟩⟩
theorem Sv.trans{a b c:b6}(h:Sv a b)(q:Sv b c):Sv a c:=by
 obtain⟨h1,h2⟩:=h;obtain⟨q1,q2⟩:=q;refine⟨q1.trans h1,λi hi=>?_⟩;obtain⟨a1,a2⟩:=h2 i hi;obtain⟨b1,b2⟩:=q2 i (by omega);refine⟨by omega,λe=>?_⟩;obtain⟨a3,a4⟩:=a2 (by omega);obtain⟨b3,b4⟩:=b2 (by omega);refine⟨λh=>b3 (a3 h),λh=>?_⟩;rcases b4 h with r | ⟨r,r'⟩
 .exact .inl (qr λn=>a3 n r)
 .rcases a4 r with k | ⟨k,k'⟩
  .exact .inl k
  .exact .inr ⟨k,λs=>r' (k' s)⟩
def Hu(s:b6)(h:Int):Prop:=∃(i:Nat) (g:Int),i<s.S.b7.length/\h=1+(i:Int)+32*g/\(g<(ce s i).Gen\/(g=(ce s i).Gen/\(ce s i).State≠0/\((ce s i).State=1->(ce s i).Val.Started=true)))
theorem Sv.WV{s s':b6}(h:Sv s s'){k:Int}(q:Hu s k):Hu s' k:=by
 obtain⟨i,g,hi,e,q⟩:=q;obtain⟨h1,h2⟩:=h;obtain⟨a,b⟩:=h2 i hi;refine⟨i,g,by omega,e,?_⟩;rcases q with q | ⟨q1,q2,q3⟩
 .exact .inl (by omega)
 .by_cases c:(ce s' i).Gen=(ce s i).Gen
  .obtain⟨b1,b2⟩:=b c;refine .inr ⟨by omega,b1 q2,λr=>?_⟩;rcases b2 r with k | ⟨k1,k2⟩
   .exact absurd k q2
   .exact k2 (q3 k1)
  .exact .inl (by omega)
theorem KP{s:b6}(hR:SR s){h:Int}(hh:h∈lv s)(hs:(ob s h).Started=false):¬Hu s h:=by
 rintro⟨i,g,hi,e,q⟩;obtain⟨j,hj⟩:=(gR hR).1 hh;have hl:=hR.len;have hij:i=j:=by
  have:=hj.2.2;have:=hj.1;omega
 subst hij;have:=hj.2.2;rcases q with q | ⟨q1,q2,q3⟩
 .omega
 .rw[F1 hR hj,q3 hj.2.1] at hs;cases hs
theorem vB.sv{s s':b6}(hR:SR s)(k:vB s s'):Sv s s':=⟨k.len,λi hi=>by
 obtain⟨a,b,_,_,_⟩:=k.ce i hi;refine⟨by omega,λ_=>⟨by omega,λh=>.inr ⟨by omega,λq=>?_⟩⟩⟩;have h1:At s (bX s i) i:=⟨hi,by omega,rfl⟩;have h2:At s' (bX s i) i:=⟨by rw[k.len];exact hi,h,by rw[b];rfl⟩;have hl:=H6 hR ((gR hR).2 ⟨i,h1⟩);obtain⟨n,e⟩:=k.ob (bX s i) (by omega);rw[F1 k.sr h2,F1 hR h1] at e;rw[e];exact q⟩
theorem NZ{s:b6}(hR:SR s){h:Int}(hh:h∈lv s){o:n9}(hs:o.Serial=(ob s h).Serial)(ho:As s o)(hst:(ob s h).Started=true->o.Started=true):Sv s (cU s h o):=⟨Ji s h o,λi hi=>by
 have q:=o6 hR hh;rw[yQ hR hh hs ho];split
 .rename_i e;subst e;refine⟨zae _,λ_=>⟨id,λr=>.inr ⟨q.2.1,λk=>hst ?_⟩⟩⟩;rw[F1 hR q];exact k
 .exact⟨zae _,λ_=>⟨id,λr=>.inr ⟨r,id⟩⟩⟩⟩
theorem MW{s:b6}(hR:SR s){i:Nat}(hi:i<s.S.b7.length)(ht:Th (ce s i))(d:Int):Sv s (lF s i d):=⟨J2 ..,λj hj=>by
 rw[eU hR hi ht];split
 .rename_i e;subst e;exact⟨zae _,λ_=>⟨id,λr=>.inr ⟨r,id⟩⟩⟩
 .exact⟨zae _,λ_=>⟨id,λr=>.inr ⟨r,id⟩⟩⟩⟩
theorem TG{s:b6}{i:Nat}(hi:i<s.S.b7.length):Sv s (DK s i):=⟨V6 ..,λj hj=>by
 unfold DK;rw[K6 hi];by_cases e:j=i
 .subst e;rw[zb rfl];split;·exact⟨zae _,λ_=>⟨λ_=>(by decide:(3:Int)≠0),λr=>absurd (show (3:Int)=1 from r) (by decide)⟩⟩
  .refine⟨by show _<=(ce s j).Gen+1;omega,λr=>?_⟩;have:(ce s j).Gen+1=(ce s j).Gen:=r;omega
 .rw[za e];exact⟨zae _,λ_=>⟨id,λr=>.inr ⟨r,id⟩⟩⟩⟩
theorem Gn.sv{s s':b6}{ds:List Int}(g:Gn s s' ds):Sv s s':=⟨g.len,λj hj=>by
 rw[g.ce];split
 .unfold FK;split
  .split;·exact⟨zae _,λ_=>⟨λ_=>(by decide:(3:Int)≠0),λr=>absurd (show (3:Int)=1 from r) (by decide)⟩⟩
   .refine⟨by show _<=(Sh.ce s j).Gen+1;omega,λr=>?_⟩;have:(Sh.ce s j).Gen+1=(Sh.ce s j).Gen:=r;omega
  .exact⟨zae _,λ_=>⟨λ_=>(by decide:(2:Int)≠0),λr=>absurd (show (2:Int)=1 from r) (by decide)⟩⟩
 .exact⟨zae _,λ_=>⟨id,λr=>.inr ⟨r,id⟩⟩⟩⟩
theorem Wv{s:b6}(hR:SR s){i:Nat}(hi:i<s.S.b7.length)(h0:(ce s i).State=0){n:Nat}(hn:n<=4){p:Int}(hp : -1<=p/\p<=5):Sv s (dp s i n p):=⟨jC hR hi h0 hn hp,λj hj=>by
 rw[lG hR hi h0 hn hp];split
 .rename_i e;subst e;exact⟨zae _,λ_=>⟨λr=>absurd h0 r,λ_=>.inl h0⟩⟩
 .exact⟨zae _,λ_=>⟨id,λr=>.inr ⟨r,id⟩⟩⟩⟩
theorem Hd{x:Hp}(hR:SR x.S)(h:Int):Sv x.S (E7 x h).S:=(H8 hR h (f:=Y9) λc=>E6).sv hR
theorem Dl{x:Hp}(hR:SR x.S)(h:Int):Sv x.S (aD x h).S:=(H8 hR h (f:=kP) λc=>P2).sv hR
theorem Fe{x:Hp}(hR:SR x.S)(r:Nat)(h:Int):Sv x.S (G2 x r h).S:=
 (Hd hR h).trans (Dl (x:=wR (E7 x h) (x.Roots.set r h)) (jK hR h) _)
theorem JZ{x:Hp}(hR:SR x.S){h:Int}(hh:h∈lv x.S){n:Nat}(hn:n<(ob x.S h).Fields.length)(v:Int):Sv x.S (bG x h n v).S:=by
 have k1:=Dp hR v;have hh1:h∈lv (E7 x v).S:=by rw[k1.lv];exact hh
 have hof:(ob (E7 x v).S h).Fields=(ob x.S h).Fields:=by
  obtain⟨n,e⟩:=(H8 hR v (f:=Y9) λc=>E6).ob h (by have:=H6 hR hh;omega);show (ob (uf x v Y9).S h).Fields=_;rw[e]
 have ho:As (E7 x v).S (rq (ob (E7 x v).S h) ((ob x.S h).Fields.set n v)):=by
  have:=J9 k1.sr hh1;refine⟨this.s1,this.s2,this.st,this.wk,this.p1,this.p2,?_⟩;have h4:=this.fl;rw[hof] at h4;simpa using h4
 have k2:=NZ (o:=rq (ob (E7 x v).S h) ((ob x.S h).Fields.set n v)) k1.sr hh1 rfl ho id;exact ((Hd hR v).trans k2).trans (Dl (x:=wS (E7 x v) (cU (E7 x v).S h (rq (ob (E7 x v).S h) ((ob x.S h).Fields.set n v)))) (bP (o:=rq (ob (E7 x v).S h) ((ob x.S h).Fields.set n v)) k1.sr hh1 rfl ho) _)
theorem Nz{x:Hp}(hR:SR x.S)(v:Int)(t:Tb)(old:Int):Sv x.S (iJ x v t old).S:=
 (Hd hR v).trans (Dl (x:=wT (E7 x v) t) (jK hR v) old)
theorem Uh{x:Hp}(hR:SR x.S)(h d:Int):Sv x.S (iu x h d).S:=by
 unfold iu;split
 .rename_i q;exact MW hR q.1 q.2.1 d
 .exact Sv.refl _
theorem RH{x:Hp}(hR:SR x.S)(h:Int):Sv x.S (pG x h).S:=by
 unfold pG;split
 .rename_i q;have k:=MW hR q.1 q.2.1 (-1);split;·exact k.trans (TG (by rw[k.1];exact q.1))
  .exact k
 .exact Sv.refl _
theorem Ov{x:Hp}(hx:K0 x)(n:Nat)(h call:Int):Sv x.S (cH x n h call).S:=by
 have hR:=hx.sh.sr;unfold cH;have s1:Sv x.S (iu (wC x (x.b7.set n (fE h call))) h 1).S:=Uh (x:=wC x (x.b7.set n (fE h call))) hR h 1;refine s1.trans (RH ?_ _);unfold iu;split
 .rename_i q;have:=(hR.ok _ q.1 q.2.1).wk;exact uV hR q.1 q.2.1 (by omega)
 .exact hR
theorem SZ{x:Hp}(hR:SR x.S){ds:List Int}(hn:ds.Nodup)(hm:∀d∈ds,d∈lv x.S):Sv x.S (gK x ds).S:=by
 have g:=eH ds hR hn hm;exact g.sv.trans ((hU (ds.flatMap (outs x.S)++(lf x.T ds).2) (x:=jo x ds (lf x.T ds).1) g.sr).1.sv g.sr)
theorem UK{x:Hp}(hR:SR x.S){h:Int}(hh:h∈lv x.S):Sv x.S (gF x h).S:=by
 have oko:=J9 hR hh;have ho:As x.S (fA (ob x.S h)):=⟨oko.s1,oko.s2,oko.st,oko.wk,oko.p1,oko.p2,oko.fl⟩;exact (NZ (o:=fA (ob x.S h)) hR hh rfl ho λ_=>rfl).trans ((nf hR hh).1.sv (bP (o:=fA (ob x.S h)) hR hh rfl ho))
theorem Vk{x:Hp}(hx:K0 x):Sv x.S (FO x).S:=by
 cases h:zr x with
 | nil=>rw[ny h];exact Sv.refl _
 | cons z l=>
  have hz:z∈zr x:=by rw[h];exact zg ..
  have hzl:=(cT.1 hz).1;rw[jN h];split;·exact UK hx.sh.sr hzl
  .exact SZ hx.sh.sr (by simp) (by simpa using hzl)
theorem Vh{x:Hp}(hx:K0 x)(n:Nat):Sv x.S (oe n x).S:=by
 induction n with
 | zero=>exact Sv.refl _
 | succ n ih=>rw[fB];exact ih.trans (Vk (P5 hx n))
theorem Rv{x:Hp}(hx:K0 x):Sv x.S (bA x).S:=Vh hx 100
structure Fw (x y:Hp):Prop where
 sv:Sv x.S y.S
 q:∃l,y.Q=⟨x.Q.L++l,x.Q.Cap⟩/\∀t∈l,t.Kind=1->¬Hu x.S t.At
theorem Fw.of{x y:Hp}(h:Sv x.S y.S)(q:y.Q=x.Q):Fw x y:=⟨h,[],by rw[q,zau],λt ht=>by cases ht⟩
theorem Fw.refl(x:Hp):Fw x x:=Fw.of (Sv.refl _) rfl
theorem Fw.trans{x y z:Hp}(a:Fw x y)(b:Fw y z):Fw x z:=by
 obtain⟨l,q1,q2⟩:=a.q;obtain⟨m,r1,r2⟩:=b.q;refine⟨a.sv.trans b.sv,l++m,by rw[r1,q1,zag],λt ht hk=>?_⟩;rcases zu.1 ht with h | h
 .exact q2 t h hk
 .exact λs=>r2 t h hk (a.sv.WV s)
theorem Du{x:Hp}(hx:K0 x):Fw x (bA x):=by
 obtain⟨l,q1,q2,_⟩:=(lY hx).q;exact⟨Rv hx,l,q1,λt ht hk=>KP hx.sh.sr (q2 t ht hk).1 (q2 t ht hk).2⟩
theorem jI{x:Hp}(hR:SR x.S)(r:Nat)(h:Int):Fw x (G2 x r h):=Fw.of (Fe hR r h) (jJ x r h).2.2.2
theorem VR{x:Hp}(hx:K0 x)(hS:SL x)(hz:zr x = [])(hb:x.S.Serial<9223372036854775807)(o:j5):(∃e,Er x o e)\/∃z v,Dn x o z v/\Fw x z:=by
 have hR:=hx.sh.sr;obtain⟨k,a,b,c⟩:=o;by_cases hc:y4 k a b c=0
 .have:=tt hc;have hk:k=1\/k=2\/k=3\/k=4\/k=5\/k=6\/k=7\/k=8\/k=9\/k=10\/k=11\/k=12:=by omega
  rcases hk with rfl | rfl | rfl | rfl | rfl | rfl | rfl | rfl | rfl | rfl | rfl | rfl
  .rcases d1 hx hS hb hc with ⟨e,_,h⟩ | ⟨hn,hcc,i,hF,h⟩;·exact .inl ⟨e,h⟩
   .obtain⟨hi,h0,_⟩:=hF;have k1:Fw x (wS x (dp x.S i b.toNat c)):=Fw.of (Wv hR hi h0 hn hcc) rfl;exact .inr ⟨_,_,h,k1.trans (jI (x:=wS x (dp x.S i b.toNat c)) (EG hR hi h0 hn hcc) _ _)⟩
  .exact .inr ⟨_,_,d2 hx hS hc,jI hR _ _⟩
  .exact .inr ⟨_,_,d3 hx hS hc,jI hR _ _⟩
  .rcases d4 hx hS hc with ⟨_,h⟩ | ⟨e,_,h⟩ | ⟨_,n,_,_,h⟩;·exact .inl ⟨_,h⟩
   .exact .inl ⟨_,h⟩
   .exact .inr ⟨_,_,h,jI hR _ _⟩
  .rcases d5 hx hS hc with ⟨_,h⟩ | ⟨e,_,h⟩ | ⟨hl,n,_,hn,h⟩;·exact .inl ⟨_,h⟩
   .exact .inl ⟨_,h⟩
   .exact .inr ⟨_,_,h,Fw.of (JZ hR hl hn _) (oH _ _ _ _).2.2.2⟩
  .rcases d6 hx hS hc with ⟨_,h⟩ | ⟨e,_,h⟩ | ⟨_,h⟩;·exact .inl ⟨_,h⟩
   .exact .inl ⟨_,h⟩
   .exact .inr ⟨_,_,h,Fw.of (Ov hx _ _ _) (Ak _ _ _ _).2.2.2⟩
  .obtain⟨_,⟨_,h⟩ | ⟨_,h⟩⟩:=d7 hx hS hc;·exact .inl ⟨_,h⟩
   .exact .inr ⟨_,_,h,jI hR _ _⟩
  .rcases d8 hx hS hc with ⟨_,h⟩ | ⟨_,e,_,h⟩ | ⟨_,r,_,_,h⟩;·exact .inl ⟨_,h⟩
   .exact .inl ⟨_,h⟩
   .exact .inr ⟨_,_,h,Fw.of (Nz hR _ _ _) (rI _ _ _ _).2.2.2⟩
  .rcases d9 hx hS hc with ⟨_,h⟩ | ⟨_,_,h⟩ | ⟨_,v,_,h⟩;·exact .inl ⟨_,h⟩
   .exact .inl ⟨_,h⟩
   .exact .inr ⟨_,_,h,jI hR _ _⟩
  .exact .inr ⟨_,_,d10 hx hS hz hc,Fw.refl x⟩
  .obtain⟨h1,h2⟩:=Ck (x:=x) (a:=a) (b:=b) (c:=c) (.inl rfl) hc;exact .inl ⟨14,by decide,h1,h2⟩
  .obtain⟨h1,h2⟩:=Ck (x:=x) (a:=a) (b:=b) (c:=c) (.inr rfl) hc;exact .inl ⟨14,by decide,h1,h2⟩
 .obtain⟨h1,h2⟩:=LU (x:=x) (o:=⟨k,a,b,c⟩) hc;exact .inl ⟨_,hc,h1,h2⟩
theorem Ts{x:Hp}(hx:K0 x)(hS:SL x)(hz:zr x = [])(hb:x.S.Serial<9223372036854775807)(o:j5):Fw x (fS x o).1:=by
 rcases VR hx hS hz hb o with ⟨e,_,h,_⟩ | ⟨z,v,d,f⟩
 .have:fS x o=(x,0,e):=by unfold fS;rw[h];rfl
  rw[this];exact Fw.refl x
 .have:fS x o=(bA z,v,0):=by unfold fS;rw[d.mc];rfl
  rw[this];exact f.trans (Du d.rt)
theorem WT{x:Hp}(h1:jY x)(h2:Wk x){L:List Int}(h3:aI x L){r:Nat}(hr:r<6){h:Int}(hh:h=0\/h∈lv x.S):jY (G2 x r h)/\Wk (G2 x r h)/\aI (G2 x r h) L:=by
 have wq:=H8 h1.sr h (f:=Y9) λc=>E6;have l1:lv (E7 x h).S=lv x.S:=wq.lv;have f1:aI (E7 x h) (h::L):=Ff h1.sr h3 h;have s1:jY (E7 x h):=h1.st h (f:=Y9) λc=>E6;have s2:jY (wR (E7 x h) (x.Roots.set r h)):=s1.roots (by rw[zap];exact h1.r6) λv hv=>by
  rw[l1];rcases zas hv with q | q
  .exact h1.rt v q
  .exact q▸hh
 have w1:Wk (E7 x h):=h2.st h1.sr h (f:=Y9) λc=>E6;have one:∀v k,Q0 [v] k=if v=k/\k≠0 then 1 else 0:=λv k=>by rw[H2,H9,zak]
 have f2:aI (wR (E7 x h) (x.Roots.set r h)) (x.Roots.getD r 0::L):=f1.mv rfl (λ_ _=>rfl) λk hk=>by
  have:=xj (l:=x.Roots) (r:=r) (by rw[h1.r6];exact hr) h k;rw[one,one] at this;rw[po x h];unfold lK nZ;dsimp only;rw[F9,F9,pF,pF,H2 h L,H2 (x.Roots.getD r 0) L];omega
 exact⟨s2.st _ λc=>P2,Wk.st (x:=wR (E7 x h) (x.Roots.set r h)) w1 s2.sr _ λc=>P2,tX (x:=wR (E7 x h) (x.Roots.set r h)) s2.sr f2⟩
abbrev uA(x:Hp)(ts:List g7):Hp:=wQ x ⟨ts,x.Q.Cap⟩
noncomputable def wm(x:Hp)(ts:List g7)(h:Int):Hp:=aD (G2 (uA x ts) 5 h) h
section
variable{x:Hp}(hx:K0 x){t:g7}{ts:List g7}(hq:x.Q.L=t::ts)
include hx hq
theorem DB:jY (uA x ts):=by
 have h:=hx.sh;refine⟨h.sr,h.hr,h.r6,h.c6,h.cap,?_,λu hu=>h.tk u (by rw[hq];exact zn _ hu),?_,h.rt,h.fl,h.pr,λi hi=>?_⟩
 .have:=h.q30;rw[hq,zH] at this;show ts.length<=30;omega
 .have:=h.td;rw[hq,zba] at this;exact this.2
 .obtain⟨a,b,c,d,e⟩:=h.cl i hi;refine⟨a,b,c,d,λq=>⟨(e q).1,?_⟩⟩;have:=(e q).2;rw[zbj] at this |-;intro r;obtain⟨u,hu,k1,k2⟩:=gJ.1 r;exact this (gJ.2 ⟨u,by rw[hq];exact zn _ hu,k1,k2⟩)
theorem Fz:aI (uA x ts) (if t.Kind=1 then [t.At] else []):=hx.fair.mv rfl (λ_ _=>rfl) λh _=>by
 unfold lK nZ oR;dsimp only;rw[hq,or];by_cases k:t.Kind=1
 .rw[zb k,zb (by simpa using k),zR,F9,F9,H2 t.At (List.map _ _),H2 t.At [],H9];omega
 .rw[za k,za (by simpa using k),H9]
theorem Ge(hk:t.Kind≠1):K0 (uA x ts):=⟨DB hx hq,hx.wk,by have:=Fz hx hq;rwa [za hk] at this⟩
theorem Gx(hk:t.Kind=1):t.At∈lv x.S/\(ob x.S t.At).Started=true:=by
 rcases (hx.sh.tk t (by rw[hq];exact zg ..)).2.2 with ⟨_,b,c⟩ | ⟨b,_⟩;·exact⟨b,c⟩
 .omega
theorem ly(hk:t.Kind=1):K0 (wm x ts t.At):=by
 have f:=Fz hx hq;rw[zb hk] at f;obtain⟨a,b,c⟩:=WT (DB hx hq) (x:=uA x ts) hx.wk f (r:=5) (by decide) (.inr (Gx hx hq hk).1);exact⟨a.st _ λc=>P2,b.st a.sr _ λc=>P2,tX a.sr c⟩
omit hq in
theorem Me (hS:SL x) (h:Int):SL (wm x ts h):=by
 have k:=pk (x:=uA x ts) hx.sh.sr hS 5 h;exact Dj [h] (dd (x:=uA x ts) hx.sh.sr 5 h).sr k
omit hq in
theorem Tv (h:Int):Ks x.S (wm x ts h).S:=by
 have k:=dd (x:=uA x ts) hx.sh.sr 5 h;exact k.trans (Dk k.sr h)
omit hq in
theorem Md (h:Int):(wm x ts h).Roots=x.Roots.set 5 h/\(wm x ts h).b7=x.b7/\(wm x ts h).T=x.T/\(wm x ts h).Q=⟨ts,x.Q.Cap⟩:=by
 obtain⟨a,b,c,d⟩:=yJ (G2 (uA x ts) 5 h) h;obtain⟨a',b',c',d'⟩:=jJ (uA x ts) 5 h;exact⟨a.trans a',b.trans b',c.trans c',d.trans d'⟩
omit hq in
theorem Tu (h:Int):Fw (uA x ts) (wm x ts h):=Fw.of ((Fe (x:=uA x ts) hx.sh.sr 5 h).trans (Dl (dd (x:=uA x ts) hx.sh.sr 5 h).sr h)) (Md hx h).2.2.2
end
def ER(ps:List (List j5))(n:Int):List j5:=if n<0\/(ps.length:Int)<=n then [] else ps.getD n.toNat []
noncomputable def pre(x:Hp)(t:g7)(ts:List g7):Hp:=if t.Kind=1 then bA (wm x ts t.At) else uA x ts
noncomputable def UM(ps:List (List j5))(x:Hp)(t:g7)(ts:List g7):Hp:=(runs (pre x t ts) (ER ps t.Prog)).1
noncomputable def JV(ps:List (List j5))(x:Hp)(t:g7)(ts:List g7):Hp:=if t.Kind=1 then bA (G2 (UM ps x t ts) 5 0) else UM ps x t ts
structure Oh (x:Hp):Prop where
 rt:K0 x
 sl:SL x
 zr:zr x = []
theorem Vt.ok{x y:Hp}{o:j5}{v e:Int}(n:Vt x o y v e):Oh y:=⟨n.rt,n.sl,n.zr⟩
theorem Jj{x:Hp}(h:K0 x)(s:SL x):Oh (bA x):=⟨nu h,Jk h s,BL h⟩
theorem NY{x:Hp}(hx:Oh x)(l:List j5)(hb:x.S.Serial+l.length<9223372036854775807):Oh (runs x l).1/\Fw x (runs x l).1/\(runs x l).1.S.Serial<=x.S.Serial+l.length/\(runs x l).2.length=l.length:=by
 have key:∀k,k<=l.length->Oh (runs x (l.take k)).1/\Fw x (runs x (l.take k)).1/\(runs x (l.take k)).1.S.Serial<=x.S.Serial+k/\(runs x (l.take k)).2.length=k:=by
  intro k;induction k with
  | zero=>exact λ_=>⟨hx,Fw.refl x,by show x.S.Serial<=_;omega,rfl⟩
  | succ k ih=>
   intro hk;obtain⟨a,b,c,d⟩:=ih (by omega);have hk':k<l.length:=by omega
   have n:=tO a.rt a.sl a.zr (by omega) l[k];rw[U4 hk',qg];exact⟨n.ok,b.trans (Ts a.rt a.sl a.zr (by omega) _),by have:=n.ev.s2;show (fS _ _).1.S.Serial<=_;omega,by simp[d]⟩
 have:=key l.length (zG _);rwa [zU] at this
section
variable{x:Hp}(hx:Oh x){t:g7}{ts:List g7}(hq:x.Q.L=t::ts)(ps:List (List j5))
include hx hq
theorem GR:Oh (pre x t ts):=by
 unfold pre;split
 .rename_i k;exact Jj (ly hx.rt hq k) (Me hx.rt hx.sl _)
 .rename_i k;exact⟨Ge hx.rt hq k,hx.sl,hx.zr⟩
theorem UD:Fw (uA x ts) (pre x t ts):=by
 unfold pre;split
 .rename_i k;exact (Tu hx.rt _).trans (Du (ly hx.rt hq k))
 .exact Fw.refl _
theorem CV:(pre x t ts).S.Serial=x.S.Serial:=by
 unfold pre;split
 .rename_i k;rw[(lY (ly hx.rt hq k)).aH,(Tv hx.rt _).aH]
 .rfl
variable(hb:x.S.Serial+(ER ps t.Prog).length<9223372036854775807)
include hb
theorem Df:Oh (UM ps x t ts)/\Fw (uA x ts) (UM ps x t ts)/\(UM ps x t ts).S.Serial<=x.S.Serial+(ER ps t.Prog).length:=by
 have e:=CV hx hq;obtain⟨a,b,c,_⟩:=NY (GR hx hq) (ER ps t.Prog) (by rw[e];exact hb);exact⟨a,(UD hx hq).trans b,by rw[e] at c;exact c⟩
theorem PS:Oh (JV ps x t ts)/\Fw (uA x ts) (JV ps x t ts)/\(JV ps x t ts).S.Serial<=x.S.Serial+(ER ps t.Prog).length/\(t.Kind=1->sd (JV ps x t ts) 5=0):=by
 obtain⟨a,b,c⟩:=Df hx hq ps hb;unfold JV;split
 .have hz:=bO a.rt (r:=5) (by decide) (h:=0) (.inl rfl);have k:=dd a.rt.sh.sr 5 0;refine⟨Jj hz (pk a.rt.sh.sr a.sl 5 0),(b.trans (jI a.rt.sh.sr 5 0)).trans (Du hz),?_,λ_=>(vm a.rt (a:=5) (by decide) (h:=0) (.inl rfl)).1⟩;rw[(lY hz).aH,k.aH];exact c
 .exact⟨a,b,c,λq=>absurd q (by assumption)⟩
end
def Bd(ps:List (List j5))(t:g7):Int:=1+((ER ps t.Prog).length:Int)
def can(ps:List (List j5))(p:Hp × Int):Prop:=∃t ts,p.1.Q.L=t::ts/\Bd ps t<=p.2
noncomputable def Un(ps:List (List j5))(p:Hp × Int):Hp × Int:=match p.1.Q.L with
 | []=>p
 | t::ts=>if Bd ps t<=p.2 then (JV ps p.1 t ts,p.2-Bd ps t) else p
noncomputable def dN(ps:List (List j5)):Nat->Hp × Int->Hp × Int
 | 0,p=>p
 | n+1,p=>dN ps n (Un ps p)
section
variable(ps:List (List j5))
theorem sA(n:Nat)(p:Hp × Int):dN ps (n+1) p=Un ps (dN ps n p):=by
 induction n generalizing p with
 | zero=>rfl
 | succ n ih=>exact ih (Un ps p)
theorem QD{p:Hp × Int}(h:p.1.Q.L = []):Un ps p=p:=by unfold Un;rw[h]
theorem pe{p:Hp × Int}{t:g7}{ts:List g7}(h:p.1.Q.L=t::ts):Un ps p=if Bd ps t<=p.2 then (JV ps p.1 t ts,p.2-Bd ps t) else p:=by unfold Un;rw[h]
theorem DT{p:Hp × Int}{t:g7}{ts:List g7}(h:p.1.Q.L=t::ts):can ps p↔Bd ps t<=p.2:=by
 constructor
 .rintro⟨u,us,e,c⟩;rw[h] at e;injection e with e1 e2
  rw[e1];exact c
 .exact λc=>⟨t,ts,h,c⟩
theorem sz(t:g7):1<=Bd ps t:=by unfold Bd;omega
theorem HX{p:Hp × Int}(hb:0<=p.2):∃n:Nat,(n:Int)<=p.2/\¬can ps (dN ps n p)/\∀j,j<n->can ps (dN ps j p):=by
 have key:∀m:Nat,(∃n:Nat,n<=m/\¬can ps (dN ps n p))\/((dN ps m p).2+m<=p.2/\0<=(dN ps m p).2):=by
  intro m;induction m with
  | zero=>exact .inr ⟨by show p.2+((0:Nat):Int)<=_;omega,hb⟩
  | succ m ih=>
   rcases ih with ⟨n,h1,h2⟩ | ⟨h1,h2⟩;·exact .inl ⟨n,by omega,h2⟩
   .by_cases q:can ps (dN ps m p)
    .right;obtain⟨t,ts,e,c⟩:=q;have:=sz ps t;rw[sA,pe ps e,zb c];dsimp only;omega
    .exact .inl ⟨m,by omega,q⟩
 have hex:∃n:Nat,(n:Int)<=p.2/\¬can ps (dN ps n p):=by
  rcases key (p.2.toNat+1) with ⟨n,h1,h2⟩ | ⟨h1,h2⟩
  .rcases zE n (p.2.toNat+1) with q | q
   .exact⟨n,by omega,h2⟩
   .have hn:n=p.2.toNat+1:=by omega
    rcases key p.2.toNat with ⟨n,h1,h2⟩ | ⟨h1,h3⟩;·exact⟨n,by omega,h2⟩
    .refine⟨p.2.toNat,by omega,λ⟨t,ts,e,c⟩=>?_⟩;have:=sz ps t;omega
  .omega
 obtain⟨n,⟨hn,hz⟩,hmin⟩:=dz hex;refine⟨n,hn,hz,λj hj=>qr λq=>?_⟩;have:=hmin j ⟨by omega,q⟩;omega
theorem Cg{p:Hp × Int}(hx:Oh p.1)(hb:0<=p.2)(hs:p.1.S.Serial+p.2<9223372036854775807):∀n,Oh (dN ps n p).1/\0<=(dN ps n p).2/\(dN ps n p).2<=p.2/\(dN ps n p).1.S.Serial+(dN ps n p).2<=p.1.S.Serial+p.2
 | 0=>⟨hx,hb,zae _,zae _⟩
 | n+1=>by
  obtain⟨a,b,c,d⟩:=Cg hx hb hs n;rw[sA];cases e:(dN ps n p).1.Q.L with
  | nil=>rw[QD ps e];exact⟨a,b,c,d⟩
  | cons t ts=>
   rw[pe ps e];split
   .rename_i q;have q2:=q;unfold Bd at q2;obtain⟨r1,_,r3,_⟩:=PS a e ps (by omega);refine⟨r1,?_,?_,?_⟩;·dsimp only;omega
    .have:=sz ps t;dsimp only;omega
    .dsimp only;unfold Bd;omega
   .exact⟨a,b,c,d⟩
end
noncomputable def dn(ps:List (List j5))(p:Hp × Int):Nat:=if h:0<=p.2 then Classical.choose (HX ps h) else 0
theorem HZ(ps:List (List j5)){p:Hp × Int}(h:0<=p.2):(dn ps p:Int)<=p.2/\¬can ps (dN ps (dn ps p) p)/\∀j,j<dn ps p->can ps (dN ps j p):=by
 unfold dn;rw[dif_pos h];exact zax (HX ps h)
noncomputable def dr(ps:List (List j5))(p:Hp × Int):Hp × Int:=dN ps (dn ps p) p
theorem VS(ps:List (List j5)){x:Hp}{f:Int}(hx:Oh x)(hf:0<=f)(hs:x.S.Serial+f<9223372036854775807):Oh (dr ps (x,f)).1/\0<=(dr ps (x,f)).2/\(dr ps (x,f)).2<=f/\(dr ps (x,f)).1.S.Serial+(dr ps (x,f)).2<=x.S.Serial+f:=Cg ps (p:=(x,f)) hx hf hs _
section
variable{x:Hp}(hx:jY x)(hS:∀k∈lv x.S,(ob x.S k).Strong<=9223372036854775807)
include hx hS
theorem TZ{h:Int}(hh:h=0\/h∈lv x.S):h<=9223372036854775807:=by
 rcases hh with q | q
 .omega
 .have:=H6 hx.sr q;omega
theorem NU(k:Int){h:Int}(hh:h<=9223372036854775807):bZ x k h=some (if k<0\/5<k then (x,6) else if h=0\/h∈lv x.S then (G2 x k.toNat h,0) else (x,3)):=by
 have hR:=hx.sr;have r6:=hx.r6;unfold bZ;by_cases hk:k<0\/5<k
 .rw[zb hk,zb (by rw[r6];simp;omega)]
 .rw[za hk,za (by rw[r6];simp;omega),N2 hR hh,Yz];by_cases hn:h=0\/h∈lv x.S
  .rw[zb hn,zD hn,za (by simp)];obtain⟨n,rfl⟩:∃n:Nat,k=n:=⟨k.toNat,by omega⟩;have hn6:n<6:=by omega
   have hnl:n<x.Roots.length:=by omega
   have old:x.Roots[n]<=9223372036854775807:=TZ hx hS (hx.rt _ (zh hnl));have e1:=ua x h;have hn2:n<(E7 x h).Roots.length:=by rw[e1.1];exact hnl
   rw[u5 hnl,Yz];unfold G5 T0 y7;rw[lV hR hh hS,Yz];dsimp only;rw[dm (by omega) (by rw[e1.1];omega),Yz,u5 hn2,Yz,Yz];have hrel:=gh (x:=wR (E7 x h) (x.Roots.set n h)) (jK hR h) old;rw[zP,e1.1,show E2 ⟨(E7 x h).S,x.Roots.set n h,(E7 x h).b7,(E7 x h).T,(E7 x h).Q⟩ x.Roots[n]=_ from hrel];unfold G2;rw[zd,zc hnl];rfl
  .rw[za hn,zY hn,zb (by simp)]
end
theorem vi(ps:List (List j5))(n:Int):dy ps n=some (ER ps n):=by
 unfold dy ER;by_cases h:n<0\/(ps.length:Int)<=n
 .rw[zb (by simpa using h),zb h]
 .rw[za (by simpa using h),za h];obtain⟨k,rfl⟩:∃k:Nat,n=k:=⟨n.toNat,by omega⟩;have hk:k<ps.length:=by omega
  rw[u5 hk,Yz,zP,zd,zc hk];rfl
abbrev Xp(ps:List (List j5)):List (List fp):=ps.map (List.map Yr)
def Mp(ps:List (List j5)):Prop:=∀p∈ps,p.length<=6
theorem CW{ps:List (List j5)}(h:Mp ps)(n:Int):(ER ps n).length<=6:=by
 unfold ER;split;·simp
 .rename_i q;have hk:n.toNat<ps.length:=by omega
  rw[zd,zc hk];exact h _ (zh hk)
theorem wW{ps:List (List j5)}(h:Mp ps)(t:g7):bF ps t=some (Bd ps t):=by
 have:=CW h t.Prog;unfold bF Bd;rw[vi,Yz,T5 (by omega) (by omega)]
theorem Gq(x:Hp):gN x=some (x.Q.L.isEmpty):=by
 unfold gN;rw[yX,Yz];unfold RD;cases x.Q.L <;> rfl
section
variable{x:Hp}(hx:Oh x){t:g7}{ts:List g7}(hq:x.Q.L=t::ts){ps:List (List j5)}(hm:Mp ps)(hb:x.S.Serial<9000000000000000000)
include hx hq hm hb
theorem Oq:mL x ps=some (JV ps x t ts,t,0):=by
 have eN:=CW hm t.Prog;have pok:=GR hx hq;have pser:=CV hx hq;obtain⟨rok,_,_⟩:=Df hx hq ps (by omega);have hrun:=(run_eq pok.rt pok.sl pok.zr (ER ps t.Prog) (by omega) (by rw[pser];omega)).1;have hrun':gS (pre x t ts) (ER ps t.Prog)=some (UM ps x t ts,(runs (pre x t ts) (ER ps t.Prog)).2):=hrun;have hz:=bO rok.rt (r:=5) (by decide) (h:=0) (.inl rfl);have zS:=pk rok.rt.sh.sr rok.sl 5 0;unfold mL;rw[yX,Yz];have e:RD x.Q=(⟨ts,x.Q.Cap⟩,t,0):=by unfold RD;rw[hq]
 rw[e];dsimp only;rw[za (by simp)];simp only[jn];by_cases k:t.Kind=1
 .have hk:(t.Kind==1)=true:=by simpa using k
  have hat:=(Gx hx.rt hq k).1;have ush:=DB hx.rt hq;have hm1:=qO hx.rt.sh.sr hat;have e1:bZ ⟨x.S,x.Roots,x.b7,x.T,⟨ts,x.Q.Cap⟩⟩ 5 t.At=some (G2 (uA x ts) 5 t.At,0):=by
   have:=NU (x:=uA x ts) ush hx.sl 5 hm1;rw[za (by omega),zb (.inr hat)] at this;exact this
  have e2:E2 (G2 (uA x ts) 5 t.At) t.At=some (wm x ts t.At):=gh (dd (x:=uA x ts) hx.rt.sh.sr 5 t.At).sr hm1;have e3:=jh (ly hx.rt hq k) (Me hx.rt hx.sl t.At);have e4:pre x t ts=bA (wm x ts t.At):=by unfold pre;rw[zb k]
  have e5:=Jf rok.rt rok.sl 5 (h:=0) (by decide);rw[za (by omega),zb (.inl rfl)] at e5;rw[zb hk,e1,Yz];dsimp only;rw[e2,Yz,e3,Yz,vi,Yz,<-e4,hrun',Yz,zb hk];dsimp only;rw[e5,Yz];refine rX (jh hz zS) ?_;unfold JV;rw[zb k];rfl
 .have hk:¬(t.Kind==1)=true:=by simpa using k
  have e4:pre x t ts=uA x ts:=by unfold pre;rw[za k]
  rw[za hk,vi,Yz,show (⟨x.S,x.Roots,x.b7,x.T,⟨ts,x.Q.Cap⟩⟩:b9)=pre x t ts from e4.symm,hrun',Yz,za hk];unfold JV;rw[za k]
end
section
variable{x:Hp}(hx:Oh x){ps:List (List j5)}(hm:Mp ps){f:Int}(hf:0<=f)(hf2:f<=1000000)(hb:x.S.Serial<8000000000000000000)
include hx hm hf hf2 hb
def Sc(p:Hp × Int):Int:=if p.1.Q.L.isEmpty then 0 else 12
theorem drain_eq:gM x ps f=some ((dr ps (x,f)).1,(dn ps (x,f):Int),(dr ps (x,f)).2,Sc (dr ps (x,f))):=by
 obtain⟨a1,a2,a3⟩:=HZ ps (p:=(x,f)) hf;have all:=Cg ps (p:=(x,f)) hx hf (by show x.S.Serial+f<_;omega);unfold gM;simp only[jn];dsimp only at a1;refine lC (λk=>((dN ps k (x,f)).2,(dN ps k (x,f)).1,(k:Int),(dN ps k (x,f)).2,(dN ps k (x,f)).1)) rfl (dn ps (x,f)) (λ_=>True) (by omega) trivial (λk hk _=>.inl ⟨?_,trivial⟩) (λ_=>⟨((dn ps (x,f):Int),(dr ps (x,f)).2,(dr ps (x,f)).1),?_,?_⟩)
 .obtain⟨b1,b2,b3,b4⟩:=all k;obtain⟨t,ts,e,c⟩:=a3 k hk;dsimp only at b2 b3 b4;have hc:=sz ps t;rw[Gq,e,Yz];show (ba _).bind _=_;rw[yX,Yz];have e2:RD (dN ps k (x,f)).1.Q=(⟨ts,(dN ps k (x,f)).1.Q.Cap⟩,t,0):=by unfold RD;rw[e]
  rw[e2];dsimp only;rw[wW hm,Yz,za (by simp;omega),Oq b1 e hm (by omega),Yz,T5 (by omega) (by omega),o5,sA,pe ps e,zb c]
 .rw[Gq,Yz];cases e:(dN ps (dn ps (x,f)) (x,f)).1.Q.L with
  | nil=>rfl
  | cons t ts=>
   have hc:¬Bd ps t<=(dN ps (dn ps (x,f)) (x,f)).2:=λq=>a2 ((DT ps e).2 q);show (ba _).bind _=_;rw[yX,Yz];have e2:RD (dN ps (dn ps (x,f)) (x,f)).1.Q=(⟨ts,(dN ps (dn ps (x,f)) (x,f)).1.Q.Cap⟩,t,0):=by unfold RD;rw[e]
   rw[e2];dsimp only;rw[wW hm,Yz,zb (by simp;omega)];rfl
 .dsimp only;rw[Gq,Yz];unfold Sc;cases (dr ps (x,f)).1.Q.L.isEmpty <;> rfl
end
theorem Ww{l:List (List j5)}(h:fk l=true):Mp l/\l.length<=6:=by
 unfold fk at h;rw[zy,zF,zf] at h;refine⟨λp hp=>?_,h.1⟩;have:=h.2 p hp;unfold tR at this;rw[zy,zF] at this;exact this.1
noncomputable def eo(ps:List (List j5))(x:Hp)(o:j5):Hp × Int × Int:=
 if o.Kind=11 then (Av x,LJ x-((jR x).length:Int),0)
 else if o.Kind=12 then ((dr ps (x,o.A)).1,(dn ps (x,o.A):Int),Sc (dr ps (x,o.A)))
 else fS x o
noncomputable def er(ps:List (List j5))(x:Hp)(row:List Int):Hp × Int × Int:=if (aL row).2≠0 then (x,0,(aL row).2) else eo ps x (aL row).1
noncomputable def jv(ps:List (List j5))(x:Hp)(rows:List (List Int)):Hp × List (Int × Int):=rows.foldl (λp r=>((er ps p.1 r).1,p.2 ++ [(er ps p.1 r).2])) (x,[])
theorem xI(ps:List (List j5))(x:Hp)(l:List (List Int))(r:List Int):jv ps x (l ++ [r])=((er ps (jv ps x l).1 r).1,(jv ps x l).2 ++ [(er ps (jv ps x l).1 r).2]):=by
 unfold jv;rw[zal];rfl
theorem Co(ps:List (List j5)):∀(l:List (List Int)) (x:Hp) (a:List (Int × Int)),l.foldl (λp r=>((er ps p.1 r).1,p.2 ++ [(er ps p.1 r).2])) (x,a)=((jv ps x l).1,a++(jv ps x l).2)
 | [],x,a=>by simp[jv]
 | r::l,x,a=>by
  unfold jv;rw[zah,zah,Co ps l,Co ps l _ ([]++_)];simp
theorem Ib(ps:List (List j5))(x:Hp)(l m:List (List Int)):jv ps x (l++m)=((jv ps (jv ps x l).1 m).1,(jv ps x l).2++(jv ps (jv ps x l).1 m).2):=by
 have:jv ps x (l++m)=m.foldl (λp r=>((er ps p.1 r).1,p.2 ++ [(er ps p.1 r).2])) (jv ps x l):=by
  unfold jv;rw[zal]
 rw[this];exact Co ps m (jv ps x l).1 (jv ps x l).2
theorem Ic(ps:List (List j5))(x:Hp)(l:List (List Int)):(jv ps x l).2.length=l.length:=by
 induction l generalizing x with
 | nil=>rfl
 | cons r l ih=>
  have:=Ib ps x [r] l;rw[List.singleton_append] at this;rw[this,zL,ih];show 1+l.length=l.length+1;omega
theorem Ch{row:List Int}(h:(aL row).2=0):y4 (aL row).1.Kind (aL row).1.A (aL row).1.B (aL row).1.C=0:=by
 unfold aL at h |-;rcases four row with ⟨k,a,b,c,rfl⟩ | hl
 .rw[Ci,ww] at h |-;by_cases q:y4 k a b c≠0
  .rw[zb q] at h;exact absurd h q
  .rw[za q];exact Classical.not_not.1 q
 .rw[(Cj hl).1,ww] at h;exact absurd h (by decide)
theorem LK{a b c:Int}(h:y4 12 a b c=0):0<=a/\a<=200:=Bp (by decide) (show M3 a 0 200 12=0 from h)
section
variable{ps:List (List j5)}(hm:Mp ps){x:Hp}(hx:Oh x)(hb:x.S.Serial<7000000000000000000)
include hm hx hb
theorem VU{o:j5}(ho:o.Kind=12->0<=o.A/\o.A<=200):Oh (eo ps x o).1/\(eo ps x o).1.S.Serial<=x.S.Serial+201:=by
 unfold eo;split
 .obtain⟨a,b,c⟩:=Gk hx.rt hx.sl hx.zr;refine⟨⟨a,b,c⟩,?_⟩;show (Av x).S.Serial<=_;rw[PM hx.rt hx.sl hx.zr];omega
 .split
  .rename_i h;obtain⟨h0,h2⟩:=ho h;obtain⟨a,b,c,d⟩:=VS ps hx h0 (by omega);exact⟨a,by show (dr ps (x,o.A)).1.S.Serial<=_;omega⟩
  .have n:=tO hx.rt hx.sl hx.zr (by omega) o;have:=n.ev.s2;exact⟨n.ok,by omega⟩
theorem VV(row:List Int):Oh (er ps x row).1/\(er ps x row).1.S.Serial<=x.S.Serial+201:=by
 unfold er;split;·exact⟨hx,by show x.S.Serial<=_;omega⟩
 .rename_i h;have hc:=Ch (Classical.not_not.1 h);refine VU hm hx hb λhk=>?_;rw[hk] at hc;exact LK hc
end
theorem Gs{ps:List (List j5)}(hm:Mp ps){x:Hp}(hx:Oh x):∀(l:List (List Int)),x.S.Serial+201*(l.length:Int)<7000000000000000000->Oh (jv ps x l).1/\(jv ps x l).1.S.Serial<=x.S.Serial+201*(l.length:Int):=by
 intro l;induction l generalizing x with
 | nil=>exact λ_=>⟨hx,by show x.S.Serial<=_;simp⟩
 | cons r l ih=>
  intro hb;rw[zH] at hb |-;obtain⟨a,b⟩:=VV hm hx (by omega) r;obtain⟨c,d⟩:=ih a (by omega);have e:=Ib ps x [r] l;rw[List.singleton_append] at e;rw[e];exact⟨c,by
   have:(jv ps (jv ps x [r]).1 l).1.S.Serial<=(er ps x r).1.S.Serial+201*(l.length:Int):=d;show (jv ps (jv ps x [r]).1 l).1.S.Serial<=_;omega⟩
noncomputable def Fp(x:Hp):List Int:=(lv x.S).map λh=>aH x h
theorem Ry{x:Hp}(hR:SR x.S):(Fp x).length<=24:=by
 unfold Fp;rw[zl];exact K9 (A2.2 hR)
inductive Fm (x:Hp) (o:j5) (z:Hp) (v:Int):Prop
 | new (i:Nat) (hF:VE x.S i) (hk:o.Kind=1) (ha:0<=o.A/\o.A<=5) (hn:o.B.toNat<=4) (hc : -1<=o.C/\o.C<=5) (hv:v=x.S.Serial+1) (hz:z=G2 (wS x (dp x.S i o.B.toNat o.C)) o.A.toNat (bX x.S i)):Fm x o z v
 | root (h:Int) (hk:o.Kind≠1) (ha:0<=o.A/\o.A<=5) (hh:h=0\/h∈lv x.S) (hz:z=G2 x o.A.toNat h):Fm x o z v
 | field (h:Int) (n:Nat) (u:Int) (hk:o.Kind=5) (hl:h∈lv x.S) (hn:n<(ob x.S h).Fields.length) (hu:u=0\/u∈lv x.S) (hz:z=bG x h n u):Fm x o z v
 | weak (h:Int) (hk:o.Kind=6) (ha:0<=o.A/\o.A<=5) (hc : -1<=o.C/\o.C<=5) (hh:h=0\/h∈lv x.S) (hw:wb x.Q o.A=false) (hz:z=cH x o.A.toNat h o.C):Fm x o z v
 | pair (h u:Int) (r:Tb × Int × Int) (hk:o.Kind=8) (hl:h∈lv x.S) (hu:u=0\/u∈lv x.S) (hr:U3 x.T h u=some r) (h0:r.2.2=0) (hz:z=iJ x u r.1 r.2.1):Fm x o z v
 | same (hk:o.Kind=10) (hz:z=x):Fm x o z v
theorem Fm.ks{x z:Hp}{o:j5}{v:Int}(hx:K0 x)(f:Fm x o z v)(hk:o.Kind≠1):Ks x.S z.S:=by
 have hR:=hx.sh.sr;cases f with
 | new i hF hk'=>exact absurd hk' hk
 | root h _ ha hh hz=>rw[hz];exact dd hR _ _
 | field h n u _ hl hn hu hz=>rw[hz];exact Bf hR hl hn u
 | weak h _ ha hc hh hw hz=>rw[hz];exact FD hx (by omega) h _
 | pair h u r _ hl hu hr h0 hz=>rw[hz];exact EN hR u _ _
 | same _ hz=>rw[hz];exact Ks.refl hR
def OE(p:Int × Int):g9:=⟨p.1,p.2⟩
section
variable{ps:List (List j5)}(hm:Mp ps){x:Hp}(hx:Oh x)(hb:x.S.Serial<7000000000000000000)
include hm hx hb
theorem Tc : -24<=LJ x-((jR x).length:Int)/\LJ x-((jR x).length:Int)<=24:=by
 have h1:=HQ hx.rt hx.sl hx.zr;have h2:(lv x.S).length<=24:=K9 (A2.2 hx.rt.sh.sr);obtain⟨c1,_,_⟩:=Gk hx.rt hx.sl hx.zr;have h3:(lv (Av x).S).length<=24:=K9 (A2.2 c1.sh.sr);unfold LJ;split
 .rename_i e;rw[e];simp;omega
 .omega
theorem Yi(row:List Int):lu ⟨x,ps⟩ row=some (⟨(er ps x row).1,ps⟩,OE (er ps x row).2):=by
 unfold lu;rw[(DZ row).1,Yz];unfold er;by_cases h:(aL row).2=0
 .rw[za (show ¬(((aL row).2 != 0)=true) by simp[h]),za (show ¬((aL row).2≠0) by simp[h])];have hc:=Ch h;generalize (aL row).1=o at hc;unfold mM eo;by_cases k11:o.Kind=11
  .rw[zb (by simp[k11]),zb k11];refine zct (b:=(aK x).bind λv4=>some (⟨v4.1,ps⟩,⟨w9 (v4.2.2-v4.2.1),0⟩)) rfl ?_;obtain⟨b1,b2⟩:=Tc hm hx hb;rw[Tl hx.rt hx.sl hx.zr,Yz];dsimp only;rw[T5 (by omega) (by omega)];rfl
  .rw[za (by simp[k11]),za k11];by_cases k12:o.Kind=12
   .rw[zb (by simp[k12]),zb k12];refine zct (b:=(gM x ps o.A).bind λv5=>some (⟨v5.1,ps⟩,⟨v5.2.1,v5.2.2.2⟩)) rfl ?_;rw[k12] at hc;obtain⟨a0,a2⟩:=LK hc;rw[drain_eq hx hm a0 (by omega) (by omega),Yz];rfl
   .rw[za (by simp[k12]),za k12];refine zct (b:=(u6 x o).bind λv3=>some (⟨v3.1,ps⟩,⟨v3.2.1,v3.2.2⟩)) rfl ?_;rw[(tO hx.rt hx.sl hx.zr (by omega) o).mc,Yz];rfl
 .rw[zb (by simpa using h),zb h];rfl
end
section
variable{ps:List (List j5)}(hm:Mp ps){x:Hp}(hx:Oh x)
include hm hx
theorem Oj{rows:List (List Int)}{k:Nat}(hk:k<rows.length):jv ps x (rows.take (k+1))=((er ps (jv ps x (rows.take k)).1 rows[k]).1,(jv ps x (rows.take k)).2 ++ [(er ps (jv ps x (rows.take k)).1 rows[k]).2]):=by
 rw[zx hk,xI]
theorem VW(rows:List (List Int))(hl:rows.length<=1000)(hb:x.S.Serial<6000000000000000000):ju ⟨x,ps⟩ rows=some (⟨(jv ps x rows).1,ps⟩,(jv ps x rows).2.map OE):=by
 unfold ju;simp only[jn];refine ca rows.length (λk s=>s=((⟨(jv ps x (rows.take k)).1,ps⟩:s6),(jv ps x (rows.take k)).2.map OE)) (by omega) rfl (λk s hk hs=>.inl ⟨_,?_,rfl⟩) (λs hs=>⟨s,za (by simp),by rw[hs,zU]⟩);subst hs;obtain⟨o1,o2⟩:=Gs hm hx (rows.take k) (by simp;omega);have hlen:=Ic ps x (rows.take k);have hkl:(rows.take k).length=k:=by simp;omega
 dsimp only;rw[zb (by simpa using hk),u5 hk,Yz,Yi hm o1 (by rw[hkl] at o2;omega),Yz,K5 (by omega) (by simp[hlen];omega),Yz,o5,Oj hm hx hk];simp
end
section
variable{ps:List (List j5)}{x:Hp}(hx:K0 x)
include hx
end
theorem Rs.oh{x:Hp}{n:Nat}(h:Rs x n):Oh x:=⟨h.rt,h.sl,h.zr⟩
theorem WB{n last places:Int}{ps:List (List j5)}(hl:ps.length<=12)(hp:∀p∈ps,p.length<=12) :
  (∃e,P6 n last places ps=some (⟨Qg,[]⟩,e)/\Dd n last places (Xp ps)=some (⟨hO Qg,[]⟩,e)/\(e=13\/e=1/\¬((1<=n/\n<=24)/\(0<=last/\last<=9)/\1<=places/\places<=8))) \/
  (∃k p:Nat,n=k/\places=p/\(1<=k/\k<=24)/\Mp ps/\Rs (pV k last p) 0/\P6 n last places ps=some (⟨pV k last p,ps⟩,0)/\Dd n last places (Xp ps)=some (⟨hO (pV k last p),Xp ps⟩,0)):=by
 have e1:fP ps=some (fk ps):=ES (by omega) hp;have e2:pZ (Xp ps)=some (fk ps):=GU (by omega) hp;unfold P6 Dd;rw[e1,e2,Yz,Yz];cases hq:fk ps;·exact .inl ⟨13,rfl,rfl,.inl rfl⟩
 .simp only[zch,zC,t8];by_cases h:(1<=n/\n<=24)/\(0<=last/\last<=9)/\1<=places/\places<=8
  .right;obtain⟨h1,h2,h3⟩:=h;obtain⟨k,rfl⟩:∃k:Nat,n=k:=⟨n.toNat,by omega⟩;obtain⟨p,rfl⟩:∃p:Nat,places=p:=⟨places.toNat,by omega⟩;obtain⟨a1,a2,hx,hS,hz⟩:=Mx (k:=k) (p:=p) (l:=last) (by omega) h2 (by omega);refine⟨k,p,rfl,rfl,by omega,(Ww hq).1,⟨hx,hS,hz,zae _⟩,?_,?_⟩
   .rw[a1,Yz,hx.sh.r6];rfl
   .rw[a2,Yz,show (hO (pV k last p)).Roots.length=6 from hx.sh.r6];rfl
  .left;have a1:lB n last places=some Qg:=by
    unfold lB;rw[zb (by simp;omega)];rfl
   have a2:tT n last places=some (hO Qg):=by
    unfold tT;rw[zb (by simp;omega)];rfl
   refine⟨1,?_,?_,.inr ⟨rfl,h⟩⟩;·rw[a1];rfl
   .rw[a2];rfl
theorem NA{x:Hp}(hx:K0 x)(hS:SL x){k v e:Int}(hk:k∈lv x.S)(hv:v=0\/v∈lv x.S)(h:bY x k v=some (x,e))(he:e≠0):e=8:=by
 have hR:=hx.sh.sr;have k0:k≠0:=λq=>eP hR (q▸hk);unfold bY at h;rw[za (by simpa using k0),N2 hR (tz hx hS (.inr hk)),Yz,N2 hR (tz hx hS hv),zD (.inr hk),zD hv] at h;simp only[zch,q9,iI,Yz,Bool.or_self,zC,t8] at h;obtain⟨r,r1,_,_,r5⟩:=dK hx.sh.hr k v;rw[r1,Yz] at h;by_cases h0:r.2.2=0
 .have e1:(r.2.2 != 0)=false:=by simpa using h0
  rw[e1,za (by simp)] at h;cases q:E0 x r.2.1 v ⟨r.1⟩ with
  | none=>rw[q] at h;cases h
  | some w=>
   rw[q,Yz] at h;exact absurd (zX (λp=>p.2) (zJ h)).symm he
 .rw[zb (by simpa using h0)] at h;have:r.2.2=e:=zX (λp=>p.2) (zJ h);rcases r5 with ⟨q,rfl⟩ | ⟨_,_,⟨i,hi,rfl⟩ | ⟨_,rfl⟩⟩ | ⟨_,_,⟨i,hi,rfl⟩ | ⟨d,_,_,_,_,rfl⟩ | ⟨_,_,rfl⟩⟩;·exact absurd q k0
  .exact absurd rfl h0
  .exact absurd rfl h0
  .exact absurd rfl h0
  .exact absurd rfl h0
  .exact this.symm
theorem Ed{s:b6}(hR:SR s){h:Int}(hh:h∈lv s){n:Nat}(hn:n<(ob s h).Fields.length):J4 s h n=some ((ob s h).Fields[n],0):=by
 unfold J4;rw[uR (A2.2 hR) hh,Yz,za (by simp),Yn hn];rfl
section
variable{x:Hp}(hB:HB x)
include hB
end
theorem FF{x:Hp}(hx:K0 x){k h c e:Int}(hk:0<=k/\k<=5)(hh:h=0\/h∈lv x.S)(hm:h<=9223372036854775807)(hc : -1<=c/\c<=5)(q:R7 x k h c=some (x,e))(he:e≠0):e=7:=by
 have hR:=hx.sh.sr;have c6:=hx.sh.c6;have q30:=hx.sh.q30;obtain⟨n,rfl⟩:∃n:Nat,k=n:=⟨k.toNat,by omega⟩;unfold R7 at q;have e1:((decide ((n:Int)<0))||(decide ((n:Int)>=(x.b7.length:Int))))=false:=by rw[c6];simp;omega
 rw[e1] at q;simp only[q9,iI,zca] at q;have hwq:aG x.Q n=some (wb x.Q n):=xh (by omega);rw[hwq,Yz,N2 hR hm,Yz,zD hh] at q;cases hw:wb x.Q n
 .rw[hw,za (by decide),za (by decide)] at q;cases g1:jO x.b7 n h c with
  | none=>rw[g1] at q;cases q
  | some a=>
   rw[g1,Yz] at q;cases g2:ah ⟨x.S,x.Roots,a.1,x.T,x.Q⟩ h 1 with
   | none=>rw[g2] at q;cases q
   | some b=>
    rw[g2,Yz] at q;cases g3:aU b a.2.1 with
    | none=>rw[g3] at q;cases q
    | some d=>
     rw[g3,Yz] at q;exact absurd (zX (λp=>p.2) (zJ q)).symm he
 .rw[hw,zb rfl] at q;exact (zX (λp=>p.2) (zJ q)).symm
section
variable{x:Hp}(hB:HB x)
include hB
end
structure Gd (σ:Int->Int) (s:b6):Prop where
 z:σ 0=0
 f:∀h i,T9 s h i->σ h=(ce s i).Val.Serial
def nd(σ:Int->Int)(s:b6)(i:Nat):b8:=⟨(ce s i).Val.Serial,i,(ce s i).Val.Prog,(ce s i).Val.Started,decide ((ce s i).State=1),decide (12<=(ce s i).Val.Strong),(ce s i).Val.Fields.map σ⟩
structure Sn (σ:Int->Int) (s:b6) (l:List b8):Prop where
 up:l.Pairwise λa b=>a.Serial<b.Serial
 mem:∀n,n∈l↔∃i,i<s.S.b7.length/\Th (ce s i)/\n=nd σ s i
def Oe(c:c9):Int:=if Th c then c.Val.Serial else if c.State=3 then -1 else 0
def wx(σ:Int->Int)(c:k9):k9:=⟨σ c.Target,c.Intact,c.Call⟩
def tx(σ:Int->Int)(t:g7):g7:=if t.Kind=1 then ⟨1,σ t.At,t.Prog⟩ else t
structure r8 (σ:Int->Int) (x:Hp) (m:a8):Prop where
 gd:Gd σ x.S
 nd:Sn σ x.S m.Nodes
 sl:m.Slots=(List.range x.S.S.b7.length).map λi=>Oe (Sh.ce x.S i)
 ge:m.Gens=(List.range x.S.S.b7.length).map λi=>(Sh.ce x.S i).Gen
 la:m.Last=x.S.S.Last
 npl:m.Places=x.T.length
 se:m.Serial=x.S.Serial
 ro:m.Roots=x.Roots.map σ
 ce:m.b7=x.b7.map (wx σ)
 p1:m.Pairs.Pairwise λa b=>a.Key≠b.Key
 p2:∀p,p∈m.Pairs↔∃k v,Has x.T k v/\p=⟨σ k,σ v⟩
 tk:m.Tasks=x.Q.L.map (tx σ)
section
variable{σ:Int->Int}{s:b6}(hR:SR s)(g:Gd σ s)
include hR g
theorem Gd.lv{h:Int}(hh:h∈lv s):σ h=(ob s h).Serial:=by
 have q:=o6 hR hh;rw[F1 hR q,g.f h _ q.d]
theorem Gd.pos{h:Int}{i:Nat}(q:T9 s h i):1<=σ h/\σ h<=s.Serial:=by
 rw[g.f h i q];exact⟨(hR.ok i q.1 q.2.1).s1,(hR.ok i q.1 q.2.1).s2⟩
theorem Gd.inj{h k:Int}{i j:Nat}(q:T9 s h i)(p:T9 s k j)(e:σ h=σ k):h=k:=by
 rw[g.f h i q,g.f k j p] at e;have:=hR.dif i j q.1 p.1 q.2.1 p.2.1 e;subst this;rw[q.2.2,p.2.2]
theorem Gd.inl{h k:Int}(hh:h∈Sh.lv s)(hk:k∈Sh.lv s)(e:σ h=σ k):h=k:=g.inj hR (o6 hR hh).d (o6 hR hk).d e
theorem Gd.ps{h:Int}(hh:h∈Sh.lv s):1<=σ h/\σ h<=s.Serial:=g.pos hR (o6 hR hh).d
theorem Gd.Vx{h k:Int}(hh:h=0\/∃i,T9 s h i)(hk:k=0\/∃i,T9 s k i)(e:σ h=σ k):h=k:=by
 rcases hh with e1 | ⟨i,q⟩ <;> rcases hk with e2 | ⟨j,p⟩
 .rw[e1,e2]
 .subst e1;rw[g.z] at e;have:=g.pos hR p;omega
 .subst e2;rw[g.z] at e;have:=g.pos hR q;omega
 .exact g.inj hR q p e
theorem Gd.zero{h:Int}(hh:h=0\/∃i,T9 s h i):σ h=0↔h=0:=by
 refine⟨λe=>g.Vx hR hh (.inl rfl) (e.trans g.z.symm),λe=>?_⟩;subst e;exact g.z
theorem MP{h:Int}(hh:h=0\/h∈Sh.lv s):h=0\/∃i,T9 s h i:=hh.imp id λq=>⟨_,(o6 hR q).d⟩
theorem xi{l:List Int}(hl:∀v∈l,v=0\/v∈Sh.lv s){h:Int}(hh:h∈Sh.lv s):Q0 (l.map σ) (σ h)=Q0 l h:=by
 have p:=g.ps hR hh;have p0:=(H6 hR hh).1;unfold Q0;rw[za (by omega),za (by omega)];induction l with
 | nil=>rfl
 | cons v l ih=>
  rw[zR,zcr,zcr,ih λu hu=>hl u (zn _ hu)];congr 1;by_cases e:v=h
  .subst e;simp
  .have:σ v≠σ h:=λe'=>e (g.Vx hR (MP hR g (hl v zg)) (.inr ⟨_,(o6 hR hh).d⟩) e');simp[e,this]
end
section
variable{σ:Int->Int}{s:b6}(hR:SR s){l:List b8}(q:Sn σ s l)
include hR q
theorem Sn.one{n m:b8}(hn:n∈l)(hm:m∈l)(e:n.Serial=m.Serial):n=m:=by
 obtain⟨i,hi,ti,rfl⟩:=(q.mem n).1 hn;obtain⟨j,hj,tj,rfl⟩:=(q.mem m).1 hm;have:=hR.dif i j hi hj ti tj e;rw[this]
theorem Sn.at{i:Nat}(hi:i<s.S.b7.length)(ht:Th (ce s i)):Sh.nd σ s i∈l:=(q.mem _).2 ⟨i,hi,ht,rfl⟩
theorem Sn.pos{n:b8}(hn:n∈l):1<=n.Serial/\n.Serial<=s.Serial:=by
 obtain⟨i,hi,ti,rfl⟩:=(q.mem n).1 hn;exact⟨(hR.ok i hi ti).s1,(hR.ok i hi ti).s2⟩
theorem Sn.len:l.length<=24:=by
 have h1:(l.map (·.Slot)).Nodup:=by
  rw[List.Nodup,zbt];refine zbp (λ{a b} ha hb h=>?_) q.up;obtain⟨i,hi,ti,rfl⟩:=(q.mem a).1 ha;obtain⟨j,hj,tj,rfl⟩:=(q.mem b).1 hb;intro e;have:i=j:=by
   have:(i:Int)=(j:Int):=e;omega
  subst this;exact absurd h (zbe _)
 have h2:∀v∈l.map (·.Slot),v∈(List.range s.S.b7.length).map λi:Nat=>(i:Int):=λv hv=>by
  obtain⟨n,hn,rfl⟩:=zq.1 hv;obtain⟨i,hi,ti,rfl⟩:=(q.mem n).1 hn;exact zq.2 ⟨i,za6.2 hi,rfl⟩
 have:=Z3 h1 h2;rw[zl,zl,zb9] at this;have:=hR.len;omega
theorem Sn.alive:l.filter (·.Alive)=(lv s).map λh=>Sh.nd σ s (D7 h):=by
 have key:∀(a b:List b8),a.Pairwise (λu v=>u.Serial<v.Serial)->b.Pairwise (λu v=>u.Serial<v.Serial)->(∀n,n∈a↔n∈b)->a=b:=by
  intro a;induction a with
  | nil=>intro b _ _ h;cases b with
   | nil=>rfl
   | cons y b=>exact absurd ((h y).2 zg) (by simp)
  | cons x a ih=>
   intro b ha hb h;cases b with
   | nil=>exact absurd ((h x).1 zg) (by simp)
   | cons y b=>
    rw[zba] at ha hb;have e:x=y:=by
     rcases zM.1 ((h x).1 zg) with e | e
     .exact e
     .rcases zM.1 ((h y).2 zg) with e' | e'
      .exact e'.symm
      .have:=hb.1 x e;have:=ha.1 y e';omega
    subst e;congr 1;refine ih b ha.2 hb.2 λn=>⟨λhn=>?_,λhn=>?_⟩
    .rcases zM.1 ((h n).1 (zn _ hn)) with e | e
     .subst e;have:=ha.1 n hn;omega
     .exact e
    .rcases zM.1 ((h n).2 (zn _ hn)) with e | e
     .subst e;have:=hb.1 n hn;omega
     .exact e
 refine key _ _ (q.up.filter _) ?_ λn=>?_
 .rw[zbt];refine zbp (λ{a b} ha hb h=>?_) (mV (A2.2 hR)).2.2;show (ce s (D7 a)).Val.Serial<(ce s (D7 b)).Val.Serial;rwa [HP hR (o6 hR ha),HP hR (o6 hR hb)] at h
 .rw[zk,zq];constructor
  .rintro⟨hn,ha⟩;obtain⟨i,hi,ti,rfl⟩:=(q.mem n).1 hn;have h1:(ce s i).State=1:=by simpa[Sh.nd] using ha
   have hA:At s (bX s i) i:=⟨hi,h1,rfl⟩;exact⟨bX s i,(gR hR).2 ⟨i,hA⟩,by rw[hA.d.D7 hR]⟩
  .rintro⟨h,hh,rfl⟩;have hA:=o6 hR hh;exact⟨(q.mem _).2 ⟨D7 h,hA.1,hA.d.2.1,rfl⟩,by simp[Sh.nd,hA.2.1]⟩
end
def jV(m:a8):List Int:=oR ⟨m.Tasks,30⟩
def DL(m:a8)(s:Int):Nat:=Q0 m.Roots s+((m.Nodes.filter (·.Alive)).map λn=>Q0 n.Fields s).sum+Q0 (m.Pairs.map (·.Val)) s+Q0 (jV m) s
theorem NG:∀ {t:Tb},HR t->(jE t).Pairwise λa b=>a.Key≠b.Key:=by
 intro t hR;have key:∀(l:Tb),(∀i j,i<l.length->j<l.length->(l.getD i ⟨0,0,0⟩).State=1->(l.getD j ⟨0,0,0⟩).State=1->(l.getD i ⟨0,0,0⟩).Key=(l.getD j ⟨0,0,0⟩).Key->i=j)->(jE l).Pairwise λa b=>a.Key≠b.Key:=by
  intro l;induction l with
  | nil=>intro _;exact List.Pairwise.nil
  | cons p l ih=>
   intro h;have h2:=ih λi j hi hj a b e=>by
    have:=h (i+1) (j+1) (by simpa using hi) (by simpa using hj) (by simpa using a) (by simpa using b) (by simpa using e);omega
   unfold jE at h2 |-;rw[or];split
   .rename_i hp;rw[zR,zba];refine⟨λa ha=>?_,h2⟩;obtain⟨u,hu,rfl⟩:=zq.1 ha;rw[zk] at hu;obtain⟨k,hk,e⟩:=wt hu.1;intro eb;have:=h 0 (k+1) (by simp) (by simpa using hk) (by simpa using hp) (by simp[zd,hk,e];simpa using hu.2) (by simp[zd,hk,e];exact eb);omega
   .exact h2
 exact key t λi j hi hj a b e=>hR.uq i j hi hj a b e
section
variable{σ:Int->Int}{x:Hp}{m:a8}(hS:jY x)(q:r8 σ x m)
include hS q
theorem r8.perm:m.Pairs.Perm ((jE x.T).map λp=>⟨σ p.Key,σ p.Val⟩):=by
 have h1:m.Pairs.Nodup:=q.p1.imp λh e=>h (by rw[e]);have h2:((jE x.T).map λp=>(⟨σ p.Key,σ p.Val⟩:k7)).Nodup:=by
  rw[List.Nodup,zbt];refine zbp (λ{a b} ha hb h e=>h ?_) (NG hS.hr);exact q.gd.inl hS.sr (hS.pr _ _ (cg.1 ha)).1 (hS.pr _ _ (cg.1 hb)).1 (zX k7.Key e)
 rw[List.perm_ext_iff_of_nodup h1 h2];intro p;rw[q.p2,zq];constructor
 .rintro⟨k,v,h,rfl⟩;exact⟨⟨k,v⟩,cg.2 h,rfl⟩
 .rintro⟨⟨k,v⟩,h,rfl⟩;exact⟨k,v,cg.1 h,rfl⟩
theorem r8.Kg:jV m=(oR x.Q).map σ:=by
 unfold jV oR;rw[q.tk];show List.map (·.At) (((x.Q.L.map (tx σ)).filter (·.Kind==1)))=_;rw[zcs,za2,za2];have e:((λt:g7=>t.Kind==1) ∘ tx σ)=λt=>t.Kind==1:=by
  funext t
  show ((tx σ t).Kind==1)=_;unfold tx;split;·rename_i h;simp[h]
  .rfl
 rw[e];refine zt λt ht=>?_;have:=(zk.1 ht).2;show (tx σ t).At=σ t.At;unfold tx;rw[zb (by simpa using this)]
theorem TL:∀v∈oR x.Q,v=0\/v∈lv x.S:=λv hv=>by
 obtain⟨t,ht,k,rfl⟩:=lE.1 hv;rcases (hS.tk t ht).2.2 with h | h
 .exact .inr h.2.1
 .rw[h.1] at k;exact absurd k (by decide)
theorem r8.lK{h:Int}(hh:h∈lv x.S):DL m (σ h)=lK x h:=by
 have hR:=hS.sr;have p:=q.gd.ps hR hh;have p0:=(H6 hR hh).1;unfold DL Sh.lK;have ea:Q0 m.Roots (σ h)=Q0 (nz x.Roots) h:=by rw[q.ro,xi hR q.gd hS.rt hh,pF]
 have eb:((m.Nodes.filter (·.Alive)).map λn=>Q0 n.Fields (σ h)).sum=jW x.S h:=by
  rw[q.nd.alive hR,za2];unfold jW;congr 1;refine zt λa ha=>?_;show Q0 ((Sh.ce x.S (D7 a)).Val.Fields.map σ) (σ h)=_;rw[<-F1 hR (o6 hR ha),xi hR q.gd (hS.fl a ha) hh];exact (pF _ _).symm
 have ec:Q0 (m.Pairs.map (·.Val)) (σ h)=own x.T h:=by
  have:Q0 (m.Pairs.map (·.Val)) (σ h)=Q0 (((jE x.T).map (·.Val)).map σ) (σ h):=by
   unfold Q0;split;·rfl
   .rw[za2];have:=(q.perm hS).map (·.Val);rw[za2] at this;exact List.perm_iff_count.1 this _
  rw[this,xi hR q.gd (λv hv=>?_) hh]
  .unfold Q0 own;rw[za (by omega),List.count_eq_countP,List.countP_map];refine List.countP_congr λu hu=>?_;simp;omega
  .obtain⟨u,hu,rfl⟩:=zq.1 hv;exact .inr (hS.pr _ _ (cg.1 hu)).2
 have ed:Q0 (jV m) (σ h)=Q0 (oR x.Q) h:=by rw[q.Kg hS,xi hR q.gd (TL hS q) hh]
 rw[ea,eb,ec,ed];unfold nZ;rw[F9];omega
end
def fF(l:List b8)(s:Int)(f:b8->b8):List b8:=l.map λn=>if n.Serial=s then f n else n
theorem Gg(l:List b8)(s:Int){f:b8->b8}(h:∀n∈l,n.Serial=s->f n=n):fF l s f=l:=by
 unfold fF;conv=>rhs;rw[<-List.map_id l]
 refine zt λn hn=>?_;split;·rename_i e;exact h n hn e
 .rfl
section
variable{σ:Int->Int}{s s':b6}(hR:SR s){l:List b8}(q:Sn σ s l)
include hR q
theorem Sn.same(hl:s'.S.b7.length=s.S.b7.length)(h:∀i,i<s.S.b7.length->(Th (ce s' i)↔Th (ce s i))/\(Th (ce s i)->Sh.nd σ s' i=Sh.nd σ s i)):Sn σ s' l:=by
 refine⟨q.up,λn=>(q.mem n).trans ⟨?_,?_⟩⟩
 .rintro⟨i,hi,ti,e⟩;exact⟨i,by rw[hl];exact hi,(h i hi).1.2 ti,e.trans ((h i hi).2 ti).symm⟩
 .rintro⟨i,hi,ti,e⟩;rw[hl] at hi;exact⟨i,hi,(h i hi).1.1 ti,e.trans ((h i hi).2 ((h i hi).1.1 ti))⟩
variable{i:Nat}(hi:i<s.S.b7.length)(hl:s'.S.b7.length=s.S.b7.length)(ho:∀j,j≠i->ce s' j=ce s j)
include hi hl ho
omit hR q hi hl in
theorem lJ {j:Nat} (h:j≠i):Sh.nd σ s' j=Sh.nd σ s j:=by
 unfold Sh.nd;rw[ho j h]
theorem Sn.x6(ht:Th (ce s i))(ht':Th (ce s' i))(hs:(ce s' i).Val.Serial=(ce s i).Val.Serial){f:b8->b8}(hf:f (Sh.nd σ s i)=Sh.nd σ s' i):Sn σ s' (fF l (ce s i).Val.Serial f):=by
 have h0:∀n∈l,n.Serial=(ce s i).Val.Serial->n=Sh.nd σ s i:=λn hn e=>q.one hR hn (q.at hR hi ht) e;have hser:∀n∈l,(if n.Serial=(ce s i).Val.Serial then f n else n).Serial=n.Serial:=λn hn=>by
  split
  .rename_i e;rw[h0 n hn e,hf];exact hs
  .rfl
 constructor
 .unfold fF;rw[zbt];refine zbp (λ{a b} ha hb h=>?_) q.up;rw[hser a ha,hser b hb];exact h
 .intro n;unfold fF;rw[zq];constructor
  .rintro⟨k,hk,rfl⟩;split
   .rename_i e;refine⟨i,by rw[hl];exact hi,ht',?_⟩;rw[h0 k hk e,hf]
   .rename_i e;obtain⟨j,hj,tj,eb⟩:=(q.mem k).1 hk;have hne:j≠i:=λc=>e (by rw[eb,c];rfl);exact⟨j,by rw[hl];exact hj,by rw[ho j hne];exact tj,by rw[lJ ho hne];exact eb⟩
  .rintro⟨j,hj,tj,rfl⟩;by_cases c:j=i
   .subst c;refine⟨Sh.nd σ s j,q.at hR hi ht,?_⟩;exact (zb rfl).trans hf
   .rw[hl] at hj;rw[ho j c] at tj;refine⟨Sh.nd σ s j,q.at hR hj tj,?_⟩;rw[lJ ho c];exact za λe=>c (hR.dif j i hj hi tj ht e)
theorem Sn.del(ht:Th (ce s i))(hn:¬Th (ce s' i)):Sn σ s' (l.filter λn=>n.Serial != (ce s i).Val.Serial):=by
 refine⟨q.up.filter _,λn=>?_⟩;rw[zk];constructor
 .rintro⟨hk,e⟩;obtain⟨j,hj,tj,rfl⟩:=(q.mem n).1 hk;have hne:j≠i:=λc=>by subst c;simp[Sh.nd] at e
  exact⟨j,by rw[hl];exact hj,by rw[ho j hne];exact tj,(lJ ho hne).symm⟩
 .rintro⟨j,hj,tj,rfl⟩;have hne:j≠i:=λc=>hn (c▸tj);rw[hl] at hj;rw[ho j hne] at tj;rw[lJ ho hne];refine⟨q.at hR hj tj,?_⟩;have:(Sh.nd σ s j).Serial≠(ce s i).Val.Serial:=λe=>hne (hR.dif j i hj hi tj ht e);simpa using this
theorem Sn.add(hn:¬Th (ce s i))(ht:Th (ce s' i))(hs:s.Serial<(ce s' i).Val.Serial):Sn σ s' (l ++ [Sh.nd σ s' i]):=by
 constructor
 .rw[zar];refine⟨q.up,List.pairwise_singleton ..,λa ha b hb=>?_⟩;rw[zp] at hb;subst hb;have:=(q.pos hR ha).2;show a.Serial<(ce s' i).Val.Serial;omega
 .intro n;rw[zu,zp];constructor
  .rintro (h | rfl)
   .obtain⟨j,hj,tj,rfl⟩:=(q.mem n).1 h;have hne:j≠i:=λc=>hn (c▸tj);exact⟨j,by rw[hl];exact hj,by rw[ho j hne];exact tj,(lJ ho hne).symm⟩
   .exact⟨i,by rw[hl];exact hi,ht,rfl⟩
  .rintro⟨j,hj,tj,rfl⟩;by_cases c:j=i
   .subst c;exact .inr rfl
   .rw[hl] at hj;rw[ho j c] at tj;rw[lJ ho c];exact .inl (q.at hR hj tj)
end
abbrev xn(m:a8)(l:List b8):a8:=⟨l,m.Slots,m.Gens,m.Last,m.Places,m.Serial,m.Roots,m.b7,m.Pairs,m.Tasks,m.Progs⟩
abbrev Xt(m:a8)(l:List Int):a8:=⟨m.Nodes,m.Slots,m.Gens,m.Last,m.Places,m.Serial,l,m.b7,m.Pairs,m.Tasks,m.Progs⟩
abbrev RN(m:a8)(l:List k9):a8:=⟨m.Nodes,m.Slots,m.Gens,m.Last,m.Places,m.Serial,m.Roots,l,m.Pairs,m.Tasks,m.Progs⟩
abbrev Vn(m:a8)(l:List k7):a8:=⟨m.Nodes,m.Slots,m.Gens,m.Last,m.Places,m.Serial,m.Roots,m.b7,l,m.Tasks,m.Progs⟩
abbrev FC(m:a8)(l:List g7):a8:=⟨m.Nodes,m.Slots,m.Gens,m.Last,m.Places,m.Serial,m.Roots,m.b7,m.Pairs,l,m.Progs⟩
def Dv(n:b8):b8:=⟨n.Serial,n.Slot,n.Prog,n.Started,n.Alive,true,n.Fields⟩
def ug(m:a8)(s:Int):a8:=xn m (fF m.Nodes s Dv)
def fN(m:a8)(s:Int):a8:=if s≠0/\11<=DL m s then ug m s else m
def de(m:a8)(r:Nat)(s:Int):a8:=Xt (fN m s) (m.Roots.set r s)
theorem aJ(m:a8)(s:Int):fN m s=xn m (fN m s).Nodes:=by
 unfold fN ug;split <;> rfl
theorem Gd.up{σ:Int->Int}{s s':b6}(g:Gd σ s)(h:∀k i,T9 s' k i->T9 s k i/\(ce s' i).Val.Serial=(ce s i).Val.Serial):Gd σ s':=
 ⟨g.z,λk i q=>by rw[g.f k i (h k i q).1,(h k i q).2]⟩
theorem T4{n:Nat}{f g:Nat->Int}(h:∀i,i<n->f i=g i):(List.range n).map f=(List.range n).map g:=zt λi hi=>h i (za6.1 hi)
section
variable{σ:Int->Int}{x:Hp}{m:a8}(hR:SR x.S)(q:r8 σ x m)
include hR q
theorem r8.put{h:Int}(hh:h∈lv x.S){o:n9}(hs:o.Serial=(ob x.S h).Serial)(ho:As x.S o){f:b8->b8}
  (hf:f (Sh.nd σ x.S (D7 h))=⟨o.Serial,(D7 h:Nat),o.Prog,o.Started,true,decide (12<=o.Strong),o.Fields.map σ⟩):r8 σ (wS x (cU x.S h o)) (xn m (fF m.Nodes (σ h) f)):=by
 have p:=o6 hR hh;have hc:=λj=>yQ hR hh hs ho j;have hl:(cU x.S h o).S.b7.length=x.S.S.b7.length:=J2 ..;have hsi:o.Serial=(Sh.ce x.S (D7 h)).Val.Serial:=by rw[hs,F1 hR p]
 have same:∀i,(Sh.ce (cU x.S h o) i).State=(Sh.ce x.S i).State/\(Sh.ce (cU x.S h o) i).Gen=(Sh.ce x.S i).Gen/\(Sh.ce (cU x.S h o) i).Val.Serial=(Sh.ce x.S i).Val.Serial:=λi=>by
  rw[hc i];split;·rename_i c;subst c;exact⟨rfl,rfl,hsi⟩
  .exact⟨rfl,rfl,rfl⟩
 have sT:∀i,Th (Sh.ce (cU x.S h o) i)↔Th (Sh.ce x.S i):=λi=>by unfold Th;rw[(same i).1]
 refine⟨q.gd.up λk i a=>⟨(Ds hR hh hs ho).1 a,(same i).2.2⟩,?_,?_,?_,q.la,q.npl,q.se,q.ro,q.ce,q.p1,q.p2,q.tk⟩
 .have:=q.nd.x6 (s':=cU x.S h o) hR p.1 hl (λj hj=>by rw[hc j,za hj]) p.d.2.1 ((sT _).2 p.d.2.1) (same _).2.2 (f:=f) (by
   rw[hf];unfold Sh.nd;rw[hc,zb rfl,zD p.2.1])
  rw[q.gd.f h _ p.d];exact this
 .show m.Slots=_;rw[q.sl];show _=List.map _ (List.range (cU x.S h o).S.b7.length);rw[hl];refine T4 λi hi=>?_;unfold Oe;rw[(same i).2.2,(same i).1];by_cases c:Th (Sh.ce x.S i)
  .rw[zb c,zb ((sT i).2 c)]
  .rw[za c,za λd=>c ((sT i).1 d)]
 .show m.Gens=_;rw[q.ge];show _=List.map _ (List.range (cU x.S h o).S.b7.length);rw[hl];exact T4 λi hi=>(same i).2.1.symm
theorem r8.AP{h:Int}(hh:h∈lv x.S){n:Int}(hn:0<=n):r8 σ (wS x (cU x.S h (AP (ob x.S h) n))) (xn m (fF m.Nodes (σ h) λk=>⟨k.Serial,k.Slot,k.Prog,k.Started,k.Alive,decide (12<=n),k.Fields⟩)):=by
 have ho:=J9 hR hh;have p:=o6 hR hh;refine q.put (o:=Sh.AP (ob x.S h) n) hR hh rfl ⟨ho.s1,ho.s2,hn,ho.wk,ho.p1,ho.p2,ho.fl⟩ ?_;unfold Sh.nd;rw[F1 hR p,zD p.2.1]
theorem r8.OI(h:Int):r8 σ (aD x h) m:=by
 unfold aD uf;split
 .rename_i hh;have p:=o6 hR hh;have:=q.AP hR hh (n:=kP (ob x.S h).Strong) (P2 (J9 hR hh).st);rw[Gg] at this;·exact this
  .intro n hn e;have:n=Sh.nd σ x.S (D7 h):=q.nd.one hR hn (q.nd.at hR p.1 p.d.2.1) (by rw[e,q.gd.f h _ p.d];rfl);rw[this];unfold Sh.nd;congr 1;rw[F1 hR p];refine zbm.2 ?_;unfold kP;split;·omega
   .split <;> omega
 .exact q
theorem r8.UY{h:Int}(hh:h=0\/h∈lv x.S){k:Nat}(hk:h∈lv x.S->(ob x.S h).Strong<12->(ob x.S h).Strong=k):r8 σ (E7 x h) (if σ h≠0/\11<=k then ug m (σ h) else m):=by
 unfold E7 uf;rcases hh with e | hh
 .subst e;rw[za (eP hR),za (λc=>c.1 q.gd.z)];exact q
 .rw[zb hh];have p:=o6 hR hh;have h0:σ h≠0:=by have:=q.gd.ps hR hh;omega
  have hn:=(J9 hR hh).st;have Q:=q.AP hR hh (n:=Y9 (ob x.S h).Strong) (E6 hn);have one:∀n∈m.Nodes,n.Serial=σ h->n=Sh.nd σ x.S (D7 h):=λn hn e=>q.nd.one hR hn (q.nd.at hR p.1 p.d.2.1) (by rw[e,q.gd.f h _ p.d];rfl);have hinc:12<=Y9 (ob x.S h).Strong↔11<=(ob x.S h).Strong:=by
   unfold Y9;split;·omega
   .split <;> omega
  have hstk:∀n∈m.Nodes,n.Serial=σ h->n.Stuck=decide (12<=(ob x.S h).Strong):=λn hn e=>by
   rw[one n hn e,F1 hR p];rfl
  by_cases c:11<=(ob x.S h).Strong
  .have e1':(xn m (fF m.Nodes (σ h) λk=>⟨k.Serial,k.Slot,k.Prog,k.Started,k.Alive,decide (12<=Y9 (ob x.S h).Strong),k.Fields⟩))=ug m (σ h):=by
    rw[zD (hinc.2 c)];rfl
   rw[e1'] at Q;split;·exact Q
   .rename_i c2;have c3:12<=(ob x.S h).Strong:=by
     rcases Int.lt_or_le (ob x.S h).Strong 12 with c4 | c4
     .exact absurd ⟨h0,by have:=hk hh c4;omega⟩ c2
     .exact c4
    have:ug m (σ h)=m:=by
     unfold ug;rw[Gg];intro n hn e;have:=hstk n hn e;rw[zD c3] at this;unfold Dv;rw[<-this]
    rw[this] at Q;exact Q
  .have e1':(xn m (fF m.Nodes (σ h) λk=>⟨k.Serial,k.Slot,k.Prog,k.Started,k.Alive,decide (12<=Y9 (ob x.S h).Strong),k.Fields⟩))=m:=by
    rw[zY (λd=>c (hinc.1 d)),Gg];intro n hn e;have:=hstk n hn e;rw[zY (by omega)] at this;rw[<-this]
   rw[e1'] at Q;rw[za (λd=>by have:=hk hh (by omega);omega)];exact Q
end
theorem r8.WS{σ:Int->Int}{m:a8}:∀(l:List Int) {x:Hp},SR x.S->r8 σ x m->r8 σ (l.foldl aD x) m
 | [],_,_,h=>h
 | v::l,x,hR,h=>by
  rw[zah];refine r8.WS l (x:=aD x v) ?_ (h.OI hR v);have:=hU [v] hR;exact this.1.sr
section
variable{σ:Int->Int}{x:Hp}{m:a8}(hS:jY x)(q:r8 σ x m)
include hS q
theorem r8.E7{h:Int}(hf:aI x [])(hh:h=0\/h∈lv x.S):r8 σ (E7 x h) (fN m (σ h)):=
 q.UY hS.sr hh λhl hs=>by rw[q.lK hS hl,hf h hl hs,H9];rfl
theorem r8.roots(r:Nat)(h:Int):r8 σ (wR x (x.Roots.set r h)) (Xt m (m.Roots.set r (σ h))):=
 ⟨q.gd,q.nd,q.sl,q.ge,q.la,q.npl,q.se,by rw[q.ro];exact (zco ..).symm,q.ce,q.p1,q.p2,q.tk⟩
theorem r8.Sx{r:Nat}{h:Int}{k:Nat}(hh:h=0\/h∈lv x.S)(hk:h∈lv x.S->(ob x.S h).Strong<12->(ob x.S h).Strong=k):r8 σ (G2 x r h) (Xt (if σ h≠0/\11<=k then ug m (σ h) else m) (m.Roots.set r (σ h))):=by
 unfold G2;have Q:=q.UY hS.sr hh hk;refine r8.OI (x:=wR (Sh.E7 x h) (x.Roots.set r h)) (jK hS.sr h) ?_ _;have e:(if σ h≠0/\11<=k then ug m (σ h) else m).Roots=m.Roots:=by split <;> rfl
 have ex:(Sh.E7 x h).Roots=x.Roots:=by rw[po]
 rw[<-ex,<-e];exact⟨Q.gd,Q.nd,Q.sl,Q.ge,Q.la,Q.npl,Q.se,by rw[Q.ro];exact (zco ..).symm,Q.ce,Q.p1,Q.p2,Q.tk⟩
theorem r8.G2{r:Nat}{h:Int}(hf:aI x [])(hh:h=0\/h∈lv x.S):r8 σ (G2 x r h) (de m r (σ h)):=by
 have:=q.Sx hS (r:=r) hh (k:=DL m (σ h)) λhl hs=>by rw[q.lK hS hl,hf h hl hs,H9];rfl
 exact this
end
abbrev VY(n:b8)(l:List Int):b8:=⟨n.Serial,n.Slot,n.Prog,n.Started,n.Alive,n.Stuck,l⟩
section
variable{σ:Int->Int}{x:Hp}{m:a8}(hS:jY x)(q:r8 σ x m)
include hS q
theorem r8.bG{h:Int}(hf:aI x [])(hh:h∈lv x.S){k:Nat}{v:Int}(hv:v=0\/v∈lv x.S):r8 σ (bG x h k v) (xn (fN m (σ v)) (fF (fN m (σ v)).Nodes (σ h) λn=>VY n (((ob x.S h).Fields.map σ).set k (σ v)))):=by
 have hR:=hS.sr;have Q:=q.E7 hS hf hv;have wq:vB x.S (Sh.E7 x v).S:=H8 hR v λc=>E6;have hh':h∈lv (Sh.E7 x v).S:=by rw[wq.lv];exact hh
 have hR':=wq.sr;have ho:=J9 hR' hh';have p:=o6 hR' hh';have hfl:(ob (Sh.E7 x v).S h).Fields=(ob x.S h).Fields:=by
  obtain⟨n,e⟩:=wq.ob h (by have:=H6 hR hh;omega);rw[e]
 have P:=Q.put (o:=rq (ob (Sh.E7 x v).S h) ((ob x.S h).Fields.set k v)) hR' hh' rfl ⟨ho.s1,ho.s2,ho.st,ho.wk,ho.p1,ho.p2,by
  show ((ob x.S h).Fields.set k v).length<=4;rw[zap,<-hfl];exact ho.fl⟩ (f:=λn=>VY n (((ob x.S h).Fields.map σ).set k (σ v))) (by
  unfold Sh.nd;rw[F1 hR' p,zD p.2.1,zco])
 unfold Sh.bG;refine r8.OI (x:=wS (Sh.E7 x v) _) ?_ P _;exact bP hR' hh' rfl ⟨ho.s1,ho.s2,ho.st,ho.wk,ho.p1,ho.p2,by
  show ((ob x.S h).Fields.set k v).length<=4;rw[zap,<-hfl];exact ho.fl⟩
end
theorem Dt{t:Tb}(hT:HR t){k v:Int}{r:Tb × Int × Int}(h:U3 t k v=some r)(h0:r.2.2=0)(k' v':Int):Has r.1 k' v'↔(k'≠k/\Has t k' v')\/(v≠0/\k'=k/\v'=v):=by
 obtain⟨u,hu,_,_,c⟩:=dK hT k v;rw[hu] at h;obtain rfl:=zJ h;rcases c with ⟨_,rfl⟩ | ⟨hk,hv,c⟩ | ⟨hk,hv,c⟩;·exact absurd (show (2:Int)=0 from h0) (by decide)
 .subst hv;rcases c with ⟨i,hi,rfl⟩ | ⟨hn,rfl⟩;·rw[sC hT hi];simp
  .constructor
   .intro hh;refine .inl ⟨λe=>?_,hh⟩;subst e;obtain⟨i,hi,_⟩:=hh;exact hn i hi
   .rintro (⟨_,hh⟩ | ⟨c,_⟩);·exact hh
    .exact absurd rfl c
 .have key:∀ {a:Tb},xo t k v (a,0)->(Has a k' v'↔(k'≠k/\Has t k' v')\/(v≠0/\k'=k/\v'=v)):=λP=>by
   rw[xb hT P rfl];constructor
   .rintro (⟨a,b⟩ | c);·exact .inr ⟨hv,a,b⟩
    .exact .inl c
   .rintro (c | ⟨_,a,b⟩);·exact .inr c
    .exact .inl ⟨a,b⟩
  rcases c with ⟨i,hi,rfl⟩ | ⟨d,_,_,_,hp,rfl⟩ | ⟨_,_,rfl⟩;·exact key (.old i hi)
  .exact key hp
  .exact absurd (show (8:Int)=0 from h0) (by decide)
theorem Ru{t:Tb}(hT:HR t){k v:Int}{r:Tb × Int × Int}(h:U3 t k v=some r):r.1.length=t.length:=by
 obtain⟨u,hu,_,hl,_⟩:=dK hT k v;rw[hu] at h;obtain rfl:=zJ h;exact hl
section
variable{σ:Int->Int}{x:Hp}{m:a8}(hS:jY x)(q:r8 σ x m)
include hS q
theorem r8.iJ{k v:Int}(hf:aI x [])(hk:k∈lv x.S)(hv:v=0\/v∈lv x.S){r:Tb × Int × Int}(h:U3 x.T k v=some r)(h0:r.2.2=0) :
  r8 σ (iJ x v r.1 r.2.1) (Vn (fN m (σ v)) ((m.Pairs.filter λp=>p.Key != σ k)++if v=0 then [] else [⟨σ k,σ v⟩])):=by
 have hR:=hS.sr;have Q:=q.E7 hS hf hv;unfold Sh.iJ;refine r8.OI (x:=wT (Sh.E7 x v) r.1) (jK hR v) ?_ _;refine⟨Q.gd,Q.nd,Q.sl,Q.ge,Q.la,?_,Q.se,Q.ro,Q.ce,?_,λp=>?_,Q.tk⟩
 .show _=((r.1.length:Nat):Int);rw[Ru hS.hr h];have:(Sh.E7 x v).T=x.T:=by rw[po]
  rw[<-this];exact Q.npl
 .show List.Pairwise _ _;rw[zar];refine⟨q.p1.filter _,?_,λa ha b hb=>?_⟩
  .split;·exact List.Pairwise.nil
   .exact List.pairwise_singleton ..
  .split at hb;·cases hb
   .rw[zp] at hb;subst hb;have:=(zk.1 ha).2;simpa using this
 .show p∈_↔∃k' v',Has r.1 k' v'/\_;rw[zu,zk,q.p2];constructor
  .rintro (⟨⟨k',v',hh,rfl⟩,c⟩ | c)
   .refine⟨k',v',(Dt hS.hr h h0 _ _).2 (.inl ⟨λe=>?_,hh⟩),rfl⟩;subst e;simp at c
   .split at c;·cases c
    .rename_i c0;rw[zp] at c;exact⟨k,v,(Dt hS.hr h h0 _ _).2 (.inr ⟨c0,rfl,rfl⟩),c⟩
  .rintro⟨k',v',hh,rfl⟩;rcases (Dt hS.hr h h0 _ _).1 hh with ⟨c,hh⟩ | ⟨c0,rfl,rfl⟩
   .refine .inl ⟨⟨k',v',hh,rfl⟩,?_⟩;have:σ k'≠σ k:=λe=>c (q.gd.inl hR (hS.pr _ _ hh).1 hk e);simpa using this
   .right;rw[za c0];exact zp.2 rfl
end
def El(m:a8)(n:b8):a8:=
 ⟨m.Nodes.filter (λk=>k.Serial != n.Serial),m.Slots.set n.Slot.toNat (if m.Gens.getD n.Slot.toNat 0=m.Last then -1 else 0),
  if m.Gens.getD n.Slot.toNat 0=m.Last then m.Gens else m.Gens.set n.Slot.toNat (m.Gens.getD n.Slot.toNat 0+1),m.Last,m.Places,m.Serial,m.Roots,m.b7,m.Pairs,m.Tasks,m.Progs⟩
def DS(m:a8)(s:Int):a8:=match m.Nodes.find? (λn=>n.Serial==s) with
 | none=>m
 | some n=>if n.Alive=true\/0<jd m.b7 s then m else El m n
theorem vl{n:Nat}(f:Nat->Int){i:Nat}(v:Int):((List.range n).map f).set i v=(List.range n).map λj=>if j=i then v else f j:=by
 refine zb1 (by simp) λj h1 h2=>?_;rw[zcp];simp only[t7,List.getElem_range];by_cases c:i=j
 .rw[zb c,zb c.symm]
 .rw[za c,za (za0 c)]
def FL(s:b6)(i:Nat):c9:=if (ce s i).Gen=s.S.Last then ⟨3,(ce s i).Gen,z0⟩ else ⟨0,(ce s i).Gen+1,z0⟩
theorem TH(s:b6)(i:Nat):¬Th (FL s i):=by
 unfold FL Th;split <;> simp
section
variable{σ:Int->Int}{x:Hp}{m:a8}(hR:SR x.S)(q:r8 σ x m)
include hR q
theorem r8.El{i:Nat}(hi:i<x.S.S.b7.length)(ht:Th (Sh.ce x.S i)):r8 σ (wS x (H7 x.S i (FL x.S i))) (El m (Sh.nd σ x.S i)):=by
 have hc:=λj=>K6 hi (FL x.S i) j;have hl:=V6 x.S i (FL x.S i);have hno:=TH x.S i;have hg:m.Gens.getD i 0=(Sh.ce x.S i).Gen:=by
  rw[q.ge,zd,zA,List.getElem?_range hi];rfl
 have hsl:(Sh.nd σ x.S i).Slot.toNat=i:=by unfold Sh.nd;simp
 unfold Sh.El;rw[hsl,hg,q.la];refine⟨q.gd.up λk j a=>?_,?_,?_,?_,rfl,q.npl,q.se,q.ro,q.ce,q.p1,q.p2,q.tk⟩
 .have hne:j≠i:=λe=>by
   have:=a.2.1;change Th (Sh.ce (H7 x.S i (FL x.S i)) j) at this
   rw[hc,zb e] at this;exact hno this
  refine⟨(DR hi _ hne).1 a,?_⟩;change (Sh.ce (H7 x.S i (FL x.S i)) j).Val.Serial=_
  rw[hc,za hne]
 .exact q.nd.del (s':=H7 x.S i (FL x.S i)) hR hi hl (λj hj=>by rw[hc,za hj]) ht (by rw[hc,zb rfl];exact hno)
 .show _=List.map (λj=>Oe (Sh.ce (H7 x.S i (FL x.S i)) j)) (List.range (H7 x.S i (FL x.S i)).S.b7.length);show m.Slots.set i _=_;rw[hl,q.sl,vl];refine T4 λj hj=>?_;rw[hc];by_cases c:j=i
  .rw[zb c,zb c];unfold Oe;rw[za hno];unfold FL;split <;> rfl
  .rw[za c,za c]
 .show _=List.map (λj=>(Sh.ce (H7 x.S i (FL x.S i)) j).Gen) (List.range (H7 x.S i (FL x.S i)).S.b7.length);show (if (Sh.ce x.S i).Gen=x.S.S.Last then m.Gens else m.Gens.set i ((Sh.ce x.S i).Gen+1))=_;rw[hl,q.ge];unfold FL;split
  .rename_i c;refine T4 λj hj=>?_;rw[K6 hi];split;·rename_i e;rw[e]
   .rfl
  .rw[vl];refine T4 λj hj=>?_;rw[K6 hi];split <;> rfl
theorem r8.alike{s':b6}(hl:s'.S.b7.length=x.S.S.b7.length)(hla:s'.S.Last=x.S.S.Last)(hse:s'.Serial=x.S.Serial)
  (h:∀i,i<x.S.S.b7.length->(Sh.ce s' i).State=(Sh.ce x.S i).State/\(Sh.ce s' i).Gen=(Sh.ce x.S i).Gen/\(Sh.ce s' i).Val.Serial=(Sh.ce x.S i).Val.Serial/\(Sh.ce s' i).Val.Prog=(Sh.ce x.S i).Val.Prog/\(Sh.ce s' i).Val.Started=(Sh.ce x.S i).Val.Started/\(Sh.ce s' i).Val.Strong=(Sh.ce x.S i).Val.Strong/\(Sh.ce s' i).Val.Fields=(Sh.ce x.S i).Val.Fields):r8 σ (wS x s') m:=by
 have sT:∀i,i<x.S.S.b7.length->(Th (Sh.ce s' i)↔Th (Sh.ce x.S i)):=λi hi=>by unfold Th;rw[(h i hi).1]
 refine⟨q.gd.up λk i a=>?_,q.nd.same hR hl λi hi=>⟨sT i hi,λht=>?_⟩,?_,?_,by rw[q.la];exact hla.symm,q.npl,by rw[q.se];exact hse.symm,q.ro,q.ce,q.p1,q.p2,q.tk⟩
 .have hi:i<x.S.S.b7.length:=by have:=a.1;rw[<-hl];exact this
  refine⟨⟨hi,(sT i hi).1 a.2.1,?_⟩,(h i hi).2.2.1⟩;have:=a.2.2;change k=1+(i:Int)+32*(Sh.ce s' i).Gen at this
  rw[(h i hi).2.1] at this;exact this
 .obtain⟨a1,a2,a3,a4,a5,a6,a7⟩:=h i hi;unfold Sh.nd;rw[a1,a3,a4,a5,a6,a7]
 .show _=List.map _ (List.range s'.S.b7.length);rw[hl,q.sl];refine T4 λi hi=>?_;unfold Oe;rw[(h i hi).2.2.1,(h i hi).1];by_cases c:Th (Sh.ce x.S i)
  .rw[zb c,zb ((sT i hi).2 c)]
  .rw[za c,za λd=>c ((sT i hi).1 d)]
 .show _=List.map _ (List.range s'.S.b7.length);rw[hl,q.ge];exact T4 λi hi=>(h i hi).2.1.symm
theorem r8.find{h:Int}{i:Nat}(p:T9 x.S h i):m.Nodes.find? (λn=>n.Serial==σ h)=some (Sh.nd σ x.S i):=by
 have hs:=q.gd.f h i p;rw[List.find?_eq_some_iff_getElem];obtain⟨j,hj,e⟩:=wt (q.nd.at hR p.1 p.2.1);refine⟨by rw[hs];exact q9 _,j,hj,e,λk hk=>?_⟩;have:=za4.1 q.nd.up k j (by omega) hj hk;rw[e] at this;have:m.Nodes[k].Serial≠σ h:=by
  rw[hs];have:m.Nodes[k].Serial<(Sh.ce x.S i).Val.Serial:=this;omega
 simpa using this
theorem r8.VZ:m.Nodes.find? (λn=>n.Serial==0)=none:=by
 rw[zcf];intro n hn e;have:=(q.nd.pos hR hn).1;have:n.Serial=0:=by simpa using e
 omega
theorem r8.jd{l:List k9}{h:Int}(hl:∀c∈l,σ c.Target=σ h->c.Target=h)(h0:h≠0)(h1:σ h≠0):Sh.jd (l.map (wx σ)) (σ h)=Sh.jd l h:=by
 unfold Sh.jd;rw[List.countP_map];refine List.countP_congr λc hc=>?_;show ((σ h != 0)&&(σ c.Target==σ h))=true↔((h != 0)&&(c.Target==h))=true;have:σ c.Target=σ h↔c.Target=h:=⟨hl c hc,λe=>by rw[e]⟩;simp[h0,h1,this]
end
end Go.Sh
