/- A part. -/
import Derived.Test.YtmgbbnfgfmfgaaaGreatQ22cT
set_option linter.unusedVariables false
set_option linter.unusedSimpArgs false
set_option linter.unusedSectionVars false
namespace Go.Sh
noncomputable def zr(x:Hp):List Int:=(lv x.S).filter λh=>(ob x.S h).Strong==0
theorem cS{x:Hp}{h:Int}:h∈zr x↔h∈lv x.S/\(ob x.S h).Strong=0:=by
 unfold zr;rw[zi,pu]
theorem Dz{x:Hp}(hx:J8 x){z:Int}(hz:z∈zr x):lM x z=0:=by
 obtain⟨a,b⟩:=cS.1 hz;have:=hx.fair z a (by omega);rw[I1] at this;omega
theorem Fl{l:List Int}{h:Int}(h0:h≠0)(e:R7 l h=0):h∉l:=λq=>by
 have:=ja.2 ⟨h0,q⟩;omega
theorem MO{α:Type}(f:α->Nat):∀ {l:List α} {a:α},a∈l->f a<=(l.map f).sum
 | b::l,a,h=>by
  rw[zT,zbc];rcases zM.1 h with e | e
  .subst e;omega
  .have:=MO f e;omega
theorem Cy{s:b6}{a y:Int}(ha:a∈lv s):R7 (outs s a) y<=jZ s y:=MO (λx=>R7 (outs s x) y) ha
theorem CN{t:Tb}{k v:Int}(h:Has t k v)(h0:v≠0):0<own t v:=zbx.2 ⟨⟨k,v⟩,cg.2 h,by simp[h0]⟩
def lf(t:Tb)(ks:List Int):Tb × List Int:=(aO t ks).getD (t,[])
theorem jU{t:Tb}(hT:HR t)(ks:List Int)(hks:ks.length<=1000):aO t ks=some (lf t ks)/\HR (lf t ks).1/\(lf t ks).2.length<=ks.length/\pg (t.map eN) ks=some ((lf t ks).1.map eN,(lf t ks).2) /\
  (∀k v,Has (lf t ks).1 k v↔k∉ks/\Has t k v)/\∀y,own (lf t ks).1 y+R7 (lf t ks).2 y=own t y:=by
 obtain⟨a,had,h1,h2,h3,h4,h5,h6,h7,h8,h9⟩:=vY hT ks hks;have:lf t ks=(a,had):=by unfold lf;rw[h1];rfl
 rw[this];exact⟨h1,h2,h4,h5,h6,h9⟩
noncomputable def gL(x:Hp)(ds:List Int):Hp:=(ds.flatMap (outs x.S)++(lf x.T ds).2).foldl aA (jt x ds (lf x.T ds).1)
theorem hZ:∀(l:List Int) {x:Hp},SR x.S->vB x.S (l.foldl aA x).S/\l.foldl aA x=wS x (l.foldl aA x).S
 | [],x,h=>⟨vB.refl h,rfl⟩
 | v::l,x,h=>by
  have k1:=H6 h v (f:=kR) λc=>P4;obtain⟨k2,e⟩:=hZ l (x:=aA x v) k1.sr;refine⟨k1.trans k2,?_⟩;show l.foldl aA (aA x v)=wS x (l.foldl aA (aA x v)).S;rw[e,UR x v]
theorem AY{x:Hp}(hx:J8 x){ds:List Int}(hn:ds.Nodup)(hm:∀d∈ds,d∈lv x.S)
  (ho:∀d∈ds,d∉oc x)(hf:∀h∈lv x.S,h∉ds->∀v∈(ob x.S h).Fields,v∉ds)(hp:∀k v,Has x.T k v->k∉ds->v∉ds):J8 (gL x ds):=by
 have hl:ds.length<=24:=zO (Z3 hn hm) (M1 (A0.2 hx.sh.sr));obtain⟨_,w1,_,_,w2,w3⟩:=jU hx.sh.hr ds (by omega);obtain⟨a,b,c⟩:=JP hx hn hm ho hf hp w1 w2 w3;exact yG _ a b c
theorem FV{x:Hp}(hR:SR x.S){ds:List Int}(hn:ds.Nodup)(hm:∀d∈ds,d∈lv x.S):lv (gL x ds).S=(lv x.S).filter λh=>decide (h∉ds):=by
 have g:=eH ds hR hn hm;exact (hZ (ds.flatMap (outs x.S)++(lf x.T ds).2) (x:=jt x ds (lf x.T ds).1) g.sr).1.lv.trans g.lv
theorem FW{x:Hp}(hR:SR x.S){ds:List Int}(hn:ds.Nodup)(hm:∀d∈ds,d∈lv x.S){k:Int}(hk:k∈lv x.S)(hd:k∉ds):∃n,ob (gL x ds).S k=AP (ob x.S k) n:=by
 have g:=eH ds hR hn hm;have hr:=H4 hR hk;obtain⟨n,e⟩:=(hZ (ds.flatMap (outs x.S)++(lf x.T ds).2) (x:=jt x ds (lf x.T ds).1) g.sr).1.ob k (by omega);refine⟨n,?_⟩;have e':ob (gL x ds).S k=_:=e;have g':ob (jt x ds (lf x.T ds).1).S k=ob x.S k:=g.ob k hk hd;rw[e',g']
theorem sm{x:Hp}(hR:SR x.S){ds:List Int}(hn:ds.Nodup)(hm:∀d∈ds,d∈lv x.S):(gL x ds).Roots=x.Roots/\(gL x ds).b7=ln x.b7 ds/\(gL x ds).T=(lf x.T ds).1/\(gL x ds).Q=⟨x.Q.L++ju x.b7 ds,x.Q.Cap⟩:=by
 have g:=eH ds hR hn hm;have e:=(hZ (ds.flatMap (outs x.S)++(lf x.T ds).2) (x:=jt x ds (lf x.T ds).1) g.sr).2;have e':gL x ds=wS (jt x ds (lf x.T ds).1) (gL x ds).S:=e;rw[e'];exact⟨rfl,rfl,rfl,rfl⟩
theorem Ao{x:Hp}(hx:J8 x){z:Int}(hz:z∈zr x):J8 (gL x [z]):=by
 obtain⟨a,b⟩:=cS.1 hz;have h0:z≠0:=λe=>eQ hx.sh.sr (e▸a);have hn:=Dz hx hz;unfold lM at hn;refine AY hx (by simp) (by simpa using a) (λd hd=>?_) (λh hh hne v hv q=>?_) (λk v hkv _ q=>?_)
 .rw[zp] at hd;subst hd;exact Fl h0 (by omega)
 .rw[zp] at q;subst q;have:=Cy (y:=v) hh;have h1:=ja.2 ⟨h0,show v∈outs x.S h from ga.2 ⟨hv,h0⟩⟩;omega
 .rw[zp] at q;subst q;have:=CN hkv h0;omega
def due(o:n7):Bool:=decide (0<=o.Prog) && !o.Started
noncomputable def FI(x:Hp):Hp:=match zr x with
 | []=>x
 | z::_=>if due (ob x.S z) then gh x z else gL x [z]
noncomputable def oi:Nat->Hp->Hp
 | 0,x=>x
 | n+1,x=>oi n (FI x)
theorem fD(n:Nat)(x:Hp):oi (n+1) x=FI (oi n x):=by
 induction n generalizing x with
 | zero=>rfl
 | succ n ih=>exact ih (FI x)
theorem nC{x:Hp}(h:zr x = []):FI x=x:=by unfold FI;rw[h]
theorem jQ{x:Hp}{z:Int}{l:List Int}(h:zr x=z::l):FI x=if due (ob x.S z) then gh x z else gL x [z]:=by unfold FI;rw[h]
theorem KW{x:Hp}(hx:J8 x):J8 (FI x):=by
 cases h:zr x with
 | nil=>rw[nC h];exact hx
 | cons z l=>
  have hz:z∈zr x:=by rw[h];exact zg ..
  rw[jQ h];split
  .rename_i q;unfold due at q;rw[zy,zG,zca] at q;exact vl hx (cS.1 hz).1 q.1 q.2
  .exact Ao hx hz
theorem P6{x:Hp}(hx:J8 x)(n:Nat):J8 (oi n x):=by
 induction n with
 | zero=>exact hx
 | succ n ih=>rw[fD];exact KW ih
section
variable{x:Hp}(hR:SR x.S){h:Int}(hh:h∈lv x.S)
include hR hh
theorem ni:vB (cT x.S h (fC (ob x.S h))) (gh x h).S/\(gh x h).Roots=x.Roots/\(gh x h).b7=x.b7/\(gh x h).T=x.T/\(gh x h).Q=⟨x.Q.L ++ [As x h],x.Q.Cap⟩:=by
 have oko:=K0 hR hh;have r1:=bP (o:=fC (ob x.S h)) hR hh rfl ⟨oko.s1,oko.s2,oko.st,oko.wk,oko.p1,oko.p2,oko.fl⟩;refine⟨H6 (x:=⟨cT x.S h (fC (ob x.S h)),x.Roots,x.b7,x.T,⟨x.Q.L ++ [As x h],x.Q.Cap⟩⟩) r1 h λc=>E4,?_⟩;have e:gh x h=wS ⟨cT x.S h (fC (ob x.S h)),x.Roots,x.b7,x.T,⟨x.Q.L ++ [As x h],x.Q.Cap⟩⟩ (gh x h).S:=po _ h;rw[e];exact⟨rfl,rfl,rfl,rfl⟩
theorem CS:lv (gh x h).S=lv x.S:=by
 have oko:=K0 hR hh;exact (ni hR hh).1.lv.trans (iE (o:=fC (ob x.S h)) hR hh rfl ⟨oko.s1,oko.s2,oko.st,oko.wk,oko.p1,oko.p2,oko.fl⟩)
theorem yz{k:Int}(hk:k∈lv x.S):∃n,ob (gh x h).S k=AP (if k=h then fC (ob x.S h) else ob x.S k) n:=by
 have oko:=K0 hR hh;have hr:=H4 hR hk;obtain⟨n,e⟩:=(ni hR hh).1.ob k (by omega);refine⟨n,?_⟩;rw[e,gk (o:=fC (ob x.S h)) hR hh rfl ⟨oko.s1,oko.s2,oko.st,oko.wk,oko.p1,oko.p2,oko.fl⟩ (by omega)]
end
noncomputable def mu(x:Hp):Nat:=(lv x.S).length+((lv x.S).filter λh => !(ob x.S h).Started).length
theorem Wv{x:Hp}(hR:SR x.S):mu x<=48:=by
 have h1:(lv x.S).length<=24:=M1 (A0.2 hR);have h2:((lv x.S).filter λh => !(ob x.S h).Started).length<=(lv x.S).length:=zA ..;unfold mu;omega
theorem Vg{x:Hp}(hx:J8 x)(h:zr x ≠ []):mu (FI x)<mu x:=by
 cases hz:zr x with
 | nil=>exact absurd hz h
 | cons z l=>
  have hzm:z∈zr x:=by rw[hz];exact zg ..
  have hzl:=(cS.1 hzm).1;have hR:=hx.sh.sr;rw[jQ hz];split
  .rename_i q;unfold due at q;rw[zy,zG,zca] at q;unfold mu;rw[CS hR hzl];have:=filter_lt (p:=λh => !(ob (gh x z).S h).Started) (q:=λh => !(ob x.S h).Started) (l:=lv x.S) (λk hk hp=>by
    obtain⟨n,e⟩:=yz hR hzl hk;rw[e] at hp;split at hp;·exact absurd hp (by simp)
    .exact hp) z hzl (by rw[q.2];rfl) (by
    obtain⟨n,e⟩:=yz hR hzl hzl;rw[e,zb rfl];rfl)
   omega
  .unfold mu;have hn:([z]:List Int).Nodup:=by simp
   have hm:∀d ∈ [z],d∈lv x.S:=by simpa using hzl
   rw[FV hR hn hm,zan];have h1:((lv x.S).filter λh=>decide (h ∉ [z])).length<((lv x.S).filter λ_=>true).length:=filter_lt (λ_ _ _=>rfl) z hzl rfl (by simp);rw[zbl.2 (λ_ _=>rfl)] at h1;have h2:((lv x.S).filter λa=>(!(ob (gL x [z]).S a).Started)&&decide (a ∉ [z])).length<=((lv x.S).filter λh => !(ob x.S h).Started).length:=by
    rw[<-zbw,<-zbw];refine List.countP_mono_left λa ha hp=>?_;rw[zy,zG] at hp;obtain⟨n,e⟩:=FW hR hn hm ha hp.2;rw[e] at hp;exact hp.1
   omega
noncomputable def bz(x:Hp):Hp:=oi 100 x
theorem vq{x:Hp}(hx:J8 x):∃n,n<=48/\zr (oi n x) = []/\(∀j,j<n->zr (oi j x) ≠ [])/\bz x=oi n x:=by
 have key:∀m,(∃n,n<=m/\zr (oi n x) = [])\/mu (oi m x)+m<=mu x:=by
  intro m;induction m with
  | zero=>exact .inr (zE _)
  | succ m ih=>
   rcases ih with ⟨n,h1,h2⟩ | ih;·exact .inl ⟨n,by omega,h2⟩
   .by_cases q:zr (oi m x) = []
    .exact .inl ⟨m,by omega,q⟩
    .have:=Vg (P6 hx m) q;rw[<-fD] at this;exact .inr (by omega)
 have h48:=Wv hx.sh.sr;have hex:∃n,n<=48/\zr (oi n x) = []:=by
  rcases key 49 with ⟨n,h1,h2⟩ | h
  .rcases zF n 49 with q | q
   .exact⟨n,by omega,h2⟩
   .rcases key 48 with h | h
    .exact h
    .have:mu (oi 48 x)=0:=by omega
     refine⟨48,zE _,?_⟩;have hl:(lv (oi 48 x).S).length=0:=by unfold mu at this;omega
     unfold zr;rw[zZ hl];rfl
  .omega
 obtain⟨n,⟨hn,hz⟩,hmin⟩:=dz hex;refine⟨n,hn,hz,λj hj q=>?_,?_⟩
 .have:=hmin j ⟨by omega,q⟩;omega
 .have:∀k,oi (n+k) x=oi n x:=λk=>by
   induction k with
   | zero=>rfl
   | succ k ih=>rw[show n+(k+1)=(n+k)+1 by omega,fD,ih,nC hz]
  have h100:=this (100-n);rw[show n+(100-n)=100 by omega] at h100;exact h100
theorem nx{x:Hp}(hx:J8 x):J8 (bz x):=P6 hx 100
theorem BH{x:Hp}(hx:J8 x):zr (bz x) = []:=by
 obtain⟨n,_,h,_,e⟩:=vq hx;rw[e];exact h
theorem Ol{x:Hp}(h:zr x = []):bz x=x:=by
 have:∀n,oi n x=x:=λn=>by
  induction n with
  | zero=>rfl
  | succ n ih=>rw[fD,ih,nC h]
 exact this 100
section
variable{x:Hp}(hR:SR x.S)
include hR
theorem qN{h:Int}(hh:h∈lv x.S):h<=9223372036854775807:=by have:=H4 hR hh;omega
theorem xY{h:Int}(hh:h∈lv x.S):x6 x.S h=some (ob x.S h,0):=by
 obtain⟨e,h1,h2⟩:=iq (A0.2 hR) (qN hR hh);rw[h1,h2.2 hh]
theorem zero_eq:dY x=some (zr x):=by
 have h24:(lv x.S).length<=24:=M1 (A0.2 hR);unfold dY;simp only[jn];rw[gB (A0.2 hR),Yy];rw[U7 (lv x.S) (λb h=>if (ob x.S h).Strong==0 then b ++ [h] else b) id (λk b=>b.length<=k) (by omega) (zE _) (λk hk b hb=>?_) (λb hb=>by simp)]
 .rw[foldl_filter];rfl
 .simp only[wp,hk,t6,wn,s7 hk,Yy,xY hR (zh hk)];by_cases c:((ob x.S (lv x.S)[k]).Strong==0)=true
  .rw[zb c,zb c,K5 (by omega) (by simp;omega),Yy,n9];exact⟨rfl,by simp;omega⟩
  .rw[za c,za c,n9];exact⟨rfl,by omega⟩
end
noncomputable def Xr(x:Hp)(h:Int):Hp:=if h∈lv x.S/\due (ob x.S h)=true then gh x h else x
theorem Jl{s:b6}(hR:SR s){h:Int}(hl:h∈lv s):Ap s (fC (ob s h)):=by
 have oko:=K0 hR hl;exact⟨oko.s1,oko.s2,oko.st,oko.wk,oko.p1,oko.p2,oko.fl⟩
theorem IQ(o:n7):O9 o=some (due o):=by
 unfold O9 due;congr 1
section
variable{x:Hp}(hx:J8 x)(hS:SL x){h:Int}(hh:h<=9223372036854775807)
include hx hS hh
theorem GQ(hl:h∈lv x.S)(hd:due (ob x.S h)=true):x.Q.L.length<30:=by
 have hb:0<=(ob x.S h).Prog/\(ob x.S h).Started=false:=by
  unfold due at hd;rw[zy,zG,zca] at hd;exact hd
 have:=(vl hx hl hb.1 hb.2).sh.q30;rw[(ni hx.sh.sr hl).2.2.2.2] at this;simp at this;omega
theorem BC:W8 x h=some (Xr x h):=by
 have hR:=hx.sh.sr;have cap:=hx.sh.cap;obtain⟨e,h1,h2⟩:=iq (A0.2 hR) hh;unfold W8 Xr;rw[h1,Yy];by_cases hl:h∈lv x.S
 .have e0:e=0:=h2.2 hl;subst e0;have e1:(((0:Int) != 0)==false)=true:=rfl;simp only[e1,fm,IQ,Yy];cases hd:due (ob x.S h);·rw[zb (by simp),za (by simp)]
  .rw[za (by simp),zb ⟨hl,rfl⟩];have hr:=GQ hx hS hh hl hd;have hok:=Jl hR hl;have l1:=iE (o:=fC (ob x.S h)) hR hl rfl hok;have r1:=bP (o:=fC (ob x.S h)) hR hl rfl hok;rw[xf (o:=fC (ob x.S h)) hR hl rfl hok,Yy,SA _ (by omega),Yy];have et:VA x.Q ⟨1,h,(ob x.S h).Prog⟩=(⟨x.Q.L ++ [As x h],x.Q.Cap⟩,0):=by
    unfold VA;rw[za (by omega)]
   rw[et];dsimp only;rw[lX r1 hh (λk hk=>?_),Yy];·rfl
   .dsimp only at hk |-;rw[l1] at hk;rw[gk (o:=fC (ob x.S h)) hR hl rfl hok (qN hR hk)];split;·exact hS h hl
    .exact hS k hk
 .have e0:e≠0:=λq=>hl (h2.1 q);have e1:(e != 0)=true:=by simpa using e0
  rw[e1];simp only[show ((true==false)=true)=False by simp,C7,qr,Yy,Bool.true_or,wn];rw[za (λq=>hl q.1)]
end
noncomputable def Xn(x:Hp)(l:List Int):List Int:=l.foldl (λb h=>if h∈lv x.S/\h∉b then b ++ [h] else b) []
theorem MS{x:Hp}{z:Int}(hz:z∈lv x.S):Xn x [z] = [z]:=by
 unfold Xn;simp[hz]
section
variable{x:Hp}(hR:SR x.S)
include hR
theorem tq(l:List Int)(hl:l.length<=1000)(hb:∀h∈l,h<=9223372036854775807):Z6 x l=some (Xn x l):=by
 unfold Z6;simp only[jn];have key:=U7 (f:=λ((s20,s21,s22):Int × (List (Int × Bool)) × (List Int))=>
   if (decide (s20<(l.length:Int))) then
     (ix l s20).bind λv32=>
     (x6 x.S v32).bind λv33=>
     if ((v33.2==0)==true) then
      if (!((y9 s21 v32).getD (false:Bool))) then
       (app 8 s22 [v32]).bind λv34=>
       some (Sum.inl (u7 (s20+1),(o7 s21 v32 true),v34))
      else
      some (.inl (u7 (s20+1),s21,s22))
     else
     some (.inl (u7 (s20+1),s21,s22))
   else
   some (.inr s22)) l (λ(b:List (Int × Bool) × List Int) h=>if h∈lv x.S/\h∉b.2 then (o7 b.1 h true,b.2 ++ [h]) else b) (λb=>b.2) (λk b=>b.2.length<=k/\∀d,(y9 b.1 d).getD false=decide (d∈b.2)) (b0:=([],[])) (by omega) ⟨zE _,λd=>by simp[y9]⟩ (λk hk b hb2=>?_) (λb hb2=>by simp)
 .rw[key,Yy];congr 1;have:∀(l:List Int) (m:List (Int × Bool)) (b:List Int),(l.foldl (λ(b:List (Int × Bool) × List Int) h=>if h∈lv x.S/\h∉b.2 then (o7 b.1 h true,b.2 ++ [h]) else b) (m,b)).2=l.foldl (λb h=>if h∈lv x.S/\h∉b then b ++ [h] else b) b:=λl=>by
   induction l with
   | nil=>intro m b;rfl
   | cons h l ih=>
    intro m b;rw[zai,zai];by_cases c:h∈lv x.S/\h∉b
    .rw[zb c,zb c,ih]
    .rw[za c,za c,ih]
  exact this l [] []
 .obtain⟨hb1,hb3⟩:=hb2;obtain⟨e,h1,h2⟩:=iq (A0.2 hR) (hb _ (zh hk));simp only[wp,hk,t6,wn,s7 hk,Yy,h1,hb3];by_cases hl:l[k]∈lv x.S
  .have e0:e=0:=h2.2 hl;subst e0;by_cases hm:l[k]∈b.2
   .rw[zb (by rfl),za (by simp[hm]),za (λq=>q.2 hm),n9];exact⟨rfl,by omega,hb3⟩
   .rw[zb (by rfl),zb (by simp[hm]),zb ⟨hl,hm⟩,K5 (by omega) (by simp;omega),Yy,n9];refine⟨rfl,by simp;omega,λd=>?_⟩;rw[pV];by_cases q:d=l[k]
    .rw[zb q];simp[q]
    .rw[za q,hb3];simp[q]
  .have e0:e≠0:=λq=>hl (h2.1 q);rw[za (by simp[e0]),za (λq=>hl q.1),n9];exact⟨rfl,by omega,hb3⟩
end
theorem xQ{α β:Type}(p:α->Bool)(f:α->β):∀(xs:List α) (acc:List β),xs.foldl (λb x=>if p x then b ++ [f x] else b) acc=acc++(xs.filter p).map f
 | [],acc=>by simp
 | x::xs,acc=>by
  rw[zai,xQ p f xs];by_cases h:p x=true
  .simp[h]
  .simp[h]
theorem pT{α:Type}{l:List α}{i:Nat}(h:i<l.length)(d:α):l.getD i d=l[i]:=by
 rw[zd,zc h];rfl
theorem JR(c:k7)(ds:List Int)(hl:ds.length<=1000):cC c ds=some (iP ds c):=by
 unfold cC iP;rw[contains_eq _ _ (by omega)];cases (c.Intact&&c.Target != 0);·rfl
 .simp[C7]
def od(l:List k7)(ds:List Int):List Nat:=(List.range l.length).filter λw=>iP ds (l.getD w cz)
theorem Uz{l:List k7}{ds:List Int}{w:Nat}(h:w∈od l ds):w<l.length:=by
 unfold od at h;rw[zi,zaw] at h;exact h.1
theorem QX(l:List k7)(ds:List Int):(od l ds).length<=l.length:=by
 unfold od;exact zO (zA ..) (by simp)
theorem UA(l:List k7)(ds:List Int):(od l ds).Nodup:=zb8 _ List.nodup_range
theorem PN(l:List k7)(ds:List Int):cls l ds=(od l ds).filter λw=>decide (0<=(l.getD w cz).Call):=by
 unfold cls od;rw[zan];refine pm λw _=>?_;rw[Bool.and_comm]
def tc(l:List Nat):List Int:=l.map λ(n:Nat)=>(n:Int)
theorem Im{l:List Nat}{k:Nat}(h:k<l.length):ix (tc l) (k:Int)=some ((l[k]:Nat):Int):=by
 unfold tc;rw[te,s7 h];rfl
theorem yd(l:List Nat):(tc l).length=l.length:=zl ..
theorem KC(l:List k7)(ds:List Int)(hl:l.length<=1000)(hd:ds.length<=1000):M3 l ds=some (tc (od l ds)):=by
 unfold M3;simp only[jn];have hr:(List.range l.length).length=l.length:=by simp
 have key:=U7 (List.range l.length) (λ(b:List Int) (w:Nat)=>if iP ds (l.getD w cz) then b ++ [(w:Int)] else b) id (λk b=>b.length<=k) (b0:=[]) (f:=λ((s17,s18):Int × (List Int))=>
   if (decide (s17<(l.length:Int))) then
     (ix l s17).bind λv26=>
     (cC v26 ds).bind λv27=>
     if v27 then
      (app 8 s18 [s17]).bind λv28=>
      some (Sum.inl (u7 (s17+1),v28))
     else
     some (.inl (u7 (s17+1),s18))
   else
   some (.inr s18)) (by omega) (zE _) (λk hk b hb=>?_) (λb hb=>by simp)
 .rw[key,xQ];rfl
 .rw[hr] at hk;simp only[wp,hk,t6,wn,s7 hk,Yy,JR _ _ hd,List.getElem_range,pT hk];by_cases c:iP ds l[k]=true
  .rw[zb c,zb c,K5 (by omega) (by simp;omega),Yy,n9];exact⟨rfl,by simp;omega⟩
  .rw[za c,za c,n9];exact⟨rfl,by omega⟩
theorem JU(l:List k7)(hl:l.length<=1000):bT l=some l:=by
 unfold bT;rw[kB (by omega) (by omega),Yy];unfold wX;rw[zb (by simp),Yy];simp
def ss(l:List k7)(K:List Nat):List k7:=(List.range l.length).map λi=>if i∈K then ⟨(l.getD i cz).Target,false,(l.getD i cz).Call⟩ else l.getD i cz
theorem lr(l:List k7)(K:List Nat):(ss l K).length=l.length:=by simp[ss]
theorem su{l:List k7}{K:List Nat}{i:Nat}(h:i<(ss l K).length):(ss l K)[i]=if i∈K then ⟨(l.getD i cz).Target,false,(l.getD i cz).Call⟩ else l.getD i cz:=by simp[ss]
theorem LP(l:List k7):ss l []=l:=by
 refine zb2 (lr ..) λi h1 h2=>?_;rw[su,za (by simp),pT h2]
theorem JT{l:List k7}{K:List Nat}{w:Nat}(hw:w<l.length):ss l (K ++ [w])=(ss l K).set w ⟨(l.getD w cz).Target,false,(l.getD w cz).Call⟩:=by
 refine zb2 (by rw[zap,lr,lr]) λi h1 h2=>?_;rw[su,zcq];by_cases e:w=i
 .subst e;rw[zb rfl,zb (by simp)]
 .rw[za e,su];by_cases q:i∈K
  .rw[zb (ut _ q),zb q]
  .rw[za,za q];rw[zu,zp];exact λq2=>q2.elim q λq3=>e q3.symm
theorem LO(l:List k7)(ds:List Int):ss l (od l ds)=ln l ds:=by
 refine zb2 (by rw[lr];simp[ln]) λi h1 h2=>?_;have hi:i<l.length:=by rw[lr] at h1;exact h1
 have ec:(ln l ds)[i]=qZ ds l[i]:=t8 _;rw[su,ec,pT hi];unfold qZ;by_cases c:iP ds l[i]=true
 .rw[zb c,zb];unfold od;rw[zi,zaw,pT hi];exact⟨hi,c⟩
 .rw[za c,za];unfold od;rw[zi,zaw,pT hi];exact λq=>c q.2
theorem U5{α:Type}{l:List α}{k:Nat}(h:k<l.length):l.take (k+1)=l.take k ++ [l[k]]:=zx h
theorem DR(l:List k7)(ds:List Int)(hl:l.length<=1000)(hd:ds.length<=1000):gr l ds=some (ln l ds,tc (cls l ds)):=by
 unfold gr;rw[KC l ds hl hd,Yy,JU l hl,Yy];simp only[jn,yd];have hp:=QX l ds;refine ca (od l ds).length (λk (b:List k7 × List Int)=>b.1=ss l ((od l ds).take k)/\b.2=tc (((od l ds).take k).filter λw=>decide (0<=(l.getD w cz).Call))) (by omega) ⟨by simp[LP],by simp[tc]⟩ ?_ ?_
 .rintro k ⟨b1,b2⟩ hk ⟨rfl,rfl⟩;left;have hw:=Uz (zh hk);have hnm:(od l ds)[k]∉(od l ds).take k:=λq=>by
   have hn:=UA l ds;rw[<-zb5 k (od l ds),zbt] at hn;exact hn.2.2 _ q (od l ds)[k] (by rw[List.drop_eq_getElem_cons hk];exact zg ..) rfl
  have h1:(od l ds)[k]<(ss l ((od l ds).take k)).length:=by rw[lr];exact hw
  have e1:ix (ss l ((od l ds).take k)) (((od l ds)[k]:Nat):Int)=some (l.getD (od l ds)[k] cz):=by rw[s7 h1,su,za hnm]
  have h2:(od l ds)[k]<((ss l ((od l ds).take k)).set (od l ds)[k] ⟨(l.getD (od l ds)[k] cz).Target,false,(l.getD (od l ds)[k] cz).Call⟩).length:=by rw[zap];exact h1
  have e2:ix ((ss l ((od l ds).take k)).set (od l ds)[k] ⟨(l.getD (od l ds)[k] cz).Target,false,(l.getD (od l ds)[k] cz).Call⟩) (((od l ds)[k]:Nat):Int)=some ⟨(l.getD (od l ds)[k] cz).Target,false,(l.getD (od l ds)[k] cz).Call⟩:=by rw[s7 h2,List.getElem_set_self]
  dsimp only;simp only[wp,hk,t6,wn,Im hk,Yy,e1,zP,e2];have hle:(tc (((od l ds).take k).filter λw=>decide (0<=(l.getD w cz).Call))).length<=1000:=by
   rw[yd];exact zO (zA ..) (by simp;omega)
  rw[U5 hk,JT hw,za4];by_cases c:0<=(l.getD (od l ds)[k] cz).Call
  .rw[zb (zC c),K5 (by omega) (by simp only[zH,zag];omega),Yy,n9];refine⟨_,rfl,rfl,?_⟩;rw[or,zb (zC c)];simp[tc]
  .rw[za (λq=>c (za9 q)),n9];refine⟨_,rfl,rfl,?_⟩;rw[or,za (λq=>c (za9 q))];simp[tc]
 .rintro⟨b1,b2⟩ ⟨rfl,rfl⟩;refine⟨_,za (by simp),?_⟩;dsimp only;rw[zR,LO,<-PN]
def Lc(x:Hp)(ds:List Int):Hp:=⟨x.S,x.Roots,ln x.b7 ds,x.T,⟨x.Q.L++ju x.b7 ds,x.Q.Cap⟩⟩
theorem mK(l:List k7)(ds:List Int):(ju l ds).length=(cls l ds).length:=zl ..
theorem Gc{l:List k7}{ds:List Int}{w:Nat}(h:w∈cls l ds):w<l.length:=by
 unfold cls at h;rw[zi,zaw] at h;exact h.1
theorem Tj{l:List k7}{ds:List Int}{k:Nat}(h:k<(ju l ds).length):(ju l ds)[k]=⟨2,(((cls l ds)[k]'(by rw[<-mK];exact h):Nat):Int),(l.getD ((cls l ds)[k]'(by rw[<-mK];exact h)) cz).Call⟩:=t8 _
theorem LQ{l:List k7}{ds:List Int}{w:Nat}(h:w<l.length):ix (ln l ds) (w:Int)=some (qZ ds l[w]):=by
 unfold ln;rw[te,s7 h];rfl
section
variable{x:Hp}{ds:List Int}(hc:x.b7.length<=6)(hd:ds.length<=1000)(hq:(x.Q.L++ju x.b7 ds).length<=30)(hcap:x.Q.Cap=30)
include hc hd hq hcap
theorem JM{k:Nat}(hk:k<(ju x.b7 ds).length):VA ⟨x.Q.L++(ju x.b7 ds).take k,x.Q.Cap⟩ (ju x.b7 ds)[k]=(⟨x.Q.L++(ju x.b7 ds).take (k+1),x.Q.Cap⟩,0):=by
 rw[zK] at hq;unfold VA;rw[za (by dsimp only;rw[zK,zax,hcap];omega),U5 hk,zah]
theorem Gb:fz x ds=some (Lc x ds):=by
 unfold fz;rw[DR _ _ (by omega) hd,Yy];dsimp only;simp only[jn,yd];have hq2:=hq;rw[zK] at hq2;refine ca (cls x.b7 ds).length (λk (q:TQ)=>q=⟨x.Q.L++(ju x.b7 ds).take k,x.Q.Cap⟩) (by rw[<-mK];omega) (by simp) ?_ ?_
 .rintro k q hk rfl;left;have hw:=Gc (zh hk);have hk2:k<(ju x.b7 ds).length:=by rw[mK];exact hk
  simp only[wp,hk,t6,wn,Im hk,Yy,LQ hw];have et:(⟨2,(((cls x.b7 ds)[k]:Nat):Int),(qZ ds x.b7[(cls x.b7 ds)[k]]).Call⟩:g5)=(ju x.b7 ds)[k]:=by
   rw[Tj,(oB ds _).2.1,pT hw]
  rw[et,SA _ (by dsimp only;rw[zK,zax];omega),JM hc hd hq hcap hk2,Yy,n9 (by rw[<-mK] at hk;omega)];exact⟨_,rfl,rfl⟩
 .rintro q rfl;refine⟨_,za (by simp),?_⟩;rw[<-mK,zR];rfl
end
theorem BG(s:b6)(i:Nat)(c d:c8):H5 (H5 s i c) i d=H5 s i d:=by
 unfold H5;dsimp only;rw[List.set_set]
section
variable{s:b6}(hR:SR s){d:Int}(hd:d∈lv s)
include hR hd
def k1(s:b6)(d:Int):b6:=H5 s (D5 d) ⟨1,(ce s (D5 d)).Gen,JV (ob s d)⟩
def k2(s:b6)(d:Int):b6:=H5 s (D5 d) ⟨2,(ce s (D5 d)).Gen,JV (ob s d)⟩
theorem Gf:Ap s (JV (ob s d)):=by
 have ho:=K0 hR hd;exact⟨ho.s1,ho.s2,zaf _,ho.wk,ho.p1,ho.p2,zV _⟩
theorem ML:cT s d (JV (ob s d))=k1 s d:=by
 have q:=o0 hR hd;unfold cT fO k1 H5;rw[q.2.1]
theorem Wf:At (k1 s d) d (D5 d):=by
 have q:=o0 hR hd;refine⟨by unfold k1;rw[V6];exact q.1,?_,?_⟩;·unfold k1;rw[K6 q.1,zb rfl]
 .unfold k1;rw[K6 q.1,zb rfl];exact q.2.2
theorem Wg:SR (k1 s d):=by rw[<-ML hR hd];exact bP (o:=JV (ob s d)) hR hd rfl (Gf hR hd)
theorem Wj:SR (k2 s d):=by
 have q:=o0 hR hd;have hc:=hR.cell _ q.1;unfold k2;refine hR.H5 q.1 ⟨by simp,by simp,hc.2.2.1,hc.2.2.2⟩ (λq=>absurd (.inr rfl) q) (λ_=>⟨Gf hR hd,.inl q.2.1,?_⟩);show (ob s d).Serial=_;rw[F4 hR q]
theorem Wh:T8 (k2 s d) d (D5 d):=by
 have q:=o0 hR hd;refine⟨by unfold k2;rw[V6];exact q.1,?_,?_⟩;·unfold k2;rw[K6 q.1,zb rfl];exact .inr rfl
 .unfold k2;rw[K6 q.1,zb rfl];exact q.2.2
theorem Qn:Y0 (k1 s d).S d=some ((k2 s d).S,0):=by
 have q:=o0 hR hd;have hR1:=Wg hR hd;have q1:=Wf hR hd;have hr:=H4 hR hd;have hlen:=hR1.len;have hH:BP d:=((rq hR1).2 q1.d).2.1;have hsl:(d-1) % 32=(D5 d:Nat):=((rq hR1).2 q1.d).2.2.1;have hg:(d-1) / 32=(ce s (D5 d)).Gen:=by
  have:=q.2.2;have h24:=hR.len;have:=q.1;omega
 unfold Y0 G8;rw[wP hR1 q1.d,Yy,za (by simp),Io q1.1,Yy,q1.2.1,za (by simp),Yy,za (by simp),oP (by omega),Yy,zb hH,hsl,qJ (by omega),Yy,zb hH,hg,ml rfl q1.1 hlen,Yy];have e:(ce (k1 s d) (D5 d)).Val=JV (ob s d):=by unfold k1;rw[K6 q.1,zb rfl]
 rw[e];congr 2;show (H5 (k1 s d) (D5 d) _).S=(k2 s d).S;unfold k1 k2;rw[BG]
theorem Wb(hw:(ob s d).Weak=0):DB (k2 s d) (D5 d)=wj s d:=by
 have q:=o0 hR hd;have e:ce (k2 s d) (D5 d)=⟨2,(ce s (D5 d)).Gen,JV (ob s d)⟩:=by unfold k2;rw[K6 q.1,zb rfl]
 unfold DB wj FD;rw[e];rw[F4 hR q] at hw;rw[zb hw];unfold k2;rw[BG];rfl
theorem Wi(hw:(ob s d).Weak≠0):k2 s d=wj s d:=by
 have q:=o0 hR hd;unfold k2 wj FD;rw[F4 hR q] at hw |-;rw[za hw]
end
theorem Kl{x:Hp}(hR:SR x.S){d:Int}(hd:d∈lv x.S):aX x d=some (wS x (wj x.S d)):=by
 unfold aX;rw[xY hR hd,Yy];have e1:R6 x.S d (⟨(ob x.S d).Serial,0,(ob x.S d).Weak,(ob x.S d).Prog,(ob x.S d).Started,[]⟩:n7)=some (k1 x.S d,0):=by
  rw[<-ML hR hd];exact xf (o:=JV (ob x.S d)) hR hd rfl (Gf hR hd)
 rw[e1,Yy,Qn hR hd,Yy];by_cases hw:(ob x.S d).Weak=0
 .rw[zb (by simpa using hw),Ih (Wj hR hd) (Wh hR hd),Yy,Wb hR hd hw];rfl
 .rw[za (by simpa using hw)];show some (wS x (k2 x.S d))=_;rw[Wi hR hd hw]
theorem Db:∀(l:List Int) {x:Hp},SR x.S->SL x->SL (l.foldl aA x)
 | [],x,_,h=>h
 | v::l,x,hR,h=>Db l (x:=aA x v) (NX hR v) (h.OL hR v)
theorem CY{y:Hp}(hR:SR y.S)(l:List Int)(hl:l.length<=1000000)(hb:∀v∈l,v<=9223372036854775807){K:Hp->Option Hp}:((lp (S:=Int × b9) (E:=b9) (λ((s35,s36):Int × b9)=>
     if (decide (s35<(l.length:Int))) then
      (ix l s35).bind λv39=>
      (E0 s36 v39).bind λv40=>
      some (.inl (u7 (s35+1),v40))
     else
     some (.inr s36)) (0,y)).bind K)=K (l.foldl aA y):=by
 have key:=U7 l aA id (λk z=>SR z.S) (b0:=y) (f:=λ((s35,s36):Int × b9)=>
     if (decide (s35<(l.length:Int))) then
      (ix l s35).bind λv39=>
      (E0 s36 v39).bind λv40=>
      some (Sum.inl (u7 (s35+1),v40))
     else
     some (.inr s36)) (by omega) hR (λk hk z hz=>?_) (λz hz=>by simp)
 .rw[key,Yy];rfl
 .simp only[wp,hk,t6,wn,s7 hk,Yy,gj hz (hb _ (zh hk))];rw[n9];exact⟨rfl,NX hz _⟩
theorem Mx(s:b6)(ds:List Int){k:Nat}(hk:k<ds.length):ou s (ds.take (k+1))=wj (ou s (ds.take k)) ds[k]:=by
 unfold ou;rw[U5 hk,zal];rfl
section
variable{y:Hp}(hR:SR y.S){ds:List Int}(hn:ds.Nodup)(hm:∀d∈ds,d∈lv y.S)
include hR hn hm
theorem yh{k:Nat}(hk:k<ds.length):SR (ou y.S (ds.take k))/\ds[k]∈lv (ou y.S (ds.take k)):=by
 have g:=eH (ds.take k) hR ((zcb k ds).nodup hn) λd hd=>hm d (zae hd);refine⟨g.sr,?_⟩;rw[g.lv,zi,zG];refine⟨hm _ (zh hk),λq=>?_⟩;rw[<-zb5 k ds,zbt] at hn;exact hn.2.2 _ q ds[k] (by rw[List.drop_eq_getElem_cons hk];exact zg ..) rfl
theorem Kk(hl:ds.length<=1000){K:Hp->Option Hp}:((lp (S:=Int × b9) (E:=b9) (λ((s42,s43):Int × b9)=>
    if (decide (s42<(ds.length:Int))) then
     (ix ds s42).bind λv46=>
     (aX s43 v46).bind λv47=>
     some (.inl (u7 (s42+1),v47))
    else
    some (.inr s43)) (0,y)).bind K)=K (wS y (ou y.S ds)):=by
 have key:=jB (f:=λ((s42,s43):Int × b9)=>
    if (decide (s42<(ds.length:Int))) then
     (ix ds s42).bind λv46=>
     (aX s43 v46).bind λv47=>
     some (Sum.inl (u7 (s42+1),v47))
    else
    some (.inr s43)) (t0:=y) ds.length (λk z=>z=wS y (ou y.S (ds.take k))) (λz=>z=wS y (ou y.S ds)) (by omega) rfl ?_ ?_
 .obtain⟨e,h1,h2⟩:=key;rw[h1,Yy,h2]
 .rintro k z hk rfl;left;obtain⟨h1,h2⟩:=yh hR hn hm hk;simp only[wp,hk,t6,wn,s7 hk,Yy,Kl (x:=wS y (ou y.S (ds.take k))) h1 h2];rw[n9,Mx _ _ hk];exact⟨_,rfl,rfl⟩
 .rintro z rfl;exact⟨_,za (by simp),by rw[zR]⟩
end
section
variable{x:Hp}(hx:J8 x){ds:List Int}(hn:ds.Nodup)(hm:∀d∈ds,d∈lv x.S)
include hx hn hm
theorem Gi:ds.length<=24:=zO (Z3 hn hm) (M1 (A0.2 hx.sh.sr))
theorem Ia{d:Int}(hd:d∈lv x.S):(ob x.S d).Fields.length<=4:=(K0 hx.sh.sr hd).fl
theorem IM{d:Int}(hd:d∈lv x.S):(outs x.S d).length<=4:=zO (Nk _) (Ia hx hn hm hd)
theorem uN:∀(l:List Int),(∀d∈l,d∈lv x.S)->(l.flatMap (outs x.S)).length<=4*l.length
 | [],_=>by simp
 | d::l,h=>by
  rw[zbh,zK,zH];have:=uN l λe he=>h e (zn _ he);have:=IM hx hn hm (h d (zg ..));omega
theorem QV:∀v∈ds.flatMap (outs x.S)++(lf x.T ds).2,v<=9223372036854775807:=λv hv=>by
 rcases zu.1 hv with q | q
 .obtain⟨d,hd,q⟩:=ms.1 q;obtain⟨q,_⟩:=ga.1 q;rcases hx.sh.fl d (hm d hd) v q with e | e
  .omega
  .exact qN hx.sh.sr e
 .by_cases h0:v=0
  .omega
  .have hl:=Gi hx hn hm;have h3:=(jU hx.sh.hr ds (by omega)).2.2.2.2.2 v;have h4:=ja.2 ⟨h0,q⟩;have h5:0<own x.T v:=by omega
   obtain⟨p,hp,hq⟩:=zbx.1 h5;have hq:(v != 0&&p.Val==v)=true:=hq;rw[zy,pu] at hq;have:=(hx.sh.pr _ _ (cg.1 hp)).2;rw[hq.2] at this;exact qN hx.sh.sr this
theorem Nz:(ds.flatMap (outs x.S)++(lf x.T ds).2).length<=200:=by
 have hl:=Gi hx hn hm;have h1:=uN hx hn hm ds hm;have h2:=(jU hx.sh.hr ds (by omega)).2.2.1;rw[zK];omega
theorem HM(hq:(x.Q.L++ju x.b7 ds).length<=30){l:List Int}(h1:Z6 x l=some ds):bQ x l=some (gL x ds):=by
 have hl:=Gi hx hn hm;have hR:=hx.sh.sr;obtain⟨w1,w2,w3,w4,w5,w6⟩:=jU hx.sh.hr ds (by omega);have ol:=Nz hx hn hm;have fl:=uN hx hn hm ds hm;unfold bQ;rw[h1,Yy,Gb (by have:=hx.sh.c6;omega) (by omega) hq hx.sh.cap,Yy];simp only[jn];have key:=U7 ds (λb d=>b++outs x.S d) id (λk b=>b.length<=4*k) (b0:=[]) (f:=λ((s49,s50):Int × (List Int))=>
   if (decide (s49<(ds.length:Int))) then
    (ix ds s49).bind λv53=>
    (x6 (Lc x ds).S v53).bind λv54=>
    (jo v54.1.Fields).bind λv55=>
    (app 8 s50 v55).bind λv56=>
    some (Sum.inl (u7 (s49+1),v56))
   else
   some (.inr s50)) (by omega) (by simp) (λk hk b hb=>?_) (λb hb=>by simp)
 .rw[key,Yy,ru,zcj];dsimp only[id];rw[show (Lc x ds).T=x.T from rfl,w1,Yy];have ol2:=ol;rw[zK] at ol2;rw[K5 (by omega) (by omega),Yy];have k1:=Kk (y:=⟨(Lc x ds).S,(Lc x ds).Roots,(Lc x ds).b7,(lf x.T ds).1,(Lc x ds).Q⟩) hR hn hm (by omega) (K:=λe=>(lp (S:=Int × b9) (E:=b9) (λ((s35,s36):Int × b9)=>
     if (decide (s35<((ds.flatMap (outs x.S)++(lf x.T ds).2).length:Int))) then
      (ix (ds.flatMap (outs x.S)++(lf x.T ds).2) s35).bind λv39=>
      (E0 s36 v39).bind λv40=>
      some (.inl (u7 (s35+1),v40))
     else
     some (.inr s36)) (0,e)).bind λe34=>some e34)
  refine zcu k1 ?_;have g:=eH ds hR hn hm;have k2:=CY (y:=wS (⟨(Lc x ds).S,(Lc x ds).Roots,(Lc x ds).b7,(lf x.T ds).1,(Lc x ds).Q⟩:Hp) (ou x.S ds)) g.sr _ (by omega) (QV hx hn hm) (K:=λe34=>some e34);refine zcu k2 ?_;rfl
 .have hd:=hm _ (zh hk);have f4:=Ia hx hn hm hd;have o4:=IM hx hn hm hd;simp only[wp,hk,t6,wn,s7 hk,Yy,show (Lc x ds).S=x.S from rfl,xY hR hd,ED _ (by omega:(ob x.S ds[k]).Fields.length<=1000000)];have e:nz (ob x.S ds[k]).Fields=outs x.S ds[k]:=rfl;rw[e,K5 (by omega) (by omega),Yy,n9];exact⟨rfl,by rw[zK];omega⟩
end
theorem PH{x:Hp}(hR:SR x.S)(hS:SL x){ds:List Int}(hn:ds.Nodup)(hm:∀d∈ds,d∈lv x.S)(t:Tb):SL (jt x ds t):=λk hk=>by
 have g:=eH ds hR hn hm;have hk:k∈lv (ou x.S ds):=hk;rw[g.lv,zi,zG] at hk;have e:ob (jt x ds t).S k=ob x.S k:=g.ob k hk.1 hk.2;rw[e];exact hS k hk.1
theorem LI{x:Hp}(hR:SR x.S)(hS:SL x){ds:List Int}(hn:ds.Nodup)(hm:∀d∈ds,d∈lv x.S):SL (gL x ds):=
 Db _ (x:=jt x ds (lf x.T ds).1) (eH ds hR hn hm).sr (PH hR hS hn hm _)
theorem NP{x:Hp}(hR:SR x.S)(hS:SL x){h:Int}(hh:h∈lv x.S):SL (gh x h):=by
 have hok:=Jl hR hh;have r1:=bP (o:=fC (ob x.S h)) hR hh rfl hok;refine SL.E5 (x:=⟨cT x.S h (fC (ob x.S h)),x.Roots,x.b7,x.T,⟨x.Q.L ++ [As x h],x.Q.Cap⟩⟩) (λk hk=>?_) r1 h;dsimp only at hk |-;rw[iE (o:=fC (ob x.S h)) hR hh rfl hok] at hk;rw[gk (o:=fC (ob x.S h)) hR hh rfl hok (qN hR hk)];split;·exact hS h hh
 .exact hS k hk
theorem Vh{x:Hp}(hx:J8 x)(hS:SL x):SL (FI x):=by
 cases h:zr x with
 | nil=>rw[nC h];exact hS
 | cons z l=>
  have hz:=(cS.1 (show z∈zr x by rw[h];exact zg ..)).1;rw[jQ h];split;·exact NP hx.sh.sr hS hz
  .exact LI hx.sh.sr hS (by simp) (by simpa using hz)
theorem Hd{x:Hp}(hx:J8 x)(hS:SL x)(n:Nat):SL (oi n x):=by
 induction n with
 | zero=>exact hS
 | succ n ih=>rw[fD];exact Vh (P6 hx n) ih
theorem Jk{x:Hp}(hx:J8 x)(hS:SL x):SL (bz x):=Hd hx hS 100
section
variable{x:Hp}(hx:J8 x)(hS:SL x)
include hx hS
theorem Lb{z:Int}(hz:z∈zr x):(x.Q.L++ju x.b7 [z]).length<=30:=by
 have h1:=(Ao hx hz).sh.q30;have hzl:=(cS.1 hz).1;rw[(sm hx.sh.sr (ds:=[z]) (by simp) (by simpa using hzl)).2.2.2] at h1;exact h1
theorem KL(h:zr x = []):((dY x).bind λv4=>
  if ((v4.length:Int)==0) then
   some (Sum.inr x)
  else
  (ix v4 0).bind λv5=>
  (x6 x.S v5).bind λv6=>
  (O9 v6.1).bind λv7=>
  if v7 then
   (W8 x v5).bind λv8=>
   some (.inl v8)
  else
  (cut v4 0 1).bind λv9=>
  (bQ x v9).bind λv10=>
  some (Sum.inl (α:=Hp) (β:=Hp) v10))=some (.inr x):=by
 rw[zero_eq hx.sh.sr,Yy,h];rfl
theorem Xx(z:Int)(l:List Int):cut (z::l) 0 1=some [z]:=by
 unfold cut;rw[zb (by simp;omega)];simp
theorem GV(h:zr x ≠ []):((dY x).bind λv4=>
  if ((v4.length:Int)==0) then
   some (Sum.inr x)
  else
  (ix v4 0).bind λv5=>
  (x6 x.S v5).bind λv6=>
  (O9 v6.1).bind λv7=>
  if v7 then
   (W8 x v5).bind λv8=>
   some (.inl v8)
  else
  (cut v4 0 1).bind λv9=>
  (bQ x v9).bind λv10=>
  some (Sum.inl (α:=Hp) (β:=Hp) v10))=some (.inl (FI x)):=by
 cases hz:zr x with
 | nil=>exact absurd hz h
 | cons z l=>
  have hzm:z∈zr x:=by rw[hz];exact zg ..
  have hzl:=(cS.1 hzm).1;have hR:=hx.sh.sr;rw[zero_eq hR,Yy,hz,za (by simp;omega),show ix (z::l) 0=some z from rfl,Yy,xY hR hzl,Yy,IQ,Yy,jQ hz];by_cases hd:due (ob x.S z)=true
  .rw[zb hd,zb hd,BC hx hS (qN hR hzl),Yy];unfold Xr;rw[zb ⟨hzl,hd⟩]
  .rw[za hd,za hd,Xx hx hS,Yy,HM hx (ds:=[z]) (by simp) (by simpa using hzl) (Lb hx hS hzm) (by rw[tq hR [z] (by simp) (by simpa using qN hR hzl),MS hzl]),Yy]
theorem jk:R2 x=some (bz x):=by
 obtain⟨n,hn,h1,h2,h3⟩:=vq hx;unfold R2;refine lE (λj=>oi j x) rfl n (λ_=>True) (by omega) trivial (λk hk _=>.inl ⟨?_,trivial⟩) (λ_=>⟨oi n x,?_,by rw[h3]⟩)
 .have:=GV (P6 hx k) (Hd hx hS k) (h2 k hk);rw[<-fD] at this;exact this
 .exact KL (P6 hx n) (Hd hx hS n) h1
end
def P2(n l m e:Int):Int:=if n<l\/n > m then e else 0
def cE(a b c:Int):Int:=if a≠0 then a else if b≠0 then b else c
def y4(k a b c:Int):Int:=
 if k=1 then cE (P2 a 0 5 6) (P2 b 0 4 1) (P2 c (-1) 5 13)
 else if k=2\/k=9\/k=10 then cE (P2 a 0 5 6) (P2 b 0 5 6) 0
 else if k=3 then P2 a 0 5 6
 else if k=4 then cE (P2 a 0 5 6) (P2 b 0 5 6) (P2 c 0 3 5)
 else if k=5 then cE (P2 a 0 5 6) (P2 b 0 3 5) (P2 c (-1) 5 6)
 else if k=6 then cE (P2 a 0 5 7) (P2 b (-1) 5 6) (P2 c (-1) 5 13)
 else if k=7 then cE (P2 a 0 5 6) (P2 b 0 5 7) 0
 else if k=8 then cE (P2 a 0 5 6) (P2 b (-1) 5 6) 0
 else if k=11 then 0
 else if k=12 then P2 a 0 200 12
 else 14
def CW:l5:=⟨some 251,0,5,6⟩
def Rg:l5:=⟨some 252,0,5,6⟩
def Ww:l5:=⟨some 252,-1,5,6⟩
def WD:l5:=⟨some 254,-1,5,13⟩
def vE:List (Int × List l5):=[(1,[CW,⟨some 252,0,4,1⟩,WD]),(2,[CW,Rg]),(3,[CW]),(4,[CW,Rg,⟨some 254,0,3,5⟩]),
 (5,[CW,⟨some 252,0,3,5⟩,⟨some 254,-1,5,6⟩]),(6,[⟨some 251,0,5,7⟩,Ww,WD]),(7,[CW,⟨some 252,0,5,7⟩]),(8,[CW,Ww]),(9,[CW,Rg]),(10,[CW,Rg]),(11,[]),(12,[⟨some 251,0,200,12⟩])]
theorem Gg:mL=some vE:=by kernel_rfl
def gY(o:g7)(d:l5):Int:=if d.part=some 251 then o.A else if d.part=some 252 then o.B else o.C
def qB(o:g7)(d:l5):Bool:=decide (gY o d<d.least)||decide (gY o d > d.most)
def sL(o:g7):List l5->Int ⊕ Unit
 | []=>.inr ()
 | d::ds=>if qB o d then .inl d.e else sL o ds
theorem Ec(o:g7)(d:l5)(ds:List l5):sL o (d::ds)=if qB o d then .inl d.e else sL o ds:=rfl
def Hl(d:l5):Prop:=d.part=some 251\/d.part=some 252\/d.part=some 254
theorem UC(o:g7){d:l5}(h:Hl d):sN d.part o=some (gY o d):=by
 unfold gY;rcases h with h | h | h
 .rw[h];rfl
 .rw[h];rfl
 .rw[h];rfl
theorem TX(o:g7)(ds:List l5)(hl:ds.length<=10)(hp:∀d∈ds,Hl d):lp (S:=Int) (E:=Int ⊕ Unit) (λ(s11:Int)=>
   if (decide (s11<(ds.length:Int))) then
    (ix ds s11).bind λv13=>
    (sN v13.part o).bind λv14=>
    if ((decide (v14<v13.least))||(decide (v14 > v13.most))) then
     some (.inr (.inl v13.e))
    else
    some (.inl (u7 (s11+1)))
   else
   some (.inr (.inr ()))) 0=some (sL o ds):=by
 refine ud (Br ds.length (λk=>sL o ds=sL o (ds.drop k)) (λe=>e=sL o ds) (by omega) rfl (λk hk hP=>?_) (λhP=>?_))
 .rw[zb (by simpa using hk),s7 hk,Yy,UC o (hp _ (zh hk)),Yy];rw[List.drop_eq_getElem_cons hk,Ec] at hP;by_cases c:qB o ds[k]=true
  .rw[zb (show ((decide (gY o ds[k]<ds[k].least))||(decide (gY o ds[k] > ds[k].most)))=true from c)];rw[zb c] at hP;exact .inr ⟨_,rfl,hP.symm⟩
  .rw[za (show ¬((decide (gY o ds[k]<ds[k].least))||(decide (gY o ds[k] > ds[k].most)))=true from c),n9];rw[za c] at hP;exact .inl ⟨rfl,hP⟩
 .rw[List.drop_length] at hP;exact⟨_,za (by simp),hP.symm⟩
theorem PU:∀p∈vE,p.2.length<=10/\∀d∈p.2,Hl d:=by
 have:vE.all (λp=>decide (p.2.length<=10)&&p.2.all λd=>(d.part==some 251)||(d.part==some 252)||(d.part==some 254))=true:=by kernel_rfl
 intro p hp;have:=zf.1 this p hp;rw[zy,zG,zf] at this;refine⟨this.1,λd hd=>?_⟩;have:=this.2 d hd;simp only[zbv,pu] at this;unfold Hl;rcases this with (h | h) | h
 .exact .inl h
 .exact .inr (.inl h)
 .exact .inr (.inr h)
theorem IC{m:List (Int × List l5)}{k:Int}{v:List l5}(h:y9 m k=some v):(k,v)∈m:=by
 induction m with
 | nil=>cases h
 | cons p m ih=>
  unfold y9 at h;split at h
  .rename_i c;have:k=p.1:=by simpa using c
   cases h;subst this;exact zg ..
  .exact zn _ (ih h)
def uj(o:g7)(ds:List l5):Int:=match sL o ds with
 | .inl e=>e
 | .inr _=>0
theorem RL(o:g7):uj o []=0:=rfl
theorem uk(o:g7)(d:l5)(ds:List l5):uj o (d::ds)=if qB o d then d.e else uj o ds:=by
 unfold uj;rw[Ec];cases qB o d <;> rfl
theorem Cv(o:g7)(d:l5):P2 (gY o d) d.least d.most d.e=if qB o d then d.e else 0:=by
 unfold P2 qB;by_cases h:gY o d<d.least\/gY o d > d.most
 .rw[zb h,zb (by simpa using h)]
 .rw[za h,za (by simpa using h)]
theorem RJ(o:g7)(d:l5):uj o [d]=P2 (gY o d) d.least d.most d.e:=by rw[uk,RL,Cv]
theorem Ox(o:g7)(d e:l5)(h1:d.e≠0):uj o [d,e]=cE (P2 (gY o d) d.least d.most d.e) (P2 (gY o e) e.least e.most e.e) 0:=by
 rw[uk,RJ,Cv o d];unfold cE;cases qB o d
 .simp only[zD,qr,ne_eq,not_true_eq_false];split;·rfl
  .rename_i h;simpa using h
 .simp[h1]
theorem RK(o:g7)(d e f:l5)(h1:d.e≠0)(h2:e.e≠0):uj o [d,e,f]=cE (P2 (gY o d) d.least d.most d.e) (P2 (gY o e) e.least e.most e.e) (P2 (gY o f) f.least f.most f.e):=by
 rw[uk,uk,RJ,Cv o d,Cv o e];unfold cE;cases qB o d <;> cases qB o e <;> simp[h1,h2]
theorem MN(o:g7):(match y9 vE o.Kind with
  | none=>14
  | some ds=>uj o ds)=y4 o.Kind o.A o.B o.C:=by
 obtain⟨k,a,b,c⟩:=o;dsimp only;by_cases h:1<=k/\k<=12
 .have:k=1\/k=2\/k=3\/k=4\/k=5\/k=6\/k=7\/k=8\/k=9\/k=10\/k=11\/k=12:=by omega
  rcases this with rfl | rfl | rfl | rfl | rfl | rfl | rfl | rfl | rfl | rfl | rfl | rfl
  .exact RK _ _ _ _ (by decide) (by decide)
  .exact Ox _ _ _ (by decide)
  .exact RJ _ _
  .exact RK _ _ _ _ (by decide) (by decide)
  .exact RK _ _ _ _ (by decide) (by decide)
  .exact RK _ _ _ _ (by decide) (by decide)
  .exact Ox _ _ _ (by decide)
  .exact Ox _ _ _ (by decide)
  .exact Ox _ _ _ (by decide)
  .exact Ox _ _ _ (by decide)
  .rfl
  .exact RJ _ _
 .have e:y9 vE k=none:=by
   cases hm:y9 vE k with
   | none=>rfl
   | some v=>
    have:=IC hm;simp only[vE,zM,Prod.mk.injEq,zcm,or_false] at this;omega
  rw[e];unfold y4;repeat rw[za (by omega)]
theorem oA(o:g7):W1 o=some (y4 o.Kind o.A o.B o.C):=by
 rw[<-MN];unfold W1;rw[Gg,Yy];cases h:y9 vE o.Kind with
 | none=>rfl
 | some ds=>
  obtain⟨h1,h2⟩:=PU _ (IC h);rw[za (by simp)];simp only[jn,ww];rw[TX o ds h1 h2,Yy];unfold uj;cases sL o ds <;> rfl
theorem Qj(n l m e:Int):dK n l m e=some (P2 n l m e):=by
 unfold dK P2;by_cases h:n<l\/n > m
 .rw[zb h,zb (by simpa using h)]
 .rw[za h,za (by simpa using h)]
theorem Mq(a b c:Int):cr a b c=some (cE a b c):=by
 unfold cr cE;by_cases h:a=0
 .by_cases g:b=0
  .rw[za (by simpa using h),za (by simpa using g),za (by simpa using h),za (by simpa using g)]
  .rw[za (by simpa using h),zb (by simpa using g),za (by simpa using h),zb (by simpa using g)]
 .rw[zb (by simpa using h),zb (by simpa using h)]
theorem HP(o:fu):gi o=some (y4 o.Kind o.A o.B o.C):=by
 unfold gi y4;simp only[Qj,Mq,Yy,jn];by_cases h:1<=o.Kind/\o.Kind<=12
 .have:o.Kind=1\/o.Kind=2\/o.Kind=3\/o.Kind=4\/o.Kind=5\/o.Kind=6\/o.Kind=7\/o.Kind=8\/o.Kind=9\/o.Kind=10\/o.Kind=11\/o.Kind=12:=by omega
  rcases this with h | h | h | h | h | h | h | h | h | h | h | h <;> rw[h] <;> rfl
 .have n:∀j:Int,1<=j->j<=12->(o.Kind==j)=false:=λj h1 h2=>by
   rw[beq_eq_false_iff_ne];omega
  simp only[n 1 (by omega) (by omega),n 2 (by omega) (by omega),n 3 (by omega) (by omega),n 4 (by omega) (by omega),n 5 (by omega) (by omega),n 6 (by omega) (by omega),n 7 (by omega) (by omega),n 8 (by omega) (by omega),n 9 (by omega) (by omega),n 10 (by omega) (by omega),n 11 (by omega) (by omega),n 12 (by omega) (by omega),zD,qr];repeat rw[za (by omega)]
theorem Ro{x:Hp}(hx:J8 x){ds:List Int}:(x.Q.L++ju x.b7 ds).length<=30:=by
 have hS:=hx.sh;have c6:=hS.c6;have h24:(lv x.S).length<=24:=M1 (A0.2 hS.sr);have htd:(x.Q.L++ju x.b7 ds).Pairwise λa b=>¬(a.Kind=b.Kind/\a.At=b.At):=by
  rw[zar];refine⟨hS.td,Ba ..,λa ha b hb q=>?_⟩;obtain⟨w,hw,rfl,hh,_⟩:=gD.1 hb;have hi:x.b7[w].Intact=true:=by
   unfold iP at hh;rw[zy,zy] at hh;exact hh.1.1
  have:=((hS.cl w hw).2.2.2.2 hi).2;rw[zbj] at this;exact this (gK.2 ⟨a,ha,q.1,q.2⟩)
 have:=yZ (m:=lv x.S) htd λt ht=>by
  rcases zu.1 ht with q | q
  .rcases (hS.tk t q).2.2 with c | c
   .exact .inl ⟨c.1,c.2.1⟩
   .exact .inr c
  .obtain⟨w,hw,rfl,_,_⟩:=gD.1 q;exact .inr ⟨rfl,by dsimp only;omega,by dsimp only;omega⟩
 omega
section
variable{x:Hp}(hB:HB x)
include hB
end
structure DI (x y:Hp):Prop where
 lv:∀h∈lv y.S,h∈lv x.S
 aW:y.S.Serial=x.S.Serial
 len:y.S.S.b7.length=x.S.S.b7.length
 ob:∀h∈Sh.lv y.S,(ob y.S h).Serial=(ob x.S h).Serial/\(Sh.ob y.S h).Prog=(Sh.ob x.S h).Prog/\(Sh.ob y.S h).Fields=(Sh.ob x.S h).Fields/\((Sh.ob x.S h).Started=true->(Sh.ob y.S h).Started=true)
 rt:y.Roots=x.Roots
 cn:y.b7.length=x.b7.length
 cl:∀i (h:i<y.b7.length) (h':i<x.b7.length),y.b7[i]=⟨x.b7[i].Target,x.b7[i].Intact&&decide (x.b7[i].Target∈Sh.lv y.S),x.b7[i].Call⟩
 q:∃l,y.Q=⟨x.Q.L++l,x.Q.Cap⟩/\(∀t∈l,t.Kind=1->t.At∈Sh.lv x.S/\(Sh.ob x.S t.At).Started=false)/\∀h∈Sh.lv y.S,(Sh.ob y.S h).Started=true->(Sh.ob x.S h).Started=false->∃t∈l,t.Kind=1/\t.At=h
 rc:∀h,aZ x.S x.T (oc x) h->aZ y.S y.T (oc y) h
 has:∀k v,Has y.T k v->Has x.T k v
theorem DI.refl{x:Hp}(hx:kc x):DI x x:=by
 refine⟨λ_ h=>h,rfl,rfl,λh _=>⟨rfl,rfl,rfl,id⟩,rfl,rfl,λi h h'=>?_,⟨[],by simp,by simp,λh _ a b=>?_⟩,λ_ h=>h,λ_ _ h=>h⟩
 .have:=(hx.cl i h).2.2.2.2;cases hI:x.b7[i].Intact;·rw[Bool.false_and,<-hI]
  .rw[zC (this hI).1,Bool.and_self,<-hI]
 .rw[a] at b;cases b
theorem DI.trans{x y z:Hp}(a:DI x y)(b:DI y z):DI x z:=by
 obtain⟨l1,q1,q2,q3⟩:=a.q;obtain⟨l2,r1,r2,r3⟩:=b.q;refine⟨λh hh=>a.lv h (b.lv h hh),b.aW.trans a.aW,b.len.trans a.len,λh hh=>?_,b.rt.trans a.rt,b.cn.trans a.cn,λi h h'=>?_,⟨l1++l2,?_,λt ht hk=>?_,λh hh s1 s2=>?_⟩,λh hh=>b.rc h (a.rc h hh),λk v hh=>a.has k v (b.has k v hh)⟩
 .obtain⟨b1,b2,b3,b4⟩:=b.ob h hh;obtain⟨a1,a2,a3,a4⟩:=a.ob h (b.lv h hh);exact⟨b1.trans a1,b2.trans a2,b3.trans a3,λq=>b4 (a4 q)⟩
 .have hy:i<y.b7.length:=by rw[a.cn];exact h'
  rw[b.cl i h hy,a.cl i hy h'];dsimp only;congr 1;rw[Bool.and_assoc];congr 1;by_cases q:x.b7[i].Target∈Sh.lv z.S
  .rw[zC q,zC (b.lv _ q)];rfl
  .rw[zY q,Bool.and_false]
 .rw[r1,q1,zah]
 .rcases zu.1 ht with q | q
  .exact q2 t q hk
  .obtain⟨e1,e2⟩:=r2 t q hk;refine⟨a.lv _ e1,?_⟩;cases hs:(Sh.ob x.S t.At).Started;·rfl
   .rw[(a.ob _ e1).2.2.2 hs] at e2;cases e2
 .cases hs:(Sh.ob y.S h).Started
  .obtain⟨t,ht,e⟩:=r3 h hh s1 hs;exact⟨t,t7 _ ht,e⟩
  .obtain⟨t,ht,e⟩:=q3 h (b.lv h hh) hs s2;exact⟨t,ut _ ht,e⟩
theorem Ji(s:b6)(h:Int)(o:n7):(cT s h o).S.b7.length=s.S.b7.length:=J3 ..
theorem Rc{x:Hp}(hx:J8 x){z:Int}(hz:z∈lv x.S)(hs:(ob x.S z).Started=false):DI x (gh x z):=by
 have hR:=hx.sh.sr;obtain⟨k,e1,e2,e3,e4⟩:=ni hR hz;have l1:=CS hR hz;have hob:∀h∈lv x.S,(ob (gh x z).S h).Serial=(ob x.S h).Serial/\(ob (gh x z).S h).Prog=(ob x.S h).Prog/\(ob (gh x z).S h).Fields=(ob x.S h).Fields/\((ob (gh x z).S h).Started=true↔(ob x.S h).Started=true\/h=z):=λh hh=>by
  obtain⟨n,e⟩:=yz hR hz hh;rw[e];by_cases q:h=z
  .subst q;rw[zb rfl];exact⟨rfl,rfl,rfl,by simp⟩
  .rw[za q];exact⟨rfl,rfl,rfl,by simp[q]⟩
 have hot:∀h∈oc x,h∈oc (gh x z):=λh hh=>by
  unfold oc at hh |-;rw[e1,e4];rcases zu.1 hh with q | q
  .exact ut _ q
  .refine t7 _ ?_;obtain⟨t,ht,a,b⟩:=lG.1 q;exact lG.2 ⟨t,ut _ ht,a,b⟩
 have rf:=DI.refl hx.sh;refine⟨λh hh=>by rw[l1] at hh;exact hh,k.aW,k.len.trans (Ji ..),λh hh=>?_,e1,by rw[e2],λi h h'=>?_,⟨[As x z],by rw[e4],λt ht hk=>?_,λh hh s1 s2=>?_⟩,λh hh=>?_,λk v hh=>by rw[e3] at hh;exact hh⟩
 .rw[l1] at hh;obtain⟨a,b,c,d⟩:=hob h hh;exact⟨a,b,c,λq=>d.2 (.inl q)⟩
 .have e5:(gh x z).b7[i]=x.b7[i]:=by simp only[e2]
  rw[e5,l1];exact rf.cl i h' h'
 .rw[zp] at ht;subst ht;exact⟨hz,hs⟩
 .rw[l1] at hh;rcases (hob h hh).2.2.2.1 s1 with q | q
  .rw[q] at s2;cases s2
  .exact⟨As x z,List.mem_singleton_self _,rfl,q.symm⟩
 .induction hh with
  | base h1 h2=>exact .base (hot _ h1) (by rw[l1];exact h2)
  | step h0 h1 h2 ih=>
   refine .step ih ?_ (by rw[l1];exact h2);unfold outs at h1 |-;rw[(hob _ h0.live).2.2.1];exact h1
  | pair h1 h0 h2 ih=>exact .pair (by rw[e3];exact h1) ih (by rw[l1];exact h2)
theorem PI{x:Hp}(hx:J8 x){z:Int}(hz:z∈zr x):DI x (gL x [z]):=by
 have hR:=hx.sh.sr;have hzl:=(cS.1 hz).1;have h0:z≠0:=λe=>eQ hR (e▸hzl);have hfree:=Dz hx hz;have hn:([z]:List Int).Nodup:=by simp
 have hm:∀d ∈ [z],d∈lv x.S:=by simpa using hzl
 have g:=eH [z] hR hn hm;have k:=(hZ ([z].flatMap (outs x.S)++(lf x.T [z]).2) (x:=jt x [z] (lf x.T [z]).1) g.sr).1;obtain⟨e1,e2,e3,e4⟩:=sm hR hn hm;obtain⟨_,w2,_,_,w5,w6⟩:=jU hx.sh.hr [z] (by simp);have l1:∀h,h∈lv (gL x [z]).S↔h∈lv x.S/\h≠z:=λh=>by
  rw[FV hR hn hm,zi,zG,zp]
 have hob:∀h∈lv (gL x [z]).S,(ob (gL x [z]).S h).Serial=(ob x.S h).Serial/\(ob (gL x [z]).S h).Prog=(ob x.S h).Prog/\(ob (gL x [z]).S h).Fields=(ob x.S h).Fields/\(ob (gL x [z]).S h).Started=(ob x.S h).Started:=λh hh=>by
  obtain⟨a,b⟩:=(l1 h).1 hh;obtain⟨n,e⟩:=FW hR hn hm a (by simpa using b);rw[e];exact⟨rfl,rfl,rfl,rfl⟩
 refine⟨λh hh=>((l1 h).1 hh).1,k.aW.trans g.aW,k.len.trans g.len,λh hh=>?_,e1,by rw[e2];simp[ln],λi h h'=>?_,⟨ju x.b7 [z],by rw[e4],λt ht hk=>?_,λh hh s1 s2=>?_⟩,λh hh=>?_,λk v hh=>?_⟩
 .obtain⟨a,b,c,d⟩:=hob h hh;exact⟨a,b,c,λq=>d.trans q⟩
 .have e5:(gL x [z]).b7[i]=qZ [z] x.b7[i]:=by
   simp only[e2];exact t8 _
  rw[e5];have hc:=(hx.sh.cl i h').2.2.2.2;unfold qZ iP;cases hI:x.b7[i].Intact;·rw[za (by simp),Bool.false_and,<-hI]
  .have ht:=(hc hI).1;have ht0:x.b7[i].Target≠0:=λe=>eQ hR (e▸ht);by_cases q:x.b7[i].Target=z
   .rw[zb (by simp[q,h0]),zY (λr=>((l1 _).1 r).2 q)];rfl
   .rw[za (by simp[q]),zC ((l1 _).2 ⟨ht,q⟩),Bool.and_self,<-hI]
 .obtain⟨w,hw,rfl,_,_⟩:=gD.1 ht;simp at hk
 .rw[(hob h hh).2.2.2,s2] at s1;cases s1
 .unfold lM at hfree;have key:aZ (gL x [z]).S (gL x [z]).T (oc (gL x [z])) h/\h≠z:=by
   induction hh with
   | base h1 h2=>
    rename_i a;have hne:a≠z:=λe=>by
     subst e;exact Fl h0 (by omega:R7 (oc x) a=0) h1
    refine⟨.base ?_ ((l1 _).2 ⟨h2,hne⟩),hne⟩;unfold oc at h1 |-;rw[e1,e4,ya _ _ _ λt ht=>by
     obtain⟨w,_,rfl,_⟩:=gD.1 ht;simp]
    exact h1
   | step q0 q1 q2 ih=>
    rename_i a b;have hne:b≠z:=λe=>by
     subst e;have:=Cy (y:=b) q0.live;have h1:=ja.2 ⟨h0,q1⟩;omega
    refine⟨.step ih.1 ?_ ((l1 _).2 ⟨q2,hne⟩),hne⟩;unfold outs at q1 |-;rw[(hob _ ((l1 _).2 ⟨q0.live,ih.2⟩)).2.2.1];exact q1
   | pair q1 q0 q2 ih=>
    rename_i a b;have hne:b≠z:=λe=>by
     subst e;have:=CN q1 h0;omega
    exact⟨.pair (by rw[e3];exact (w5 _ _).2 ⟨by simpa using ih.2,q1⟩) ih.1 ((l1 _).2 ⟨q2,hne⟩),hne⟩
  exact key.1
 .rw[e3] at hh;exact ((w5 _ _).1 hh).2
theorem RB{x:Hp}(hx:J8 x):DI x (FI x):=by
 cases h:zr x with
 | nil=>rw[nC h];exact DI.refl hx.sh
 | cons z l=>
  have hz:z∈zr x:=by rw[h];exact zg ..
  rw[jQ h];split
  .rename_i q;unfold due at q;rw[zy,zG,zca] at q;exact Rc hx (cS.1 hz).1 q.2
  .exact PI hx hz
theorem Rz{x:Hp}(hx:J8 x)(n:Nat):DI x (oi n x):=by
 induction n with
 | zero=>exact DI.refl hx.sh
 | succ n ih=>rw[fD];exact ih.trans (RB (P6 hx n))
theorem ma{x:Hp}(hx:J8 x):DI x (bz x):=Rz hx 100
theorem Iw{T E R:Type}{f:T × Int->Option ((T × Int) ⊕ E)}{t0:T}{κ:E->Option R}{r:R}(n:Nat)(P:Nat->T->Prop)(hn:n<4611686018427387904)(h0:P 0 t0)
  (hs:∀k t,k<n->P k t->∃t',f (t,(k:Int))=some (.inl (t',((k+1:Nat):Int)))/\P (k+1) t')(he:∀t,P n t->∃e,f (t,(n:Int))=some (.inr e)/\κ e=some r):(lp f (t0,0)).bind κ=some r:=by
 refine Qw (λ(s:T × Int)=>∃k:Nat,s.2=(k:Int)/\k<=n/\P k s.1) (λs=>n-s.2.toNat) ⟨0,rfl,zV _,h0⟩ (by show n-_<_;omega) ?_;rintro⟨t,_⟩ ⟨k,rfl,hk,hP⟩;rcases zF k n with h1 | h1
 .obtain⟨t',k1,k2⟩:=hs k t h1 hP;exact .inl ⟨_,k1,⟨k+1,rfl,h1,k2⟩,by show n-_<n-_;simp;omega⟩
 .have:k=n:=by omega
  subst this;exact .inr (he t hP)
section
variable{x:Hp}(hB:HB x)
include hB
end
structure Ks (s s':b6):Prop where
 sr:SR s'
 aW:s'.Serial=s.Serial
 lv:lv s'=lv s
 ob:∀h∈Sh.lv s,(ob s' h).Serial=(ob s h).Serial
theorem Ks.refl{s:b6}(hR:SR s):Ks s s:=⟨hR,rfl,rfl,λ_ _=>rfl⟩
theorem Ks.trans{a b c:b6}(h:Ks a b)(q:Ks b c):Ks a c:=⟨q.sr,q.aW.trans h.aW,q.lv.trans h.lv,λk hk=>(q.ob k (by rw[h.lv];exact hk)).trans (h.ob k hk)⟩
theorem vB.ks{s s':b6}(hR:SR s)(k:vB s s'):Ks s s':=⟨k.sr,k.aW,k.lv,λh hh=>by
 obtain⟨n,e⟩:=k.ob h (by have:=H4 hR hh;omega);rw[e]⟩
theorem Kn.ks{s s':b6}(k:Kn s s')(e:s'.Serial=s.Serial):Ks s s':=⟨k.sr,e,k.lv,λh hh=>by
 obtain⟨n,m,e⟩:=k.ob h hh;rw[e]⟩
theorem UW{s:b6}(hR:SR s){h:Int}(hh:h∈lv s){o:n7}(hs:o.Serial=(ob s h).Serial)(ho:Ap s o):Ks s (cT s h o):=⟨bP hR hh hs ho,rfl,iE hR hh hs ho,λk hk=>by
 rw[gk hR hh hs ho (by have:=H4 hR hk;omega)];split;·rename_i e;subst e;exact hs
 .rfl⟩
theorem Df{x:Hp}(hR:SR x.S)(h:Int):Ks x.S (E5 x h).S:=(H6 hR h λc=>E4).ks hR
theorem Dc{x:Hp}(hR:SR x.S)(h:Int):Ks x.S (aA x h).S:=(H6 hR h λc=>P4).ks hR
theorem yI(x:Hp)(h:Int):(aA x h).Roots=x.Roots/\(aA x h).b7=x.b7/\(aA x h).T=x.T/\(aA x h).Q=x.Q:=yU x h kR
theorem dc{x:Hp}(hR:SR x.S)(r:Nat)(h:Int):Ks x.S (G0 x r h).S:=
 (Df hR h).trans (Dc (x:=wR (E5 x h) (x.Roots.set r h)) (jN hR h) _)
theorem Bc{x:Hp}(hR:SR x.S){h:Int}(hh:h∈lv x.S){n:Nat}(hn:n<(ob x.S h).Fields.length)(v:Int):Ks x.S (bF x h n v).S:=by
 have k1:=Df hR v;have hh1:h∈lv (E5 x v).S:=by rw[k1.lv];exact hh
 have hof:(ob (E5 x v).S h).Fields=(ob x.S h).Fields:=by
  obtain⟨n,e⟩:=(H6 hR v (f:=Y9) λc=>E4).ob h (by have:=H4 hR hh;omega);show (ob (ue x v Y9).S h).Fields=_;rw[e]
 have ho:Ap (E5 x v).S (rp (ob (E5 x v).S h) ((ob x.S h).Fields.set n v)):=by
  have:=K0 k1.sr hh1;refine⟨this.s1,this.s2,this.st,this.wk,this.p1,this.p2,?_⟩;have h4:=this.fl;rw[hof] at h4;simpa using h4
 have k2:=UW (o:=rp (ob (E5 x v).S h) ((ob x.S h).Fields.set n v)) k1.sr hh1 rfl ho;exact (k1.trans k2).trans (Dc (x:=wS (E5 x v) (cT (E5 x v).S h (rp (ob (E5 x v).S h) ((ob x.S h).Fields.set n v)))) k2.sr _)
theorem oJ(x:Hp)(h:Int)(n:Nat)(v:Int):(bF x h n v).Roots=x.Roots/\(bF x h n v).b7=x.b7/\(bF x h n v).T=x.T/\(bF x h n v).Q=x.Q:=by
 obtain⟨a,b,c,d⟩:=yI (wS (E5 x v) (cT (E5 x v).S h (rp (ob (E5 x v).S h) ((ob x.S h).Fields.set n v)))) ((ob x.S h).Fields.getD n 0);obtain⟨a',b',c',d'⟩:=tY x v;exact⟨a.trans a',b.trans b',c.trans c',d.trans d'⟩
theorem EH{x:Hp}(hR:SR x.S)(v:Int)(t:Tb)(old:Int):Ks x.S (iJ x v t old).S:=
 (Df hR v).trans (Dc (x:=wT (E5 x v) t) (jN hR v) old)
theorem rG(x:Hp)(v:Int)(t:Tb)(old:Int):(iJ x v t old).Roots=x.Roots/\(iJ x v t old).b7=x.b7/\(iJ x v t old).T=t/\(iJ x v t old).Q=x.Q:=by
 obtain⟨a,b,c,d⟩:=yI (wT (E5 x v) t) old;obtain⟨a',b',c',d'⟩:=tY x v;exact⟨a.trans a',b.trans b',c,d.trans d'⟩
theorem TE{s:b6}(hR:SR s){i:Nat}(hi:i<s.S.b7.length)(h2:(ce s i).State=2):Ks s (DB s i):=⟨Cr hR hi,rfl,Cp hR hi h2,λh hh=>by rw[Cq hR hi h2 hh]⟩
theorem Ue{x:Hp}(hR:SR x.S)(h:Int){d:Int}(hd:T8 x.S h (D5 h)->0<=(ce x.S (D5 h)).Val.Weak+d):Ks x.S (iv x h d).S:=by
 unfold iv;split
 .rename_i q;exact (mZ hR q.1 q.2.1 (hd q)).ks rfl
 .exact Ks.refl hR
theorem Nd(x:Hp)(h d:Int):(iv x h d).Roots=x.Roots/\(iv x h d).b7=x.b7/\(iv x h d).T=x.T/\(iv x h d).Q=x.Q:=by
 unfold iv;split <;> exact⟨rfl,rfl,rfl,rfl⟩
theorem KY(x:Hp)(h:Int):(pG x h).Roots=x.Roots/\(pG x h).b7=x.b7/\(pG x h).T=x.T/\(pG x h).Q=x.Q:=by
 unfold pG;split;·split <;> exact⟨rfl,rfl,rfl,rfl⟩
 .exact⟨rfl,rfl,rfl,rfl⟩
theorem Jr{x:Hp}(hR:SR x.S)(h:Int)(hd:T8 x.S h (D5 h)->1<=(ce x.S (D5 h)).Val.Weak):Ks x.S (pG x h).S:=by
 unfold pG;split
 .rename_i q;have hd:=hd q;have kn:=mZ (d:=-1) hR q.1 q.2.1 (by omega);split
  .rename_i c;have hi1:D5 h<(lH x.S (D5 h) (-1)).S.b7.length:=by rw[kn.len];exact q.1
   have hce:ce (lH x.S (D5 h) (-1)) (D5 h)=⟨(ce x.S (D5 h)).State,(ce x.S (D5 h)).Gen,Xu (ce x.S (D5 h)).Val ((ce x.S (D5 h)).Val.Weak + -1)⟩:=by
    rw[eW hR q.1 q.2.1,zb rfl]
   have h2:(ce (lH x.S (D5 h) (-1)) (D5 h)).State=2:=by rw[hce];exact c.1
   exact (kn.ks rfl).trans (TE kn.sr hi1 h2)
  .exact kn.ks rfl
 .exact Ks.refl hR
theorem Ft{x:Hp}(hx:J8 x){n:Nat}(hn:n<6)(h call:Int):Ks x.S (cH x n h call).S:=by
 have hR:=hx.sh.sr;have hnl:n<x.b7.length:=by have:=hx.sh.c6;omega
 have ok:∀k i,T8 x.S k i->0<=(ce x.S i).Val.Weak:=λk i q=>(hR.ok i q.1 q.2.1).wk;have tw:∀i,T8 x.S (md x n) i->1<=(ce x.S i).Val.Weak:=λi q=>by
  have htg:md x n=x.b7[n].Target:=by
   unfold md;rw[zd,zc hnl];rfl
  have r:=q.KK hR;have p:=tK hnl (by rw[<-htg];omega);rw[<-htg,q.2.2] at p;have:=(hx.wk i q.1 q.2.1).1;omega
 unfold cH;have s1:Ks x.S (iv (wC x (x.b7.set n (fG h call))) h 1).S:=Ue (x:=wC x (x.b7.set n (fG h call))) hR h λq=>by
  have:=ok _ _ q;dsimp only;omega
 by_cases q:T8 x.S h (D5 h)
 .have e:iv (wC x (x.b7.set n (fG h call))) h 1=wS (wC x (x.b7.set n (fG h call))) (lH x.S (D5 h) 1):=by
   unfold iv;rw[zb q]
  have hd:=ok _ _ q;have kn:=mZ (d:=1) hR q.1 q.2.1 (by omega);rw[e] at s1 |-;refine s1.trans (Jr (x:=wS (wC x (x.b7.set n (fG h call))) (lH x.S (D5 h) 1)) kn.sr _ λq2=>?_);dsimp only at q2 |-;have q3:=(kn.ad _ _).1 q2;have:=tw _ q3;rw[eW hR q.1 q.2.1];split
  .rename_i e2;rw[e2] at this;show 1<=(ce x.S (D5 h)).Val.Weak+1;omega
  .exact this
 .have e:iv (wC x (x.b7.set n (fG h call))) h 1=wC x (x.b7.set n (fG h call)):=by
   unfold iv;rw[za q]
  rw[e] at s1 |-;exact s1.trans (Jr (x:=wC x (x.b7.set n (fG h call))) hR _ λq2=>tw _ q2)
theorem Ai(x:Hp)(n:Nat)(h call:Int):(cH x n h call).Roots=x.Roots/\(cH x n h call).b7=x.b7.set n (fG h call)/\(cH x n h call).T=x.T/\(cH x n h call).Q=x.Q:=by
 obtain⟨a,b,c,d⟩:=KY (iv (wC x (x.b7.set n (fG h call))) h 1) (md x n);obtain⟨a',b',c',d'⟩:=Nd (wC x (x.b7.set n (fG h call))) h 1;exact⟨a.trans a',b.trans b',c.trans c',d.trans d'⟩
abbrev Xp(s:b6)(n:Nat)(p:Int):n7:=⟨s.Serial+1,0,0,p,false,List.replicate n 0⟩
def dm(s:b6)(i n:Nat)(p:Int):b6:=⟨⟨s.S.b7.set i ⟨1,(ce s i).Gen,Xp s n p⟩,s.S.Last⟩,s.Serial+1⟩
section
variable{s:b6}(hR:SR s){i:Nat}(hi:i<s.S.b7.length)(h0:(ce s i).State=0){n:Nat}(hn:n<=4){p:Int}(hp : -1<=p/\p<=5)
include hR hi h0 hn hp
theorem jD:(dm s i n p).S.b7.length=s.S.b7.length:=by simp[dm]
theorem lI(j:Nat):ce (dm s i n p) j=if j=i then ⟨1,(ce s i).Gen,Xp s n p⟩ else ce s j:=xW hi _ _ j
theorem EB:SR (dm s i n p):=by
 have hser:=hR.aW;have hc:=hR.cell i hi;have hnt:¬Th (ce s i):=λh=>by
  rcases h with h | h <;> omega
 refine⟨by rw[jD hR hi h0 hn hp];exact hR.len,hR.l0,hR.l9,by show 0<=s.Serial+1;omega,λj hj=>?_,λj hj ht=>?_,λj hj ht=>?_,λj k hj hk a b e=>?_⟩
 .rw[jD hR hi h0 hn hp] at hj;rw[lI hR hi h0 hn hp];split;·exact⟨show (0:Int)<=1 by decide,show (1:Int)<=3 by decide,hc.2.2.1,hc.2.2.2⟩
  .exact hR.cell j hj
 .rw[jD hR hi h0 hn hp] at hj;rw[lI hR hi h0 hn hp] at ht |-;split at ht;·exact absurd (.inl rfl) ht
  .rename_i e;rw[za e];exact hR.no j hj ht
 .rw[jD hR hi h0 hn hp] at hj;rw[lI hR hi h0 hn hp] at ht |-;split at ht
  .rename_i e;rw[zb e];exact⟨by show 1<=s.Serial+1;omega,zaf _,zaf 0,zaf 0,hp.1,hp.2,by simpa using hn⟩
  .rename_i e;rw[za e];have:=hR.ok j hj ht;exact⟨this.s1,by show _<=s.Serial+1;have:=this.s2;omega,this.st,this.wk,this.p1,this.p2,this.fl⟩
 .rw[jD hR hi h0 hn hp] at hj hk;rw[lI hR hi h0 hn hp] at a e;rw[lI hR hi h0 hn hp] at b e;have old:∀m,m<s.S.b7.length->Th (ce s m)->(ce s m).Val.Serial≠s.Serial+1:=λm hm t q=>by
   have:=(hR.ok m hm t).s2;omega
  by_cases ej:j=i <;> by_cases ek:k=i
  .rw[ej,ek]
  .rw[za ek] at b e;rw[zb ej] at e;exact absurd e.symm (old k hk b)
  .rw[za ej] at a e;rw[zb ek] at e;exact absurd e (old j hj a)
  .rw[za ej] at a e;rw[za ek] at b e;exact hR.dif j k hj hk a b e
theorem yp{k:Int}{j:Nat}(q:T8 s k j):j≠i:=λe=>by
 subst e;rcases q.2.1 with h | h <;> omega
theorem Nb{k:Int}{j:Nat}:T8 (dm s i n p) k j↔T8 s k j\/(j=i/\k=bX s i):=by
 unfold T8;rw[jD hR hi h0 hn hp,lI hR hi h0 hn hp];by_cases e:j=i
 .rw[zb e];subst e;constructor
  .rintro⟨a,b,c⟩;exact .inr ⟨rfl,c⟩
  .rintro (⟨a,b,c⟩ | ⟨_,c⟩);·exact absurd rfl (yp hR hi h0 hn hp ⟨a,b,c⟩)
   .exact⟨hi,.inl rfl,c⟩
 .rw[za e];constructor;·exact .inl
  .rintro (h | ⟨h,_⟩);·exact h
   .exact absurd h e
theorem Bw:lv (dm s i n p)=lv s ++ [bX s i]:=by
 have e:=GB (s:=s) (A0.2 hR) hi (by rw[<-O4 hi];exact h0) (Xp s n p) rfl (gB (A0.2 hR));unfold dm;rw[show (ce s i).Gen=s.S.b7[i].Gen by rw[O4 hi]];have e2:bX s i=1+(i:Int)+32*s.S.b7[i].Gen:=by unfold bX;rw[O4 hi]
 rw[e2];have:=gB (A0.2 (by have:=EB hR hi h0 hn hp;unfold dm at this;rw[show (ce s i).Gen=s.S.b7[i].Gen by rw[O4 hi]] at this;exact this));rw[e] at this;exact (zJ this).symm
theorem Nc:bX s i∉lv s:=λh=>by
 obtain⟨j,q⟩:=(gS hR).1 h;have:i=j:=by
  have a:=q.2.2;have b:=q.1;unfold bX at a;have:=hR.len;omega
 subst this;have:=q.2.1;omega
theorem Bx{k:Int}(hk:k∈lv s):ob (dm s i n p) k=ob s k:=by
 obtain⟨j,q⟩:=(gS hR).1 hk;have hj:=yp hR hi h0 hn hp q.d;have q2:At (dm s i n p) k j:=by
  refine⟨by rw[jD hR hi h0 hn hp];exact q.1,?_,?_⟩ <;> rw[lI hR hi h0 hn hp,za hj]
  .exact q.2.1
  .exact q.2.2
 rw[F4 (EB hR hi h0 hn hp) q2,F4 hR q,lI hR hi h0 hn hp,za hj]
theorem uY:ob (dm s i n p) (bX s i)=Xp s n p:=by
 have q2:At (dm s i n p) (bX s i) i:=by
  refine⟨by rw[jD hR hi h0 hn hp];exact hi,?_,?_⟩ <;> rw[lI hR hi h0 hn hp,zb rfl]
  rfl
 rw[F4 (EB hR hi h0 hn hp) q2,lI hR hi h0 hn hp,zb rfl]
end
theorem Jp{l:List Int}{h:Int}(e:h∉l):R7 l h=0:=Nat.eq_zero_of_not_pos λq=>e (ja.1 q).2
theorem yq{x:Hp}(hx:J8 x){i:Nat}(hi:i<x.S.S.b7.length)(h0:(ce x.S i).State=0){n:Nat}(hn:n<=4){p:Int}(hp : -1<=p/\p<=5):J8 (wS x (dm x.S i n p)):=by
 have hR:=hx.sh.sr;have hS:=EB hR hi h0 hn hp;have hl:=Bw hR hi h0 hn hp;have hnew:=Nc hR hi h0 hn hp;have mem:∀ {k},k∈lv x.S->k∈lv (dm x.S i n p):=λhk=>by rw[hl];exact ut _ hk
 have mem0:∀ {k},k=0\/k∈lv x.S->k=0\/k∈lv (dm x.S i n p):=λhk=>hk.imp id mem;have hpos:=sW hR hi;have split:∀ {k},k∈lv (dm x.S i n p)->k∈lv x.S\/k=bX x.S i:=λhk=>by
  rw[hl] at hk;rcases zu.1 hk with q | q
  .exact .inl q
  .exact .inr (zp.1 q)
 have rep:∀v∈List.replicate n (0:Int),v=0:=λv hv=>(zba.1 hv).2;have ntgt:∀j (hj:j<x.b7.length),x.b7[j].Target≠bX x.S i:=λj hj e=>by
  obtain⟨q,hq⟩:=(hx.sh.cl j hj).2.2.2.1 (by rw[e];omega);rw[e] at hq;have:q=i:=by
   have a:=hq.2.2;have b:=hq.1;unfold bX at a;have:=hR.len;omega
  exact yp hR hi h0 hn hp hq this
 refine⟨⟨hS,hx.sh.hr,hx.sh.r6,hx.sh.c6,hx.sh.cap,hx.sh.q30,λt ht=>?_,hx.sh.td,λh hh=>mem0 (hx.sh.rt h hh),λh hh v hv=>?_,λk v hk=>?_,λj hj=>?_⟩,λj hj ht=>?_,λh hh hs=>?_⟩
 .obtain⟨a,b,c⟩:=hx.sh.tk t ht;refine⟨a,b,c.imp (λ⟨d,e,f⟩=>⟨d,mem e,?_⟩) id⟩;show (ob (dm x.S i n p) t.At).Started=true;rw[Bx hR hi h0 hn hp e];exact f
 .rcases split hh with q | q
  .have hv':v∈(ob (dm x.S i n p) h).Fields:=hv;rw[Bx hR hi h0 hn hp q] at hv';exact mem0 (hx.sh.fl h q v hv')
  .subst q;have hv':v∈(ob (dm x.S i n p) (bX x.S i)).Fields:=hv;rw[uY hR hi h0 hn hp] at hv';exact .inl (rep v hv')
 .obtain⟨a,b⟩:=hx.sh.pr k v hk;exact⟨mem a,mem b⟩
 .obtain⟨a,b,c,d,e⟩:=hx.sh.cl j hj;refine⟨a,b,c,λq=>?_,λq=>⟨mem (e q).1,(e q).2⟩⟩;obtain⟨m,hm⟩:=d q;exact⟨m,(Nb hR hi h0 hn hp).2 (.inl hm)⟩
 .have hj':j<x.S.S.b7.length:=by have:j<(dm x.S i n p).S.b7.length:=hj;rwa [jD hR hi h0 hn hp] at this
  show (ce (dm x.S i n p) j).Val.Weak=(jg x.b7 (1+(j:Int)+32*(ce (dm x.S i n p) j).Gen):Int)/\_;have ht':Th (ce (dm x.S i n p) j):=ht;rw[lI hR hi h0 hn hp] at ht' |-;by_cases e:j=i
  .subst e;rw[zb rfl];refine⟨?_,λq=>absurd (show (1:Int)=2 from q) (by decide)⟩;show (0:Int)=(jg x.b7 (bX x.S j):Int);have:jg x.b7 (bX x.S j)=0:=by
    unfold jg;rw[List.countP_eq_zero];intro c hc;obtain⟨m,hm,rfl⟩:=wt hc;have:=ntgt m hm;simp[this]
   rw[this];rfl
  .rw[za e] at ht' |-;exact hx.wk j hj' ht'
 .have hinn:∀y,jZ (dm x.S i n p) y=jZ x.S y:=λy=>by
   unfold jZ;rw[hl,zaa,List.sum_append];have e1:(lv x.S).map (λk=>R7 (outs (dm x.S i n p) k) y)=(lv x.S).map λk=>R7 (outs x.S k) y:=zt λk hk=>by
    unfold outs;rw[Bx hR hi h0 hn hp hk]
   rw[e1];have e2:outs (dm x.S i n p) (bX x.S i) = []:=by
    refine za7.2 λv hv=>?_;have h1:=ga.1 hv;rw[uY hR hi h0 hn hp] at h1;exact h1.2 (rep v h1.1)
   simp[e2,I1]
  have hnm:∀y,lM (wS x (dm x.S i n p)) y=lM x y:=λy=>by
   unfold lM;show jZ (dm x.S i n p) y+own x.T y+R7 (oc x) y=_;rw[hinn]
  rw[hnm];have hs':(ob (dm x.S i n p) h).Strong<12:=hs;show (ob (dm x.S i n p) h).Strong=_;rcases split hh with q | q
  .rw[Bx hR hi h0 hn hp q] at hs' |-;exact hx.fair h q hs'
  .subst q;rw[uY hR hi h0 hn hp];have h1:lM x (bX x.S i)=0:=by
    unfold lM;have a1:jZ x.S (bX x.S i)=0:=by
     unfold jZ;have:=He (λk=>R7 (outs x.S k) (bX x.S i)) 0 (lv x.S) λk hk=>Nat.le_of_eq<|Jp λq=>by
      have q2:=ga.1 q;rcases hx.sh.fl k hk _ q2.1 with e | e
      .exact q2.2 e
      .exact hnew e
     omega
    have a2:own x.T (bX x.S i)=0:=by
     unfold own;rw[List.countP_eq_zero];intro c hc;have:=(hx.sh.pr _ _ (cg.1 hc)).2;have hne:c.Val≠bX x.S i:=λe=>hnew (e▸this);simp[hne]
    have a3:R7 (oc x) (bX x.S i)=0:=Jp λq=>by
     unfold oc at q;rcases zu.1 q with q | q
     .have q2:=ga.1 q;rcases hx.sh.rt _ q2.1 with e | e
      .exact q2.2 e
      .exact hnew e
     .obtain⟨t,ht,k1,k2⟩:=lG.1 q;rcases (hx.sh.tk t ht).2.2 with ⟨_,b,_⟩ | ⟨b,_⟩;·exact hnew (k2▸b)
      .omega
    omega
   rw[h1,I1];rfl
structure Ev (x y:Hp):Prop where
 lv:∀h∈lv y.S,(h∈Sh.lv x.S/\(ob y.S h).Serial=(ob x.S h).Serial)\/(h∉Sh.lv x.S/\(ob y.S h).Serial=x.S.Serial+1)
 s1:x.S.Serial<=y.S.Serial
 s2:y.S.Serial<=x.S.Serial+1
theorem Ev.refl(x:Hp):Ev x x:=⟨λh hh=>.inl ⟨hh,rfl⟩,by omega,by omega⟩
theorem Ks.ev{x y:Hp}(k:Ks x.S y.S):Ev x y:=⟨λh hh=>by
 rw[k.lv] at hh;exact .inl ⟨hh,k.ob h hh⟩,by rw[k.aW];omega,by rw[k.aW];omega⟩
theorem Ev.ks{x y z:Hp}(e:Ev x y)(k:Ks y.S z.S):Ev x z:=⟨λh hh=>by
 rw[k.lv] at hh;rw[k.ob h hh];exact e.lv h hh,by rw[k.aW];exact e.s1,by rw[k.aW];exact e.s2⟩
theorem Ev.Yt{x y z:Hp}(e:Ev x y)(s:DI y z):Ev x z:=⟨λh hh=>by
 rw[(s.ob h hh).1];exact e.lv h (s.lv h hh),by rw[s.aW];exact e.s1,by rw[s.aW];exact e.s2⟩
theorem Wr{x:Hp}(hx:J8 x){i:Nat}(hi:i<x.S.S.b7.length)(h0:(ce x.S i).State=0){n:Nat}(hn:n<=4){p:Int}(hp : -1<=p/\p<=5):Ev x (wS x (dm x.S i n p)):=⟨λh hh=>by
 have hR:=hx.sh.sr;have hh':h∈lv (dm x.S i n p):=hh;show (_/\(ob (dm x.S i n p) h).Serial=_)\/_/\(ob (dm x.S i n p) h).Serial=_;rw[Bw hR hi h0 hn hp] at hh';rcases zu.1 hh' with q | q
 .exact .inl ⟨q,by rw[Bx hR hi h0 hn hp q]⟩
 .rw[zp.1 q];exact .inr ⟨Nc hR hi h0 hn hp,by rw[uY hR hi h0 hn hp]⟩,by show _<=x.S.Serial+1;omega,zaf _⟩
def Cw(x y:Hp)(w:Int):Prop:=∀i:Nat,(i:Int)≠w->(y.b7.getD i cz).Target=(x.b7.getD i cz).Target/\((y.b7.getD i cz).Intact=true->(x.b7.getD i cz).Intact=true)
theorem Cw.refl(x:Hp)(w:Int):Cw x x w:=λi _=>⟨rfl,id⟩
theorem Cw.same{x y:Hp}(h:y.b7=x.b7)(w:Int):Cw x y w:=λi _=>by rw[h];exact⟨rfl,id⟩
theorem Cw.trans{x y z:Hp}{w:Int}(a:Cw x y w)(b:Cw y z w):Cw x z w:=λi hi=>⟨(b i hi).1.trans (a i hi).1,λq=>(a i hi).2 ((b i hi).2 q)⟩
theorem DI.cw{x y:Hp}(s:DI x y)(w:Int):Cw x y w:=λi _=>by
 by_cases h:i<x.b7.length
 .have h':i<y.b7.length:=by rw[s.cn];exact h
  rw[Ie h,Ie h',s.cl i h' h];exact⟨rfl,λq=>(zy _ _▸q).1⟩
 .have h':¬i<y.b7.length:=by rw[s.cn];exact h
  rw[zd,zd,pi (by omega),pi (by omega)];exact⟨rfl,id⟩
theorem Cw.set{x y:Hp}{w:Nat}{c:k7}(h:y.b7=x.b7.set w c):Cw x y w:=λi hi=>by
 rw[h,zd,zd,List.getElem?_set_ne (by omega)];exact⟨rfl,id⟩
def VC(s:b6)(i:Nat):Prop:=i<s.S.b7.length/\(ce s i).State=0/\∀j,j<i->(ce s j).State≠0
theorem MW{s:b6}(hR:SR s)(hb:s.Serial<9223372036854775807)(a p:Int) :
  (¬(0<=a/\a<=4)/\W9 s a p=some (s,0,1)) \/
  ((0<=a/\a<=4)/\¬(-1<=p/\p<=5)/\W9 s a p=some (s,0,13)) \/
  ((0<=a/\a<=4)/\(-1<=p/\p<=5)/\(∀i,i<s.S.b7.length->(ce s i).State≠0)/\W9 s a p=some (s,0,4)) \/
  ((0<=a/\a<=4)/\(-1<=p/\p<=5)/\∃i,VC s i/\W9 s a p=some (dm s i a.toNat p,bX s i,0)):=by
 have hs':=hR.aW;have hR':=A0.2 hR;unfold W9 qm;by_cases ha:0<=a/\a<=4
 .right;obtain⟨ha1,ha2⟩:=ha;obtain⟨n,rfl⟩:∃n:Nat,a=n:=⟨a.toNat,by omega⟩;rw[za (by simp;omega),kB (by omega) (by omega)];simp only[Yy];by_cases hp : -1<=p/\p<=5
  .right;unfold V7;simp only[Yy];have e1:(decide (p >= -1)&&decide (p<6))=true:=by simp;omega
   rw[e1];have hl:Yd s.S:=⟨pn hR',hR'.l0,hR'.l9,λi hi=>De hR' i hi⟩;rcases Dq hl ⟨s.Serial+1,0,0,p,false,List.replicate n 0⟩ with ⟨i,hi,h0,hf,e⟩ | ⟨hf,e⟩
   .right;refine⟨⟨ha1,ha2⟩,hp,i,⟨hi,by rw[O4 hi];exact h0,λj hj=>by rw[O4 (by omega)];exact hf j hj⟩,?_⟩;simp only[zb9,zD,qr,zcc];rw[show u7 (s.Serial+1)=s.Serial+1 from P1 (by omega) (by omega),e];unfold dm bX;rw[O4 hi];simp
   .left;refine⟨⟨ha1,ha2⟩,hp,λi hi=>by rw[O4 hi];exact hf i hi,?_⟩;simp only[zb9,zD,qr,zcc];rw[show u7 (s.Serial+1)=s.Serial+1 from P1 (by omega) (by omega),e];simp
  .left;refine⟨⟨ha1,ha2⟩,hp,?_⟩;unfold V7;simp only[Yy];have e1:(decide (p >= -1)&&decide (p<6))=false:=by rw[zbj];simp;omega
   rw[e1];simp
 .left;refine⟨ha,?_⟩;rw[zb (by simp;omega)];simp
def sd(x:Hp)(r:Int):Int:=if r<0 then 0 else x.Roots.getD r.toNat 0
def Aq(x:Hp)(r:Int):Int × Int:=if sd x r=0 then (0,2) else (sd x r,0)
def aW(x:Hp)(h:Int):Int:=(ob x.S h).Serial
theorem Bk{n l m e:Int}(he:e≠0)(h:P2 n l m e=0):l<=n/\n<=m:=by
 unfold P2 at h;split at h;·exact absurd h he
 .omega
theorem Gt{a b c:Int}(h:cE a b c=0):a=0/\b=0/\c=0:=by
 unfold cE at h;split at h;·contradiction
 .split at h;·contradiction
  .omega
theorem tg{k a b c:Int}(h:y4 k a b c=0):1<=k/\k<=12:=by
 refine Decidable.byContradiction λq=>?_;have:y4 k a b c=14:=by
  unfold y4;repeat rw[za (by omega)]
 omega
theorem Tc{a b c:Int}(h:y4 1 a b c=0):(0<=a/\a<=5)/\(0<=b/\b<=4) /\ -1<=c/\c<=5:=by
 obtain⟨h1,h2,h3⟩:=Gt (show cE (P2 a 0 5 6) (P2 b 0 4 1) (P2 c (-1) 5 13)=0 from h);exact⟨Bk (by decide) h1,Bk (by decide) h2,Bk (by decide) h3⟩
theorem LN{a b c:Int}(h:y4 2 a b c=0):(0<=a/\a<=5)/\(0<=b/\b<=5):=by
 obtain⟨h1,h2,_⟩:=Gt (show cE (P2 a 0 5 6) (P2 b 0 5 6) 0=0 from h);exact⟨Bk (by decide) h1,Bk (by decide) h2⟩
theorem VI{a b c:Int}(h:y4 3 a b c=0):0<=a/\a<=5:=Bk (by decide) (show P2 a 0 5 6=0 from h)
theorem Td{a b c:Int}(h:y4 4 a b c=0):(0<=a/\a<=5)/\(0<=b/\b<=5)/\0<=c/\c<=3:=by
 obtain⟨h1,h2,h3⟩:=Gt (show cE (P2 a 0 5 6) (P2 b 0 5 6) (P2 c 0 3 5)=0 from h);exact⟨Bk (by decide) h1,Bk (by decide) h2,Bk (by decide) h3⟩
theorem Te{a b c:Int}(h:y4 5 a b c=0):(0<=a/\a<=5)/\(0<=b/\b<=3) /\ -1<=c/\c<=5:=by
 obtain⟨h1,h2,h3⟩:=Gt (show cE (P2 a 0 5 6) (P2 b 0 3 5) (P2 c (-1) 5 6)=0 from h);exact⟨Bk (by decide) h1,Bk (by decide) h2,Bk (by decide) h3⟩
theorem PL{a b c:Int}(h:y4 6 a b c=0):(0<=a/\a<=5)/\(-1<=b/\b<=5) /\ -1<=c/\c<=5:=by
 obtain⟨h1,h2,h3⟩:=Gt (show cE (P2 a 0 5 7) (P2 b (-1) 5 6) (P2 c (-1) 5 13)=0 from h);exact⟨Bk (by decide) h1,Bk (by decide) h2,Bk (by decide) h3⟩
theorem Tf{a b c:Int}(h:y4 7 a b c=0):(0<=a/\a<=5)/\(0<=b/\b<=5):=by
 obtain⟨h1,h2,_⟩:=Gt (show cE (P2 a 0 5 6) (P2 b 0 5 7) 0=0 from h);exact⟨Bk (by decide) h1,Bk (by decide) h2⟩
theorem Tg{a b c:Int}(h:y4 8 a b c=0):(0<=a/\a<=5)/\(-1<=b/\b<=5):=by
 obtain⟨h1,h2,_⟩:=Gt (show cE (P2 a 0 5 6) (P2 b (-1) 5 6) 0=0 from h);exact⟨Bk (by decide) h1,Bk (by decide) h2⟩
theorem Ti{a b c:Int}(h:y4 9 a b c=0):(0<=a/\a<=5)/\(0<=b/\b<=5):=LN (show y4 2 a b c=0 from h)
theorem RY{a b c:Int}(h:y4 10 a b c=0):(0<=a/\a<=5)/\(0<=b/\b<=5):=LN (show y4 2 a b c=0 from h)
section
variable{x:Hp}(hx:kc x)
include hx
theorem Sz{r:Int}(h:0<=r/\r<=5):ix x.Roots r=some (sd x r):=by
 have:=hx.r6;obtain⟨n,rfl⟩:∃n:Nat,r=n:=⟨r.toNat,by omega⟩;have hn:n<x.Roots.length:=by omega
 rw[s7 hn];unfold sd;rw[za (by omega),zP,zd,zc hn];rfl
theorem Hb{r:Int}(h:¬(0<=r/\r<=5)):sd x r=0:=by
 have:=hx.r6;unfold sd;split;·rfl
 .rw[zd,pi (by omega)];rfl
theorem dX(r:Int):sd x r=0\/sd x r∈lv x.S:=by
 by_cases h:0<=r/\r<=5
 .have e:=Sz hx h;unfold ix at e;rw[zb h.1] at e;exact hx.rt _ (zj e)
 .exact .inl (Hb hx h)
theorem jP(r:Int):sd x r<=9223372036854775807:=by
 rcases dX hx r with h | h
 .omega
 .have:=H4 hx.sr h;omega
theorem nv(r:Int):O0 x r=some (sd x r):=by
 have h6:=hx.r6;unfold O0;by_cases h:0<=r/\r<=5
 .rw[za (by simp;omega),Sz hx h];rfl
 .rw[zb (by simp;omega),Hb hx h]
theorem jh(r:Int):O5 x r=some (Aq x r):=by
 unfold O5 Aq;rw[nv hx,Yy];by_cases h:sd x r=0
 .rw[zb (by simpa using h),zb h]
 .rw[za (by simpa using h),za h]
theorem UY{h:Int}(hh:h<=9223372036854775807):eT x h=some (aW x h):=by
 obtain⟨e,h1,_⟩:=iq (A0.2 hx.sr) hh;unfold eT;rw[h1];rfl
theorem HH(r:Int):dF x r=some (aW x (sd x r)):=by
 unfold dF;rw[nv hx,Yy,UY hx (jP hx r)];rfl
theorem EZ:aW x 0=0:=by
 unfold aW;rw[vI (A0.2 hx.sr) (by omega) (eQ hx.sr)]
end
theorem UZ{x z:Hp}(hx:kc x)(k:Ks x.S z.S){h:Int}(hh:h=0\/h∈lv x.S):aW z h=aW x h:=by
 rcases hh with e | e
 .subst e;unfold aW;rw[vI (A0.2 hx.sr) (by omega) (eQ hx.sr),vI (A0.2 k.sr) (by omega) (eQ k.sr)]
 .exact k.ob h e
theorem Rt{x z:Hp}(h:z.Roots=x.Roots)(r:Int):sd z r=sd x r:=by unfold sd;rw[h]
noncomputable def AD(x:Hp)(o:g7)(v:Hp × Int):Option (Hp × Int × Int):=
 if (v.2 != 0) then some (x,0,v.2) else (R2 v.1).bind λv5=>(Z0 v.1 v5 o).bind λv6=>some (v5,v6,0)
theorem qF{x:Hp}{o:g7}{n:Option Nat}(hc:y4 o.Kind o.A o.B o.C=0)(hk:∃l,gC=some l/\y9 l o.Kind=some n):u4 x o=(wZ n ⟨x,o⟩).bind (AD x o):=by
 obtain⟨l,h1,h2⟩:=hk;unfold u4;rw[oA,hc,Yy,za (by simp),h1,Yy,h2,za (by simp)];rfl
theorem LW{x:Hp}{o:g7}(hc:y4 o.Kind o.A o.B o.C≠0):u4 x o=some (x,0,y4 o.Kind o.A o.B o.C)/\True:=by
 constructor
 .unfold u4;rw[oA,Yy,zb (by simpa using hc)]
 .trivial
section
variable{x:Hp}{a b c:Int}
theorem Xz(hc:y4 1 a b c=0):u4 x ⟨1,a,b,c⟩=(X9 ⟨x,⟨1,a,b,c⟩⟩).bind (AD x ⟨1,a,b,c⟩):=qF (o:=⟨1,a,b,c⟩) (n:=some 203) hc ⟨_,rfl,rfl⟩
theorem XA(hc:y4 2 a b c=0):u4 x ⟨2,a,b,c⟩=(K9 ⟨x,⟨2,a,b,c⟩⟩).bind (AD x ⟨2,a,b,c⟩):=qF (o:=⟨2,a,b,c⟩) (n:=some 204) hc ⟨_,rfl,rfl⟩
theorem XB(hc:y4 3 a b c=0):u4 x ⟨3,a,b,c⟩=(br ⟨x,⟨3,a,b,c⟩⟩).bind (AD x ⟨3,a,b,c⟩):=qF (o:=⟨3,a,b,c⟩) (n:=some 205) hc ⟨_,rfl,rfl⟩
theorem XC(hc:y4 4 a b c=0):u4 x ⟨4,a,b,c⟩=(bt ⟨x,⟨4,a,b,c⟩⟩).bind (AD x ⟨4,a,b,c⟩):=qF (o:=⟨4,a,b,c⟩) (n:=some 206) hc ⟨_,rfl,rfl⟩
theorem XD(hc:y4 5 a b c=0):u4 x ⟨5,a,b,c⟩=(ax ⟨x,⟨5,a,b,c⟩⟩).bind (AD x ⟨5,a,b,c⟩):=qF (o:=⟨5,a,b,c⟩) (n:=some 207) hc ⟨_,rfl,rfl⟩
theorem Tp(hc:y4 6 a b c=0):u4 x ⟨6,a,b,c⟩=(L4 ⟨x,⟨6,a,b,c⟩⟩).bind (AD x ⟨6,a,b,c⟩):=qF (o:=⟨6,a,b,c⟩) (n:=some 208) hc ⟨_,rfl,rfl⟩
theorem XE(hc:y4 7 a b c=0):u4 x ⟨7,a,b,c⟩=(aK ⟨x,⟨7,a,b,c⟩⟩).bind (AD x ⟨7,a,b,c⟩):=qF (o:=⟨7,a,b,c⟩) (n:=some 209) hc ⟨_,rfl,rfl⟩
theorem XF(hc:y4 8 a b c=0):u4 x ⟨8,a,b,c⟩=(bu ⟨x,⟨8,a,b,c⟩⟩).bind (AD x ⟨8,a,b,c⟩):=qF (o:=⟨8,a,b,c⟩) (n:=some 210) hc ⟨_,rfl,rfl⟩
theorem XG(hc:y4 9 a b c=0):u4 x ⟨9,a,b,c⟩=(cd ⟨x,⟨9,a,b,c⟩⟩).bind (AD x ⟨9,a,b,c⟩):=qF (o:=⟨9,a,b,c⟩) (n:=some 211) hc ⟨_,rfl,rfl⟩
theorem VO(hc:y4 10 a b c=0):u4 x ⟨10,a,b,c⟩=(S9 ⟨x,⟨10,a,b,c⟩⟩).bind (AD x ⟨10,a,b,c⟩):=qF (o:=⟨10,a,b,c⟩) (n:=some 212) hc ⟨_,rfl,rfl⟩
theorem Cc{k:Int}(hk:k=11\/k=12)(hc:y4 k a b c=0):u4 x ⟨k,a,b,c⟩=some (x,0,14)/\True:=by
 constructor
 .unfold u4;rw[oA,hc,Yy,za (by simp)];rcases hk with rfl | rfl <;> rfl
 .trivial
variable{y:lV}
end
section
variable{s:b6}(hR:SR s){i:Nat}(hi:i<s.S.b7.length)
include hR hi
end
theorem Wp{s:b6}(hR:SR s)(hb:s.Serial<9223372036854775807)(a p:Int) :
  (∃e,e≠0/\W9 s a p=some (s,0,e)/\True) \/
  ((0<=a/\a<=4)/\(-1<=p/\p<=5)/\∃i,VC s i/\W9 s a p=some (dm s i a.toNat p,bX s i,0)/\True):=by
 rcases MW hR hb a p with ⟨h1,e⟩ | ⟨h1,h2,e⟩ | ⟨h1,h2,h3,e⟩ | ⟨h1,h2,i,h3,e⟩;·exact .inl ⟨1,by decide,e,trivial⟩
 .exact .inl ⟨13,by decide,e,trivial⟩
 .exact .inl ⟨4,by decide,e,trivial⟩
 .exact .inr ⟨h1,h2,i,h3,e,trivial⟩
abbrev Yq(o:g7):fu:=⟨o.Kind,o.A,o.B,o.C⟩
structure Dn (x:Hp) (o:g7) (z:Hp) (v:Int):Prop where
 rt:J8 z
 sl:SL z
 ev:Ev x z
 cw:Cw x z (if o.Kind=6 then o.A else -1)
 mc:u4 x o=some (bz z,v,0)
 rf:True
def Er(x:Hp)(o:g7)(e:Int):Prop:=e≠0/\u4 x o=some (x,0,e)/\True
theorem Ws{x:Hp}(hx:J8 x)(hS:SL x){i:Nat}(hi:i<x.S.S.b7.length)(h0:(ce x.S i).State=0){n:Nat}(hn:n<=4){p:Int}(hp : -1<=p/\p<=5):SL (wS x (dm x.S i n p)):=λk hk=>by
 have hR:=hx.sh.sr;have hk':k∈lv (dm x.S i n p):=hk;show (ob (dm x.S i n p) k).Strong<=_;rw[Bw hR hi h0 hn hp] at hk';rcases zu.1 hk' with q | q
 .rw[Bx hR hi h0 hn hp q];exact hS k q
 .rw[zp.1 q,uY hR hi h0 hn hp];show (0:Int)<=_;decide
theorem vn{y:Hp}(hy:J8 y){a:Int}(ha:0<=a/\a<=5){h:Int}(hh:h=0\/h∈lv y.S):sd (bz (G0 y a.toNat h)) a=h/\aW (bz (G0 y a.toNat h)) h=aW y h:=by
 have hz:=bO hy (r:=a.toNat) (by omega) hh;have st:=ma hz;have w:=nx hz;have e1:(bz (G0 y a.toNat h)).Roots=y.Roots.set a.toNat h:=st.rt.trans (jM y a.toNat h).1;have h6:=hy.sh.r6;have e2:sd (bz (G0 y a.toNat h)) a=h:=by
  unfold sd;rw[za (by omega),e1,zd,List.getElem?_set_self (by omega)];rfl
 refine⟨e2,?_⟩;have k:=dc hy.sh.sr a.toNat h;rcases dX w.sh a with q | q
 .rw[e2] at q;subst q;rw[EZ w.sh,EZ hy.sh]
 .rw[e2] at q;have h1:=(st.ob h q).1;have h2:=st.lv h q;rw[k.lv] at h2;exact h1.trans (k.ob h h2)
section
variable{x:Hp}{a b c:Int}
theorem kl{o:g7}{y:Hp}{e:Int}(he:e≠0):AD x o (y,e)=some (x,0,e):=by
 unfold AD;rw[zb (by simpa using he)]
theorem Sa{z:Hp}(hz:J8 z)(hS:SL z){k:Int}(hk:k≠5/\k≠6/\k≠8/\k≠10):AD x ⟨k,a,b,c⟩ (z,0)=some (bz z,aW (bz z) (sd (bz z) a),0):=by
 unfold AD Z0;rw[za (by simp),jk hz hS,Yy];simp only[jn];rw[za (by simp;omega),za (by simp;omega)];have:(k==8)=false:=by simp;omega
 rw[this,za (by simp),za (by simp;omega),HH (nx hz).sh];rfl
theorem Hg{o:g7}{v e:Int}(he:e≠0):B9 ⟨x,o⟩ v e=some (x,e):=by
 unfold B9;rw[zb (by simpa using he)]
variable(hx:J8 x)(hS:SL x)
include hx hS
theorem qj{k:Int}(ha:0<=a/\a<=5){h:Int}(hh:h=0\/h∈lv x.S):B9 ⟨x,⟨k,a,b,c⟩⟩ h 0=some (G0 x a.toNat h,0):=by
 unfold B9;rw[za (by simp),Jf hx hS a (tt hx hS hh),za (by omega),zb hh];rfl
theorem mf{k:Int}(hk:k=2\/k=3\/k=4\/k=7\/k=9)(hc:y4 k a b c=0)(ha:0<=a/\a<=5){h:Int}(hh:h=0\/h∈lv x.S)
  (h1:u4 x ⟨k,a,b,c⟩=AD x ⟨k,a,b,c⟩ (G0 x a.toNat h,0))(h2:True):Dn x ⟨k,a,b,c⟩ (G0 x a.toNat h) (aW x h):=by
 have hz:=bO hx (r:=a.toNat) (by omega) hh;have zS:=pk hx.sh.sr hS a.toNat h;obtain⟨e1,e2⟩:=vn hx ha hh;refine⟨hz,zS,(dc hx.sh.sr a.toNat h).ev,Cw.same (jM x a.toNat h).2.1 _,?_,?_⟩;·rw[h1,Sa hz zS (by omega),e1,e2]
 .trivial
theorem d2(hc:y4 2 a b c=0):Dn x ⟨2,a,b,c⟩ (G0 x a.toNat (sd x b)) (aW x (sd x b)):=by
 obtain⟨ha,hb⟩:=LN hc;refine mf hx hS (.inl rfl) hc ha (dX hx.sh b) ?_ ?_
 .rw[XA hc];unfold K9;rw[nv hx.sh,Yy,qj hx hS ha (dX hx.sh b)];rfl
 .trivial
theorem d3(hc:y4 3 a b c=0):Dn x ⟨3,a,b,c⟩ (G0 x a.toNat 0) 0:=by
 have ha:=VI hc;have:=mf (b:=b) (c:=c) hx hS (.inr (.inl rfl)) hc ha (h:=0) (.inl rfl) ?_ ?_;·rwa [EZ hx.sh] at this
 .rw[XB hc];unfold br;rw[qj hx hS ha (.inl rfl)];rfl
 .trivial
theorem d4(hc:y4 4 a b c=0):(sd x b=0/\Er x ⟨4,a,b,c⟩ 2)\/(∃e,J4 x.S (sd x b) c=some (0,e)/\Er x ⟨4,a,b,c⟩ e) \/
  (sd x b∈lv x.S/\∃n:Nat,c=n/\∃hn:n<(ob x.S (sd x b)).Fields.length,Dn x ⟨4,a,b,c⟩ (G0 x a.toNat (ob x.S (sd x b)).Fields[n]) (aW x (ob x.S (sd x b)).Fields[n])):=by
 obtain⟨ha,hb,_⟩:=Td hc;have hm:u4 x ⟨4,a,b,c⟩=_:=XC hc;unfold bt at hm;rw[jh hx.sh,Yy] at hm;by_cases h0:sd x b=0
 .refine .inl ⟨h0,by decide,?_,?_⟩
  .rw[hm];unfold Aq;rw[zb h0,zb (by simp),Yy,kl (by decide)]
  .trivial
 .have has:Aq x b=(sd x b,0):=by unfold Aq;rw[za h0]
  rw[has,za (by simp)] at hm;right;rcases vF hx hS (sd x b) c (jP hx.sh b) with ⟨e,he,f1,f2⟩ | ⟨hl,n,hn0,hn,f1,f2⟩
  .refine .inl ⟨e,f1,he,?_,?_⟩
   .rw[hm];dsimp only;rw[f1,Yy,Hg he,Yy,Yy,kl he]
   .trivial
  .refine .inr ⟨hl,n,hn0,hn,?_⟩;have hv:=hx.sh.fl _ hl _ (zh hn);refine mf hx hS (by omega) hc ha hv ?_ ?_
   .rw[hm];dsimp only;rw[f1,Yy,qj hx hS ha hv];rfl
   .trivial
theorem Qq{n:Nat}(hn:n<6):∃h:n<x.b7.length,cD x.b7 n=some (if x.b7[n].Target=0\/x.b7[n].Intact=false then (0,9) else (x.b7[n].Target,0))/\True:=by
 have c6:=hx.sh.c6;have hl:n<x.b7.length:=by omega
 refine⟨hl,?_,?_⟩
 .unfold cD jT;have:(decide ((n:Int)>=0)&&decide ((n:Int)<(x.b7.length:Int)))=true:=by simp;omega
  rw[this,Yy,za (by simp),s7 hl,Yy];by_cases q:x.b7[n].Target=0\/x.b7[n].Intact=false
  .rw[zb q,zb (by rcases q with q | q <;> simp[q])]
  .rw[za q,za (by simpa using q)]
 .trivial
theorem d7(hc:y4 7 a b c=0):∃h:b.toNat<x.b7.length,((x.b7[b.toNat].Intact=false/\Er x ⟨7,a,b,c⟩ 9) \/
  (x.b7[b.toNat].Intact=true/\Dn x ⟨7,a,b,c⟩ (G0 x a.toNat x.b7[b.toNat].Target) (aW x x.b7[b.toNat].Target))):=by
 obtain⟨ha,hb⟩:=Tf hc;obtain⟨n,rfl⟩:∃n:Nat,b=n:=⟨b.toNat,by omega⟩;obtain⟨hl,l1,l2⟩:=Qq hx hS (n:=n) (by omega);rw[zP];refine⟨hl,?_⟩;have hm:u4 x ⟨7,a,n,c⟩=_:=XE hc;unfold aK at hm;rw[show cD (r7.mk x ⟨7,a,n,c⟩).x.b7 (r7.mk x ⟨7,a,n,c⟩).o.B=_ from l1,Yy] at hm;have cl:=hx.sh.cl n hl;cases hI:x.b7[n].Intact
 .left;rw[zb (.inr hI)] at hm;refine⟨rfl,by decide,?_,?_⟩
  .rw[hm];dsimp only;rw[Hg (by decide),Yy,Yy];exact kl (e:=9) (by decide)
  .trivial
 .right;have ht:=(cl.2.2.2.2 hI).1;have ht0:x.b7[n].Target≠0:=λe=>eQ hx.sh.sr (e▸ht);rw[za (by simp[ht0,hI])] at hm;refine⟨rfl,mf hx hS (by omega) hc ha (.inr ht) ?_ trivial⟩;rw[hm];dsimp only;rw[qj hx hS ha (.inr ht)];rfl
theorem d9(hc:y4 9 a b c=0):(sd x b=0/\Er x ⟨9,a,b,c⟩ 2)\/(sd x b∈lv x.S/\(∀v,¬Has x.T (sd x b) v)/\Er x ⟨9,a,b,c⟩ 9) \/
  (sd x b∈lv x.S/\∃v,Has x.T (sd x b) v/\Dn x ⟨9,a,b,c⟩ (G0 x a.toNat v) (aW x v)):=by
 obtain⟨ha,hb⟩:=Ti hc;have hT:=hx.sh.hr;have hm:u4 x ⟨9,a,b,c⟩=_:=XG hc;unfold cd at hm;rw[jh hx.sh,Yy] at hm;by_cases h0:sd x b=0
 .refine .inl ⟨h0,by decide,?_,?_⟩
  .rw[hm];unfold Aq;rw[zb h0,zb (by simp),Yy,kl (by decide)]
  .trivial
 .have has:Aq x b=(sd x b,0):=by unfold Aq;rw[za h0]
  have hl:=(dX hx.sh b).resolve_left h0;rw[has,za (by simp)] at hm;dsimp only at hm;unfold uH at hm;right;by_cases hv:∃v,Has x.T (sd x b) v
  .obtain⟨v,hv⟩:=hv;rw[Ig hT hv] at hm;refine .inr ⟨hl,v,hv,mf hx hS (by omega) hc ha (.inr (hx.sh.pr _ _ hv).2) ?_ trivial⟩;rw[hm,Yy,Yy];dsimp only;rw[qj hx hS ha (.inr (hx.sh.pr _ _ hv).2)];rfl
  .have hv':∀v,¬Has x.T (sd x b) v:=λv q=>hv ⟨v,q⟩;rw[Kg hT hv'] at hm;refine .inl ⟨hl,hv',by decide,?_,?_⟩
   .rw[hm,Yy,Yy];dsimp only;rw[Hg (by decide),Yy,Yy];exact kl (e:=9) (by decide)
   .trivial
end
section
variable{x:Hp}{a b c:Int}
theorem RZ{z:Hp}(hz:J8 z)(hS:SL z){k:Int}{r:Int}(hk:k=5/\r=c\/(k=6\/k=8)/\r=b):AD x ⟨k,a,b,c⟩ (z,0)=some (bz z,aW z (sd z r),0):=by
 unfold AD Z0;rw[za (by simp),jk hz hS,Yy];simp only[jn];rcases hk with ⟨rfl,rfl⟩ | ⟨rfl | rfl,rfl⟩
 .rw[zb (by rfl),HH hz.sh];rfl
 .rw[za (by decide),zb (by rfl),zb (by rfl),HH hz.sh];rfl
 .rw[za (by decide),za (by decide),zb (by rfl),HH hz.sh];rfl
variable(hx:J8 x)(hS:SL x)
include hx hS
theorem rF{z:Hp}(hz:J8 z)(zS:SL z)(k:Ks x.S z.S)(er:z.Roots=x.Roots){kd r:Int}(hk:kd=5/\r=c\/(kd=6\/kd=8)/\r=b)(hc:y4 kd a b c=0)(cw:Cw x z (if kd=6 then a else -1))
  (h1:u4 x ⟨kd,a,b,c⟩=AD x ⟨kd,a,b,c⟩ (z,0))(h2:True):Dn x ⟨kd,a,b,c⟩ z (aW x (sd x r)):=by
 refine⟨hz,zS,k.ev,cw,?_,?_⟩;·rw[h1,RZ hz zS hk,Rt er,UZ hx.sh k (dX hx.sh r)]
 .trivial
theorem d5(hc:y4 5 a b c=0):(sd x a=0/\Er x ⟨5,a,b,c⟩ 2)\/(∃e,au x (sd x a) b (sd x c)=some (x,e)/\Er x ⟨5,a,b,c⟩ e) \/
  (sd x a∈lv x.S/\∃n:Nat,b=n/\n<(ob x.S (sd x a)).Fields.length/\Dn x ⟨5,a,b,c⟩ (bF x (sd x a) n (sd x c)) (aW x (sd x c))):=by
 obtain⟨ha,hb,hcc⟩:=Te hc;have hm:u4 x ⟨5,a,b,c⟩=_:=XD hc;unfold ax at hm;rw[jh hx.sh,Yy] at hm;by_cases h0:sd x a=0
 .have has:Aq x a=(0,2):=by unfold Aq;rw[zb h0]
  rw[has,zb (by simp)] at hm;refine .inl ⟨h0,by decide,?_,?_⟩
  .rw[hm,Yy];exact kl (e:=2) (by decide)
  .trivial
 .have has:Aq x a=(sd x a,0):=by unfold Aq;rw[za h0]
  rw[has,za (by simp)] at hm;dsimp only at hm;rw[nv hx.sh,Yy] at hm;right;rcases xJ hx hS (sd x a) b (sd x c) (jP hx.sh a) (jP hx.sh c) with ⟨e,he,f1,f2⟩ | ⟨hl,hv,n,hn0,hn,f1,f2⟩
  .refine .inl ⟨e,f1,he,?_,?_⟩;·rw[hm,f1,Yy,Yy,kl he]
   .trivial
  .refine .inr ⟨hl,n,hn0,hn,rF hx hS (Ci hx hl hn hv) (JZ hx.sh.sr hS hl _ _) (Bc hx.sh.sr hl hn _) (oJ _ _ _ _).1 (.inl ⟨rfl,rfl⟩) hc (Cw.same (oJ _ _ _ _).2.1 _) ?_ ?_⟩
   .rw[hm,f1];rfl
   .trivial
theorem d6(hc:y4 6 a b c=0):(sd x b=0/\Er x ⟨6,a,b,c⟩ 2)\/(∃e,R4 x a (sd x b) c=some (x,e)/\Er x ⟨6,a,b,c⟩ e) \/
  (vZ x.Q a=false/\Dn x ⟨6,a,b,c⟩ (cH x a.toNat (sd x b) c) (aW x (sd x b))):=by
 obtain⟨ha,hb,hcc⟩:=PL hc;have hm:u4 x ⟨6,a,b,c⟩=_:=Tp hc;unfold L4 at hm;have key:(u4 x ⟨6,a,b,c⟩=(((R4 x a (sd x b) c).bind λv1=>some (v1.1,v1.2)).bind (AD x ⟨6,a,b,c⟩))/\True)\/(sd x b=0/\Er x ⟨6,a,b,c⟩ 2):=by
  by_cases h1:b = -1
  .subst h1;left;rw[Hb hx.sh (r:=-1) (by omega)];refine⟨?_,trivial⟩;rw[hm,zb (by rfl)]
  .rw[za (by simpa using h1),jh hx.sh,Yy] at hm;by_cases h0:sd x b=0
   .have has:Aq x b=(0,2):=by unfold Aq;rw[zb h0]
    rw[has,zb (by simp)] at hm;refine .inr ⟨h0,by decide,?_,?_⟩
    .rw[hm,Yy];exact kl (e:=2) (by decide)
    .trivial
   .have has:Aq x b=(sd x b,0):=by unfold Aq;rw[za h0]
    rw[has,za (by simp)] at hm;exact .inl ⟨hm,trivial⟩
 rcases key with ⟨hm,hnm⟩ | key
 .right;rcases Dw hx a (sd x b) c (jP hx.sh b) hcc with ⟨e,he,f1,f2⟩ | ⟨hh,n,rfl,hn,hw,f1,f2⟩
  .refine .inl ⟨e,f1,he,?_,?_⟩;·rw[hm,f1,Yy,Yy,kl he]
   .trivial
  .rw[zP];obtain⟨r1,r2,_,_⟩:=Ai x n (sd x b) c;refine .inr ⟨hw,rF hx hS (vU hx hn hh hcc hw) (Fu hx hS hn _ _) (Ft hx hn _ _) r1 (.inr ⟨.inl rfl,rfl⟩) hc (by rw[zb rfl];exact Cw.set r2) ?_ ?_⟩
   .rw[hm,f1];rfl
   .trivial
 .exact .inl key
theorem d8(hc:y4 8 a b c=0):(sd x a=0/\Er x ⟨8,a,b,c⟩ 2)\/(sd x a∈lv x.S/\∃e,bY x (sd x a) (sd x b)=some (x,e)/\Er x ⟨8,a,b,c⟩ e) \/
  (sd x a∈lv x.S/\∃r,U4 x.T (sd x a) (sd x b)=some r/\r.2.2=0/\Dn x ⟨8,a,b,c⟩ (iJ x (sd x b) r.1 r.2.1) (aW x (sd x b))):=by
 obtain⟨ha,hb⟩:=Tg hc;have hm:u4 x ⟨8,a,b,c⟩=_:=XF hc;unfold bu at hm;rw[jh hx.sh,Yy] at hm;by_cases h0:sd x a=0
 .have has:Aq x a=(0,2):=by unfold Aq;rw[zb h0]
  rw[has,zb (by simp)] at hm;refine .inl ⟨h0,by decide,?_,?_⟩
  .rw[hm,Yy];exact kl (e:=2) (by decide)
  .trivial
 .have has:Aq x a=(sd x a,0):=by unfold Aq;rw[za h0]
  have hl:=(dX hx.sh a).resolve_left h0;rw[has,za (by simp)] at hm;dsimp only at hm;rw[nv hx.sh,Yy] at hm;right;rcases QW hx hS (sd x a) (sd x b) (jP hx.sh a) (jP hx.sh b) with ⟨e,he,f1,f2⟩ | ⟨hl,hv,r,r1,r2,f1,f2⟩
  .refine .inl ⟨hl,e,f1,he,?_,?_⟩;·rw[hm,f1,Yy,Yy,kl he]
   .trivial
  .refine .inr ⟨hl,r,r1,r2,rF hx hS (EI hx hl hv r1 r2) (ND hx.sh.sr hS _ _ _) (EH hx.sh.sr _ _ _) (rG _ _ _ _).1 (.inr ⟨.inr rfl,rfl⟩) hc (Cw.same (rG _ _ _ _).2.1 _) ?_ ?_⟩
   .rw[hm,f1];rfl
   .trivial
theorem d10(hz:zr x = [])(hc:y4 10 a b c=0):Dn x ⟨10,a,b,c⟩ x (if sd x a=sd x b then 1 else 0):=by
 obtain⟨ha,hb⟩:=RY hc;refine⟨hx,hS,Ev.refl x,Cw.refl x _,?_,?_⟩
 .rw[VO hc];unfold S9 AD Z0;rw[Yy,za (by simp),jk hx hS,Yy];simp only[jn];rw[za (by decide),za (by decide),za (by decide),zb (by rfl),nv hx.sh,Yy,nv hx.sh,Yy];by_cases q:sd x a=sd x b
  .rw[zb (by simpa using q),zb q];rfl
  .rw[za (by simpa using q),za q];rfl
 .trivial
theorem d1(hb:x.S.Serial<9223372036854775807)(hc:y4 1 a b c=0):(∃e,W9 x.S b c=some (x.S,0,e)/\Er x ⟨1,a,b,c⟩ e) \/
  (b.toNat<=4/\(-1<=c/\c<=5)/\∃i,VC x.S i/\Dn x ⟨1,a,b,c⟩ (G0 (wS x (dm x.S i b.toNat c)) a.toNat (bX x.S i)) (x.S.Serial+1)):=by
 obtain⟨ha,hbb,hcc⟩:=Tc hc;have hR:=hx.sh.sr;have hm:u4 x ⟨1,a,b,c⟩=_:=Xz hc;unfold X9 at hm;dsimp only at hm;rcases Wp hR hb b c with ⟨e,he,f1,f2⟩ | ⟨_,_,i,hF,f1,f2⟩
 .refine .inl ⟨e,f1,he,?_,?_⟩;·rw[hm,f1,Yy,zb (by simpa using he),Yy,kl he]
  .trivial
 .refine .inr ⟨by omega,hcc,i,hF,?_⟩;obtain⟨hi,h0,_⟩:=hF;have hn:b.toNat<=4:=by omega
  have hy:=yq hx hi h0 hn hcc;have yS:=Ws hx hS hi h0 hn hcc;have hh:bX x.S i=0\/bX x.S i∈lv (wS x (dm x.S i b.toNat c)).S:=.inr (by
   show _∈lv (dm x.S i b.toNat c);rw[Bw hR hi h0 hn hcc];exact t7 _ (zp.2 rfl))
  have hz:=bO hy (r:=a.toNat) (by omega) hh;have zS:=pk hy.sh.sr yS a.toNat (bX x.S i);obtain⟨e1,e2⟩:=vn hy ha hh;have e3:aW (wS x (dm x.S i b.toNat c)) (bX x.S i)=x.S.Serial+1:=by
   show (ob (dm x.S i b.toNat c) (bX x.S i)).Serial=_;rw[uY hR hi h0 hn hcc]
  refine⟨hz,zS,(Wr hx hi h0 hn hcc).ks (dc hy.sh.sr a.toNat _),Cw.same (jM (wS x (dm x.S i b.toNat c)) a.toNat _).2.1 _,?_,?_⟩
  .rw[hm,f1,Yy,za (by simp)];dsimp only;rw[show B9 ⟨⟨dm x.S i b.toNat c,x.Roots,x.b7,x.T,x.Q⟩,⟨1,a,b,c⟩⟩ (bX x.S i) 0=_ from qj hy yS ha hh,Yy,Yy,Sa hz zS (by omega),e1,e2,e3]
  .trivial
end
theorem Tq{x:Hp}(hx:J8 x)(hS:SL x)(hz:zr x = [])(hb:x.S.Serial<9223372036854775807)(o:g7):(∃e,Er x o e)\/∃z v,Dn x o z v:=by
 obtain⟨k,a,b,c⟩:=o;by_cases hc:y4 k a b c=0
 .have:=tg hc;have hk:k=1\/k=2\/k=3\/k=4\/k=5\/k=6\/k=7\/k=8\/k=9\/k=10\/k=11\/k=12:=by omega
  rcases hk with rfl | rfl | rfl | rfl | rfl | rfl | rfl | rfl | rfl | rfl | rfl | rfl
  .rcases d1 hx hS hb hc with ⟨e,_,h⟩ | ⟨_,_,i,_,h⟩;·exact .inl ⟨e,h⟩
   .exact .inr ⟨_,_,h⟩
  .exact .inr ⟨_,_,d2 hx hS hc⟩
  .exact .inr ⟨_,_,d3 hx hS hc⟩
  .rcases d4 hx hS hc with ⟨_,h⟩ | ⟨e,_,h⟩ | ⟨_,n,_,_,h⟩;·exact .inl ⟨_,h⟩
   .exact .inl ⟨_,h⟩
   .exact .inr ⟨_,_,h⟩
  .rcases d5 hx hS hc with ⟨_,h⟩ | ⟨e,_,h⟩ | ⟨_,n,_,_,h⟩;·exact .inl ⟨_,h⟩
   .exact .inl ⟨_,h⟩
   .exact .inr ⟨_,_,h⟩
  .rcases d6 hx hS hc with ⟨_,h⟩ | ⟨e,_,h⟩ | ⟨_,h⟩;·exact .inl ⟨_,h⟩
   .exact .inl ⟨_,h⟩
   .exact .inr ⟨_,_,h⟩
  .obtain⟨_,⟨_,h⟩ | ⟨_,h⟩⟩:=d7 hx hS hc;·exact .inl ⟨_,h⟩
   .exact .inr ⟨_,_,h⟩
  .rcases d8 hx hS hc with ⟨_,h⟩ | ⟨_,e,_,h⟩ | ⟨_,r,_,_,h⟩;·exact .inl ⟨_,h⟩
   .exact .inl ⟨_,h⟩
   .exact .inr ⟨_,_,h⟩
  .rcases d9 hx hS hc with ⟨_,h⟩ | ⟨_,_,h⟩ | ⟨_,v,_,h⟩;·exact .inl ⟨_,h⟩
   .exact .inl ⟨_,h⟩
   .exact .inr ⟨_,_,h⟩
  .exact .inr ⟨_,_,d10 hx hS hz hc⟩
  .obtain⟨h1,h2⟩:=Cc (x:=x) (a:=a) (b:=b) (c:=c) (.inl rfl) hc;exact .inl ⟨14,by decide,h1,h2⟩
  .obtain⟨h1,h2⟩:=Cc (x:=x) (a:=a) (b:=b) (c:=c) (.inr rfl) hc;exact .inl ⟨14,by decide,h1,h2⟩
 .obtain⟨h1,h2⟩:=LW (x:=x) (o:=⟨k,a,b,c⟩) hc;exact .inl ⟨_,hc,h1,h2⟩
noncomputable def jd(x:Hp)(o:g7):Hp × Int × Int:=(u4 x o).getD (x,0,0)
structure Vr (x:Hp) (o:g7) (y:Hp) (v e:Int):Prop where
 rt:J8 y
 sl:SL y
 zr:zr y = []
 ev:Ev x y
 cw:Cw x y (if o.Kind=6 then o.A else -1)
 er:e≠0->y=x/\v=0
 mc:u4 x o=some (y,v,e)
 rf:True
theorem Dn.Yp{x z:Hp}{o:g7}{v:Int}(d:Dn x o z v):Vr x o (bz z) v 0:=by
 have st:=ma d.rt;exact⟨nx d.rt,Jk d.rt d.sl,BH d.rt,d.ev.Yt st,d.cw.trans (st.cw _),λh=>absurd rfl h,d.mc,d.rf⟩
theorem QF{x:Hp}(hx:J8 x)(hS:SL x)(hz:zr x = [])(hb:x.S.Serial<9223372036854775807)(o:g7):∃y v e,Vr x o y v e:=by
 rcases Tq hx hS hz hb o with ⟨e,h1,h2,h3⟩ | ⟨z,v,d⟩;·exact⟨x,0,e,hx,hS,hz,Ev.refl x,Cw.refl x _,λ_=>⟨rfl,rfl⟩,h2,h3⟩
 .exact⟨_,_,_,d.Yp⟩
theorem tL{x:Hp}(hx:J8 x)(hS:SL x)(hz:zr x = [])(hb:x.S.Serial<9223372036854775807)(o:g7):Vr x o (jd x o).1 (jd x o).2.1 (jd x o).2.2:=by
 obtain⟨y,v,e,h⟩:=QF hx hS hz hb o;have:jd x o=(y,v,e):=by unfold jd;rw[h.mc];rfl
 rw[this];exact h
noncomputable def runs(x:Hp)(l:List g7):Hp × List Int:=l.foldl (λp o=>((jd p.1 o).1,p.2 ++ [(jd p.1 o).2.1])) (x,[])
theorem qg(x:Hp)(l:List g7)(o:g7):runs x (l ++ [o])=((jd (runs x l).1 o).1,(runs x l).2 ++ [(jd (runs x l).1 o).2.1]):=by
 unfold runs;rw[zal];rfl
theorem yM{x:Hp}(hx:J8 x)(hS:SL x)(hz:zr x = [])(l:List g7)(hb:x.S.Serial+l.length<9223372036854775807)(P:Hp->Prop)(h0:P x)
  (hs:∀(y:Hp) (o:g7),o∈l->J8 y->Vr y o (jd y o).1 (jd y o).2.1 (jd y o).2.2->P y->P (jd y o).1):∀k,k<=l.length ->
  J8 (runs x (l.take k)).1/\SL (runs x (l.take k)).1/\zr (runs x (l.take k)).1 = []/\(runs x (l.take k)).1.S.Serial<=x.S.Serial+k/\(runs x (l.take k)).2.length=k/\P (runs x (l.take k)).1
 | 0,_=>⟨hx,hS,hz,by show x.S.Serial<=_;omega,rfl,h0⟩
 | k+1,hk=>by
  obtain⟨a1,a2,a3,a4,a5,a6⟩:=yM hx hS hz l hb P h0 hs k (by omega);have hk':k<l.length:=by omega
  have n:=tL a1 a2 a3 (by omega) l[k];rw[U5 hk',qg];exact⟨n.rt,n.sl,n.zr,by have:=n.ev.s2;show (jd _ _).1.S.Serial<=_;omega,by simp[a5],hs _ _ (zh hk') a1 n a6⟩
theorem run_eq{x:Hp}(hx:J8 x)(hS:SL x)(hz:zr x = [])(l:List g7)(hl:l.length<=1000)(hb:x.S.Serial+l.length<9223372036854775807) :
  gT x l=some (runs x l)/\True:=by
 have all:=yM hx hS hz l hb (λ_=>True) trivial (λ_ _ _ _ _ _=>trivial);constructor
 .unfold gT;simp only[jn];refine ca (T:=Hp × List Int) l.length (λk acc=>acc=runs x (l.take k)) (by omega) rfl (λk acc hk hP=>?_) (λacc hP=>?_)
  .subst hP;obtain⟨a1,a2,a3,a4,a5,_⟩:=all k (by omega);have n:=tL a1 a2 a3 (by omega) l[k];refine .inl ⟨_,?_,rfl⟩;rw[U5 hk,qg];show (if _ then _ else _)=_;rw[zb (by simpa using hk),s7 hk,Yy,n.mc,Yy,K5 (by omega) (by rw[a5];simp;omega),Yy,n9]
  .subst hP;refine⟨runs x (l.take l.length),?_,?_⟩
   .show (if _ then _ else _)=_;rw[za (by simp)]
   .rw[zR]
 .trivial
section
variable{x:Hp}(hB:HB x)
include hB
end
def pW(k:Nat)(l:Int)(p:Nat):Hp:=⟨⟨⟨List.replicate k ⟨0,0,z0⟩,l⟩,0⟩,List.replicate 6 0,List.replicate 6 ⟨0,false,-1⟩,List.replicate p ⟨0,0,0⟩,⟨[],30⟩⟩
theorem MC{k p:Nat}{l:Int}(hk:1<=k/\k<=24)(hl:0<=l/\l<=9)(hp:1<=p/\p<=8) :
  lD k l p=some (pW k l p)/\tR k l p=some (hO (pW k l p))/\J8 (pW k l p)/\SL (pW k l p)/\zr (pW k l p) = []:=by
 have e1:jm k l=some (pW k l p).S:=by
  unfold jm aB;rw[za (by simp;omega),kB (by omega) (by omega)];rfl
 obtain⟨a,h1,h2,h3,_⟩:=Wy k l;rw[e1] at h1;have ha:=zJ h1;subst ha;have hR:SR (pW k l p).S:=A0.1 h3;have hce:∀i,ce (pW k l p).S i=⟨0,0,z0⟩:=λi=>by
  unfold ce pW;dsimp only;rw[zd,List.getElem?_replicate];split <;> rfl
 have hlv:lv (pW k l p).S = []:=za7.2 λh hh=>by
  obtain⟨i,q⟩:=(gS hR).1 hh;have:=q.2.1;rw[hce] at this;cases this
 refine⟨?_,?_,⟨⟨hR,(Vk (V:=Int) (λ_ _=>True) hp.1 hp.2).1,rfl,rfl,rfl,zV _,(λt ht=>nomatch ht),List.Pairwise.nil,(λh hh=>.inl (zba.1 hh).2),λh hh=>?_,λa v hv=>?_,λi hi=>?_⟩,λi hi ht=>?_,λh hh=>?_⟩,λh hh=>?_,?_⟩
 .unfold lD;rw[za (by simp;omega),e1,Yy,show mk 8 6 (0:Int)=some (List.replicate 6 0) from rfl,Yy];refine rV (a:=List.replicate 6 ⟨0,false,-1⟩) (by kernel_rfl) ?_;rw[Ui hp.1 hp.2,Yy];refine rV (a:=⟨[],30⟩) (by kernel_rfl) ?_;rfl
 .unfold tR;rw[za (by simp;omega),h2,Yy,show mk 8 6 (0:Int)=some (List.replicate 6 0) from rfl,Yy];refine rV (a:=List.replicate 6 ⟨0,false,-1⟩) (by kernel_rfl) ?_;unfold IY;rw[za (by simp;omega),kB (by omega) (by omega),Yy,Yy];refine rV (a:=⟨[],30⟩) (by kernel_rfl) ?_;unfold hO pW;dsimp only;rw[zch,zch];rfl
 .rw[hlv] at hh;cases hh
 .obtain⟨i,hi,_⟩:=hv;have:=hi.2.1;rw[show (pW k l p).T=List.replicate p ⟨0,0,0⟩ from rfl,vk] at this;cases this
 .have:(pW k l p).b7[i]=⟨0,false,-1⟩:=List.getElem_replicate ..;rw[this];exact⟨by decide,by decide,λ_=>rfl,λh=>absurd rfl h,λh=>by cases h⟩
 .rw[hce] at ht;rcases ht with h | h <;> cases h
 .rw[hlv] at hh;cases hh
 .rw[hlv] at hh;cases hh
 .unfold zr;rw[hlv];rfl
section
variable{x:Hp}(hB:HB x)
include hB
end
def ET(o:g7):fu:=⟨o.Kind,o.A,o.B,o.C⟩
abbrev BY(o:g7):Int:=y4 o.Kind o.A o.B o.C
theorem HU(k a b c:Int):U6 [k,a,b,c]=some (if y4 k a b c≠0 then (⟨0,0,0,0⟩,y4 k a b c) else (⟨k,a,b,c⟩,0)):=by
 unfold U6;rw[za (by simp)];show (W1 ⟨k,a,b,c⟩).bind _=_;rw[oA,Yy];by_cases h:y4 k a b c=0
 .rw[za (by simpa using h),za (by simpa using h)]
 .rw[zb (by simpa using h),zb h]
theorem LU(k a b c:Int):jI [k,a,b,c]=some (if y4 k a b c≠0 then (⟨0,0,0,0⟩,y4 k a b c) else (⟨k,a,b,c⟩,0)):=by
 unfold jI;rw[za (by simp)];show (gi ⟨k,a,b,c⟩).bind _=_;rw[HP,Yy];by_cases h:y4 k a b c=0
 .rw[za (by simpa using h),za (by simpa using h)]
 .rw[zb (by simpa using h),zb h]
theorem four(l:List Int):(∃k a b c,l = [k,a,b,c])\/l.length≠4:=by
 match l with
 | []=>exact .inr (by simp)
 | [_]=>exact .inr (by simp)
 | [_,_]=>exact .inr (by simp)
 | [_,_,_]=>exact .inr (by simp)
 | [k,a,b,c]=>exact .inl ⟨k,a,b,c,rfl⟩
 | _::_::_::_::_::l=>exact .inr (by simp)
theorem Cb{l:List Int}(h:l.length≠4):U6 l=some (⟨0,0,0,0⟩,14)/\jI l=some (⟨0,0,0,0⟩,14):=by
 unfold U6 jI;have:(((l.length:Int) != 4))=true:=by simp;omega
 rw[zb this,zb this];exact⟨rfl,rfl⟩
def aI(l:List Int):g7 × Int:=(U6 l).getD (⟨0,0,0,0⟩,0)
theorem DT(l:List Int):U6 l=some (aI l)/\jI l=some (ET (aI l).1,(aI l).2):=by
 unfold aI;rcases four l with ⟨k,a,b,c,rfl⟩ | h
 .rw[HU,LU];refine⟨rfl,?_⟩;rw[ww];by_cases h:y4 k a b c≠0
  .rw[zb h,zb h];rfl
  .rw[za h,za h];rfl
 .rw[(Cb h).1,(Cb h).2];exact⟨rfl,rfl⟩
def pf(o:g7):Bool:=((decide (o.Kind>=1))&&(decide (o.Kind<=10)))&&(BY o==0)
def tP(p:List g7):Bool:=decide (p.length<=6)&&p.all pf
def fp(l:List (List g7)):Bool:=decide (l.length<=6)&&l.all tP
section
variable{l:List (List g7)}(hl:l.length<=12)(hp:∀p∈l,p.length<=12)
include hl hp
theorem EL:fS l=some (fp l):=by
 unfold fS fp;by_cases h6:l.length > 6
 .rw[zb (by simp;omega),zY (by omega)];rfl
 .rw[za (by simp;omega),zC (by omega),za5];simp only[jn];have key:=Cz (f:=λ(s23:Int)=>
   if (decide (s23<(l.length:Int))) then
     (ix l s23).bind λv34=>
     if (decide ((v34.length:Int) > 6)) then
      some (.inr (.inl false))
     else
     (lp (S:=Int) (E:=Bool ⊕ Unit) (λ(s36:Int)=>
      if (decide (s36<(v34.length:Int))) then
       (ix v34 s36).bind λv38=>
       (fR v38).bind λv39=>
       (C7 ((!v39)==false) 0 (W1 v38)).bind λv40=>
       if ((!v39)||(v40 != 0)) then
        some (.inr (.inl false))
       else
       some (.inl (u7 (s36+1)))
      else
      some (.inr (.inr ()))) 0).bind λe35=>
     match e35 with
     | .inl w=>some (.inr (.inl w))
     | .inr w=>some (Sum.inl (u7 (s23+1)))
   else
   some (.inr (.inr ()))) l tP (.inr ()) (Sum.inl (β:=Unit) false) (by omega) (λk hk=>?_) (by simp)
  .refine rV key ?_;cases l.all tP <;> rfl
  .rw[zb (by simpa using hk),s7 hk,Yy];unfold tP;have hm:=hp _ (zh hk);generalize l[k]=p at hm |-;by_cases hq:p.length > 6
   .rw[zb (by simp;omega),zY (by omega)];rfl
   .rw[za (by simp;omega),zC (by omega),za5];have k2:=Cz (f:=λ(s36:Int)=>
      if (decide (s36<(p.length:Int))) then
       (ix p s36).bind λv38=>
       (fR v38).bind λv39=>
       (C7 ((!v39)==false) 0 (W1 v38)).bind λv40=>
       if ((!v39)||(v40 != 0)) then
        some (.inr (.inl false))
       else
       some (Sum.inl (u7 (s36+1)))
      else
      some (.inr (.inr ()))) p pf (.inr ()) (Sum.inl (β:=Unit) false) (by omega) (λj hj=>?_) (by simp)
    .refine zcu (rV k2 (r:=if p.all pf=true then some (.inl (u7 ((k:Int)+1))) else some (.inr (.inl false))) ?_) ?_;·cases p.all pf <;> rfl
     .rw[n9]
    .rw[zb (by simpa using hj),s7 hj,Yy,oA];unfold pf fR;rw[Yy,n9];cases ((decide (p[j].Kind>=1))&&(decide (p[j].Kind<=10)));·rfl
     .by_cases h:BY p[j]=0
      .have e:y4 p[j].Kind p[j].A p[j].B p[j].C=0:=h;rw[e,h];rfl
      .have e1:(y4 p[j].Kind p[j].A p[j].B p[j].C != 0)=true:=by simpa using h
       have e2:(BY p[j]==0)=false:=by simpa using h
       rw[e2];refine rV (a:=BY p[j]) rfl ?_;rw[show (BY p[j] != 0)=true from e1];rfl
theorem GO:pZ (l.map (List.map ET))=some (fp l):=by
 unfold pZ fp;rw[zl];by_cases h6:l.length > 6
 .rw[zb (by simp;omega),zY (by omega)];rfl
 .rw[za (by simp;omega),zC (by omega),za5];simp only[jn];have key:=Cz (f:=λ(s23:Int)=>
   if (decide (s23<(l.length:Int))) then
     (ix (l.map (List.map ET)) s23).bind λv34=>
     if (decide ((v34.length:Int) > 6)) then
      some (.inr (.inl false))
     else
     (lp (S:=Int) (E:=Bool ⊕ Unit) (λ(s36:Int)=>
      if (decide (s36<(v34.length:Int))) then
       (ix v34 s36).bind λv38=>
       (pY v38).bind λv39=>
       (C7 ((!v39)==false) 0 (gi v38)).bind λv40=>
       if ((!v39)||(v40 != 0)) then
        some (.inr (.inl false))
       else
       some (.inl (u7 (s36+1)))
      else
      some (.inr (.inr ()))) 0).bind λe35=>
     match e35 with
     | .inl w=>some (.inr (.inl w))
     | .inr w=>some (Sum.inl (u7 (s23+1)))
   else
   some (.inr (.inr ()))) l tP (.inr ()) (Sum.inl (β:=Unit) false) (by omega) (λk hk=>?_) (by simp)
  .refine rV key ?_;cases l.all tP <;> rfl
  .rw[zb (by simpa using hk),te,s7 hk,un,Yy,zl];unfold tP;have hm:=hp _ (zh hk);generalize l[k]=p at hm |-;by_cases hq:p.length > 6
   .rw[zb (by simp;omega),zY (by omega)];rfl
   .rw[za (by simp;omega),zC (by omega),za5];have k2:=Cz (f:=λ(s36:Int)=>
      if (decide (s36<(p.length:Int))) then
       (ix (p.map ET) s36).bind λv38=>
       (pY v38).bind λv39=>
       (C7 ((!v39)==false) 0 (gi v38)).bind λv40=>
       if ((!v39)||(v40 != 0)) then
        some (.inr (.inl false))
       else
       some (Sum.inl (u7 (s36+1)))
      else
      some (.inr (.inr ()))) p pf (.inr ()) (Sum.inl (β:=Unit) false) (by omega) (λj hj=>?_) (by simp)
    .refine zcu (rV k2 (r:=if p.all pf=true then some (.inl (u7 ((k:Int)+1))) else some (.inr (.inl false))) ?_) ?_;·cases p.all pf <;> rfl
     .rw[n9]
    .rw[zb (by simpa using hj),te,s7 hj,un,Yy,HP];unfold pf pY;rw[Yy,n9];rw[show (ET p[j]).Kind=p[j].Kind from rfl];cases ((decide (p[j].Kind>=1))&&(decide (p[j].Kind<=10)));·rfl
     .by_cases h:BY p[j]=0
      .have e:y4 p[j].Kind (ET p[j]).A (ET p[j]).B (ET p[j]).C=0:=h;rw[e,h];rfl
      .have e1:(y4 p[j].Kind p[j].A p[j].B p[j].C != 0)=true:=by simpa using h
       have e2:(BY p[j]==0)=false:=by simpa using h
       rw[e2];refine rV (a:=BY p[j]) rfl ?_;rw[show (BY p[j] != 0)=true from e1];rfl
end
noncomputable def FF(x:Hp):List Int:=Kh x.S x.T
noncomputable def dA(x:Hp):List Int:=Vu x.S x.T (FF x)
theorem bq{x:Hp}{h:Int}:h∈dA x↔h∈lv x.S/\¬aZ x.S x.T (FF x) h:=by
 classical
 unfold dA Vu;rw[zi,zG]
section
variable{x:Hp}(hx:J8 x)
include hx
theorem dB:(dA x).Nodup:=zb8 _ (tu (A0.2 hx.sh.sr))
theorem bG:∀d∈dA x,d∈lv x.S:=λd hd=>(bq.1 hd).1
theorem Jg{h:Int}(hl:h∈lv x.S)(hs:(ob x.S h).Strong<12):KN x.S x.T h=(R7 (oc x) h:Int):=Md.2 hx.fair h hl hs
theorem Ct{h:Int}(hl:h∈lv x.S)(ho:h∈oc x):h∈FF x:=by
 refine pU.2 ⟨hl,?_⟩;by_cases hs:(ob x.S h).Strong<12
 .left;rw[Jg hx hl hs];have:=ja.2 ⟨λe=>eQ hx.sh.sr (e▸hl),ho⟩;omega
 .exact .inr (by omega)
theorem Gy{h:Int}(hh:h∈FF x):h∈lv x.S/\(h∈oc x\/12<=(ob x.S h).Strong):=by
 obtain⟨hl,hs⟩:=pU.1 hh;refine⟨hl,?_⟩;by_cases q:(ob x.S h).Strong<12
 .rcases hs with hs | hs
  .rw[Jg hx hl q] at hs;exact .inl (ja.1 (by omega)).2
  .omega
 .exact .inr (by omega)
theorem Qa:∀d∈dA x,d∉oc x:=λd hd q=>by
 obtain⟨a,b⟩:=bq.1 hd;exact b (.base (Ct hx a q) a)
theorem PZ:∀h∈lv x.S,h∉dA x->∀v∈(ob x.S h).Fields,v∉dA x:=λh hh hn v hv q=>by
 obtain⟨a,b⟩:=bq.1 q;have hr:aZ x.S x.T (FF x) h:=q9 λr=>hn (bq.2 ⟨hh,r⟩);exact b (.step hr (ga.2 ⟨hv,λe=>eQ hx.sh.sr (e▸a)⟩) a)
theorem Qc:∀k v,Has x.T k v->k∉dA x->v∉dA x:=λk v hk hn q=>by
 obtain⟨a,b⟩:=bq.1 q;have hr:aZ x.S x.T (FF x) k:=q9 λr=>hn (bq.2 ⟨(hx.sh.pr k v hk).1,r⟩);exact b (.pair hk hr a)
theorem dQ:J8 (gL x (dA x)):=AY hx (dB hx) (bG hx) (Qa hx) (PZ hx) (Qc hx)
end
theorem yH:∀(l:List Int) {x:Hp} (hR:SR x.S) {h:Int} (hh:h∈lv x.S) (hs:12<=(ob x.S h).Strong),12<=(ob (l.foldl aA x).S h).Strong
 | [],_,_,_,_,hs=>hs
 | v::l,x,hR,h,hh,hs=>by
  have k1:=H6 hR v (f:=kR) λc=>P4;refine yH l (x:=aA x v) k1.sr (by
   show h∈lv (ue x v kR).S;rw[k1.lv];exact hh) ?_
  show 12<=(ob (ue x v kR).S h).Strong;rw[vu (x:=x) hR (h:=v) (f:=kR) (λc=>P4) hh];split
  .unfold kR;rw[zb hs];omega
  .exact hs
section
variable{x:Hp}(hx:J8 x)
include hx
theorem xU{h:Int}:h∈lv (gL x (dA x)).S↔aZ x.S x.T (FF x) h:=by
 rw[FV hx.sh.sr (dB hx) (bG hx),zi,zG,bq];constructor
 .rintro⟨a,b⟩;exact q9 λr=>b ⟨a,r⟩
 .intro r;exact⟨r.live,λq=>q.2 r⟩
theorem VY{h:Int}(hh:h∈lv (gL x (dA x)).S):(ob (gL x (dA x)).S h).Serial=(ob x.S h).Serial/\(ob (gL x (dA x)).S h).Prog=(ob x.S h).Prog/\(ob (gL x (dA x)).S h).Fields=(ob x.S h).Fields/\(ob (gL x (dA x)).S h).Started=(ob x.S h).Started:=by
 have r:=(xU hx).1 hh;obtain⟨n,e⟩:=FW hx.sh.sr (dB hx) (bG hx) r.live (λq=>(bq.1 q).2 r);rw[e];exact⟨rfl,rfl,rfl,rfl⟩
theorem Mr{h:Int}(hh:h∈lv (gL x (dA x)).S)(hs:12<=(ob x.S h).Strong):12<=(ob (gL x (dA x)).S h).Strong:=by
 have r:=(xU hx).1 hh;have g:=eH (dA x) hx.sh.sr (dB hx) (bG hx);have hn:h∉dA x:=λq=>(bq.1 q).2 r;refine yH _ (x:=jt x (dA x) (lf x.T (dA x)).1) g.sr ?_ ?_
 .show h∈lv (ou x.S (dA x));rw[g.lv,zi];exact⟨r.live,by simpa using hn⟩
 .show 12<=(ob (ou x.S (dA x)) h).Strong;rw[g.ob h r.live hn];exact hs
theorem Tz:oc (gL x (dA x))=oc x:=by
 obtain⟨e1,_,_,e4⟩:=sm hx.sh.sr (dB hx) (bG hx);unfold oc;rw[e1,e4,ya _ _ _ λt ht=>by
  obtain⟨w,_,rfl,_⟩:=gD.1 ht;simp]
theorem PY{h:Int}(hh:aZ x.S x.T (FF x) h):aZ (gL x (dA x)).S (gL x (dA x)).T (FF (gL x (dA x))) h:=by
 have w:=dQ hx;obtain⟨_,_,e3,_⟩:=sm hx.sh.sr (dB hx) (bG hx);have hlen:(dA x).length<=1000:=by
  have:=Z3 (dB hx) (bG hx);have:=M1 (A0.2 hx.sh.sr);omega
 obtain⟨_,_,_,_,w5,_⟩:=jU hx.sh.hr (dA x) hlen;induction hh with
 | base h1 h2=>
  have hl:=(xU hx).2 (.base h1 h2);refine .base ?_ hl;rcases (Gy hx h1).2 with q | q
  .exact Ct w hl (by rw[Tz hx];exact q)
  .exact pU.2 ⟨hl,.inr (Mr hx hl q)⟩
 | step q0 q1 q2 ih=>
  refine .step ih ?_ ((xU hx).2 (.step q0 q1 q2));unfold outs at q1 |-;rw[(VY hx ((xU hx).2 q0)).2.2.1];exact q1
 | pair q1 q0 q2 ih=>
  refine .pair ?_ ih ((xU hx).2 (.pair q1 q0 q2));rw[e3];exact (w5 _ _).2 ⟨λq=>(bq.1 q).2 q0,q1⟩
theorem Ed:dA (gL x (dA x)) = []:=za7.2 λh hh=>by
 obtain⟨a,b⟩:=bq.1 hh;exact b (PY hx ((xU hx).1 a))
end
theorem DQ{x:Hp}(hx:J8 x)(hg:dA x = []):zr x = []:=za7.2 λh hh=>by
 have hl:=(cS.1 hh).1;have hs:=(cS.1 hh).2;have hf:=Dz hx hh;have h0:h≠0:=λe=>eQ hx.sh.sr (e▸hl);have r:aZ x.S x.T (FF x) h:=q9 λr=>by
  have:h∈dA x:=bq.2 ⟨hl,r⟩;rw[hg] at this;cases this
 unfold lM at hf;cases r with
 | base h1 h2=>
  rcases (Gy hx h1).2 with q | q
  .have:=ja.2 ⟨h0,q⟩;omega
  .omega
 | step q0 q1 q2=>
  have:=Cy (y:=h) q0.live;have h1:=ja.2 ⟨h0,q1⟩;omega
 | pair q1 q0 q2=>
  have:=CN q1 h0;omega
theorem xV{x:Hp}(hx:J8 x):bz (gL x (dA x))=gL x (dA x):=Ol (DQ (dQ hx) (Ed hx))
theorem ME{c:Int}(h:0<=c):1<=Y9 c:=by unfold Y9;split <;> (try split) <;> omega
theorem GP{x:Hp}(hR:SR x.S){h:Int}(hh:h∈lv x.S){k:Int}(hk:k∈lv x.S):(ob (gh x h).S k).Strong=if k=h then Y9 (ob x.S k).Strong else (ob x.S k).Strong:=by
 have oko:=K0 hR hh;have ho:Ap x.S (fC (ob x.S h)):=⟨oko.s1,oko.s2,oko.st,oko.wk,oko.p1,oko.p2,oko.fl⟩;have r1:=bP (o:=fC (ob x.S h)) hR hh rfl ho;have l1:lv (cT x.S h (fC (ob x.S h)))=lv x.S:=iE (o:=fC (ob x.S h)) hR hh rfl ho;have hr:=H4 hR hk;have e1:(ob (cT x.S h (fC (ob x.S h))) k).Strong=(ob x.S k).Strong:=by
  rw[gk (o:=fC (ob x.S h)) hR hh rfl ho (by omega)];split;·rename_i e;subst e;rfl
  .rfl
 have:=vu (x:=⟨cT x.S h (fC (ob x.S h)),x.Roots,x.b7,x.T,⟨x.Q.L ++ [As x h],x.Q.Cap⟩⟩) r1 (h:=h) (f:=Y9) (λc=>E4) (k:=k) (by
  show k∈lv (cT x.S h (fC (ob x.S h)));rw[l1];exact hk)
 rw[show (ob (gh x h).S k).Strong=_ from this];show (if k=h then Y9 (ob (cT x.S h (fC (ob x.S h))) k).Strong else (ob (cT x.S h (fC (ob x.S h))) k).Strong)=_;rw[e1]
theorem UI{x:Hp}(hx:J8 x)(hz:zr x = []){h:Int}(hh:h∈lv x.S):zr (gh x h) = []:=za7.2 λk hk=>by
 obtain⟨a,b⟩:=cS.1 hk;rw[CS hx.sh.sr hh] at a;rw[GP hx.sh.sr hh a] at b;have h0:=(K0 hx.sh.sr a).st;have hn:(ob x.S k).Strong≠0:=λq=>by
  have:k∈zr x:=cS.2 ⟨a,q⟩;rw[hz] at this;cases this
 split at b;·have:=ME h0;omega
 .exact hn b
structure Qd (x y:Hp) (l:List Int):Prop where
 rt:J8 y
 sl:SL y
 zr:zr y = []
 lv:lv y.S=lv x.S
 ob:∀k∈Sh.lv x.S,∃n,Sh.ob y.S k=AP (if k∈l then fC (Sh.ob x.S k) else Sh.ob x.S k) n
 ro:y.Roots=x.Roots
 ce:y.b7=x.b7
 t:y.T=x.T
 q:y.Q=⟨x.Q.L++l.map (As x),x.Q.Cap⟩
 aW:y.S.Serial=x.S.Serial
theorem Rb{x:Hp}(hR:SR x.S){h:Int}(hh:h∈lv x.S):(gh x h).S.Serial=x.S.Serial:=(ni hR hh).1.aW
theorem yA:∀(l:List Int) {x:Hp},J8 x->SL x->Sh.zr x = []->l.Nodup->(∀h∈l,h∈Sh.lv x.S/\due (Sh.ob x.S h)=true)->Qd x (l.foldl gh x) l
 | [],x,hx,hS,hz,_,_=>⟨hx,hS,hz,rfl,λk hk=>⟨(Sh.ob x.S k).Strong,by rw[za (by simp)];rfl⟩,rfl,rfl,rfl,by simp,rfl⟩
 | h::l,x,hx,hS,hz,hn,hd=>by
  obtain⟨hl,hdu⟩:=hd h (zg ..);have hR:=hx.sh.sr;rw[me] at hn;have q2:=hdu;unfold due at q2;rw[zy,zG,zca] at q2;have h1:=vl hx hl q2.1 q2.2;have h2:=NP hR hS hl;have h3:=UI hx hz hl;have lq:=CS hR hl;have oq:∀k∈Sh.lv x.S,k≠h->∃n,Sh.ob (gh x h).S k=AP (Sh.ob x.S k) n:=λk hk hne=>by
   obtain⟨n,e⟩:=yz hR hl hk;rw[za hne] at e;exact⟨n,e⟩
  have ih:=yA l h1 h2 h3 hn.2 λk hk=>by
   obtain⟨a,b⟩:=hd k (zn _ hk);obtain⟨n,e⟩:=oq k a λe=>hn.1 (e▸hk);refine⟨by rw[lq];exact a,?_⟩;rw[e];exact b
  obtain⟨_,k1,k2,k3,k4⟩:=ni hR hl;refine⟨ih.rt,ih.sl,ih.zr,ih.lv.trans lq,λk hk=>?_,ih.ro.trans k1,ih.ce.trans k2,ih.t.trans k3,?_,ih.aW.trans (Rb hR hl)⟩
  .obtain⟨n,e⟩:=ih.ob k (by rw[lq];exact hk);obtain⟨m,e2⟩:=yz hR hl hk;refine⟨n,?_⟩;show Sh.ob (l.foldl gh (gh x h)).S k=_;rw[e];by_cases c:k=h
   .subst c;rw[za hn.1,zb (zg ..),e2,zb rfl]
   .rw[za c] at e2;by_cases c2:k∈l
    .rw[zb c2,zb (zn _ c2),e2]
    .rw[za c2,za (λq=>by
      rcases zM.1 q with r | r
      .exact c r
      .exact c2 r),e2]
  .show (l.foldl gh (gh x h)).Q=_;rw[ih.q,k4];have:l.map (As (gh x h))=l.map (As x):=zt λk hk=>by
    obtain⟨a,_⟩:=hd k (zn _ hk);obtain⟨n,e⟩:=oq k a λe=>hn.1 (e▸hk);show (⟨1,k,(Sh.ob (gh x h).S k).Prog⟩:g5)=⟨1,k,(Sh.ob x.S k).Prog⟩;rw[e]
   rw[this];simp
noncomputable def jc(x:Hp):List Int:=(dA x).filter λh=>due (Sh.ob x.S h)
noncomputable def wV(x:Hp):Hp:=if jc x = [] then gL x (dA x) else (jc x).foldl gh x
theorem mG{x:Hp}:∀h∈jc x,h∈Sh.lv x.S/\due (Sh.ob x.S h)=true:=λh hh=>by
 obtain⟨a,b⟩:=zi.1 hh;exact⟨(bq.1 a).1,b⟩
theorem xy{x:Hp}(hx:J8 x):(jc x).Nodup:=zb8 _ (dB hx)
theorem LH{x:Hp}(hx:J8 x)(hS:SL x)(hz:zr x = []):Qd x ((jc x).foldl gh x) (jc x):=yA _ hx hS hz (xy hx) mG
theorem Ge{x:Hp}(hx:J8 x)(hS:SL x)(hz:zr x = []):J8 (wV x)/\SL (wV x)/\zr (wV x) = []:=by
 unfold wV;split;·exact⟨dQ hx,LI hx.sh.sr hS (dB hx) (bG hx),DQ (dQ hx) (Ed hx)⟩
 .have q:=LH hx hS hz;exact⟨q.rt,q.sl,q.zr⟩
theorem Tl{y:Hp}(h:jc y = []):wV y=gL y (dA y):=by
 unfold wV;rw[zb h]
section
variable{x:Hp}(hx:J8 x)
include hx
end
structure Rs (x:Hp) (n:Nat):Prop where
 rt:J8 x
 sl:SL x
 zr:zr x = []
 aW:x.S.Serial<=n
section
variable{x:Hp}(hx:J8 x)(hS:SL x)
include hx hS
theorem LL:U3 x=some (dA x):=by
 have hB:=Wc hx hS;unfold U3;rw[Gw (A0.2 hx.sh.sr) hx.sh.hr hB.tb hB.fb hB.sb];rfl
theorem Cm:(dA x).length<=24:=zO (zA ..) (M1 (A0.2 hx.sh.sr))
theorem SY:gy x=some (jc x):=by
 have hR:=hx.sh.sr;have hl:=Cm hx hS;unfold gy;rw[LL hx hS,Yy];unfold J9;simp only[jn];refine rV (a:=jc x) ?_ rfl;refine ca (dA x).length (λk b=>b=((dA x).take k).filter λh=>due (Sh.ob x.S h)) (by omega) rfl (λk b hk hP=>?_) (λb hP=>?_)
 .subst hP;have hm:=bG hx _ (zh hk);have hle:(((dA x).take k).filter λh=>due (Sh.ob x.S h)).length<=24:=zO (zA ..) (by simp;omega);refine .inl ⟨_,?_,rfl⟩;rw[zb (by simpa using hk),s7 hk,Yy,U5 hk,za4];unfold ij;rw[xY hR hm,Yy,Yy];have e:(decide ((ob x.S (dA x)[k],(0:Int)).1.Prog>=0) && !(ob x.S (dA x)[k],(0:Int)).1.Started)=due (ob x.S (dA x)[k]):=rfl;rw[e];cases hd:due (ob x.S (dA x)[k])
  .rw[za (by simp),n9];simp[hd]
  .rw[zb rfl,K5 (by omega) (by simp;omega),Yy,n9];simp[hd]
 .subst hP;refine⟨_,za (by simp),?_⟩;rw[zR];rfl
noncomputable def LM(x:Hp):Int:=if jc x = [] then ((lv x.S).length:Int)-((lv (wV x).S).length:Int) else 0
omit hx hS in
theorem TZ {l:List Int} (hn:l.Nodup) (hm:∀d∈l,d∈lv x.S):Xn x l=l:=by
 have key:∀(l b:List Int),(b++l).Nodup->(∀d∈l,d∈lv x.S)->l.foldl (λb h=>if h∈lv x.S/\h∉b then b ++ [h] else b) b=b++l:=by
  intro l;induction l with
  | nil=>intro b _ _;simp
  | cons a l ih=>
   intro b hn hm;rw[zai];have ha:a∉b:=λq=>by
    rw[zbt] at hn;exact hn.2.2 a q a (zg ..) rfl
   rw[zb ⟨hm a (zg ..),ha⟩,ih (b ++ [a]) (by simpa using hn) λd hd=>hm d (zn _ hd)];simp
 exact key l [] (by simpa using hn) hm
variable(hz:zr x = [])
include hz
theorem Jo{k:Nat}(hk:k<(jc x).length):(((jc x).take k).foldl gh x)=(((jc x).take k).foldl gh x)/\J8 (((jc x).take k).foldl gh x)/\SL (((jc x).take k).foldl gh x)/\(jc x)[k]∈lv (((jc x).take k).foldl gh x).S/\due (ob (((jc x).take k).foldl gh x).S (jc x)[k])=true:=by
 have hn:=xy hx;have q:=yA ((jc x).take k) hx hS hz ((zcb ..).nodup hn) λh hh=>mG h (zae hh);obtain⟨a,b⟩:=mG (jc x)[k] (zh hk);refine⟨rfl,q.rt,q.sl,by rw[q.lv];exact a,?_⟩;obtain⟨n,e⟩:=q.ob _ a;have hnot:(jc x)[k]∉(jc x).take k:=λh=>by
  have:=U5 hk;have hs:((jc x).take (k+1)).Nodup:=(zcb ..).nodup hn;rw[this,zbt] at hs;exact hs.2.2 _ h _ (List.mem_singleton_self _) rfl
 rw[e,za hnot];exact b
theorem HK:(jc x).length<=24:=zO (zA ..) (Cm hx hS)
theorem Tk:aG x=some (wV x,((jc x).length:Int),LM x):=by
 have hR:=hx.sh.sr;have hl:=HK hx hS hz;obtain⟨c1,c2,c3⟩:=Ge hx hS hz;unfold aG;rw[SY hx hS,Yy];simp only[jn];refine ca (jc x).length (λk b=>b=((jc x).take k).foldl gh x) (by omega) rfl (λk b hk hP=>?_) (λb hP=>?_)
 .subst hP;obtain⟨_,r1,r2,r3,r4⟩:=Jo hx hS hz hk;refine .inl ⟨_,?_,rfl⟩;rw[zb (by simpa using hk),s7 hk,Yy,BC r1 r2 (qN r1.sh.sr r3),Yy,n9,U5 hk,zal];unfold Xr;rw[zb ⟨r3,r4⟩];rfl
 .subst hP;refine⟨_,za (by simp),?_⟩;rw[zR];by_cases hb:jc x = []
  .have e:wV x=gL x (dA x):=Tl hb;rw[za (by simp[hb])];unfold LM;rw[zb hb,e,hb];have h1:=dB hx;have h2:=bG hx;have hlive:=gB (A0.2 hR);have hlive2:=gB (A0.2 (dQ hx).sh.sr);have l1:=M1 (A0.2 hR);have l2:=M1 (A0.2 (dQ hx).sh.sr);show (U3 x).bind _=_;rw[LL hx hS,Yy,List.foldl_nil,HM hx h1 h2 (Ro hx) (by rw[tq hR _ (by have:=Cm hx hS;omega) λh hh=>qN hR (h2 h hh),TZ h1 h2]),Yy,jk (dQ hx) (by rw[<-e];exact c2),Yy,xV hx,hlive,Yy,hlive2,Yy,P1 (by omega) (by omega)];rfl
  .have:0<(jc x).length:=List.length_pos_iff.2 hb;rw[zb (by simp;omega)];unfold LM wV;rw[za hb,za hb]
end
theorem PR{x:Hp}(hx:J8 x)(hS:SL x)(hz:zr x = []):(wV x).S.Serial=x.S.Serial:=by
 unfold wV;split
 .have g:=eH (dA x) hx.sh.sr (dB hx) (bG hx);exact (hZ ((dA x).flatMap (outs x.S)++(lf x.T (dA x)).2) (x:=jt x (dA x) (lf x.T (dA x)).1) g.sr).1.aW.trans g.aW
 .exact (LH hx hS hz).aW
def Sv(s s':b6):Prop:=s'.S.b7.length=s.S.b7.length/\∀i,i<s.S.b7.length->(ce s i).Gen<=(ce s' i).Gen/\((ce s' i).Gen=(ce s i).Gen->((ce s i).State≠0->(ce s' i).State≠0)/\((ce s' i).State=1->(ce s i).State=0\/((ce s i).State=1/\((ce s i).Val.Started=true->(ce s' i).Val.Started=true))))
theorem Sv.refl(s:b6):Sv s s:=⟨rfl,λi _=>⟨zaf _,λ_=>⟨id,λh=>.inr ⟨h,id⟩⟩⟩⟩
theorem Sv.trans{a b c:b6}(h:Sv a b)(q:Sv b c):Sv a c:=by
 obtain⟨h1,h2⟩:=h;obtain⟨q1,q2⟩:=q;refine⟨q1.trans h1,λi hi=>?_⟩;obtain⟨a1,a2⟩:=h2 i hi;obtain⟨b1,b2⟩:=q2 i (by omega);refine⟨by omega,λe=>?_⟩;obtain⟨a3,a4⟩:=a2 (by omega);obtain⟨b3,b4⟩:=b2 (by omega);refine⟨λh=>b3 (a3 h),λh=>?_⟩;rcases b4 h with r | ⟨r,r'⟩
 .exact .inl (q9 λn=>a3 n r)
 .rcases a4 r with k | ⟨k,k'⟩
  .exact .inl k
  .exact .inr ⟨k,λs=>r' (k' s)⟩
def Hn(s:b6)(h:Int):Prop:=∃(i:Nat) (g:Int),i<s.S.b7.length/\h=1+(i:Int)+32*g/\(g<(ce s i).Gen\/(g=(ce s i).Gen/\(ce s i).State≠0/\((ce s i).State=1->(ce s i).Val.Started=true)))
theorem Sv.WV{s s':b6}(h:Sv s s'){k:Int}(q:Hn s k):Hn s' k:=by
 obtain⟨i,g,hi,e,q⟩:=q;obtain⟨h1,h2⟩:=h;obtain⟨a,b⟩:=h2 i hi;refine⟨i,g,by omega,e,?_⟩;rcases q with q | ⟨q1,q2,q3⟩
 .exact .inl (by omega)
 .by_cases c:(ce s' i).Gen=(ce s i).Gen
  .obtain⟨b1,b2⟩:=b c;refine .inr ⟨by omega,b1 q2,λr=>?_⟩;rcases b2 r with k | ⟨k1,k2⟩
   .exact absurd k q2
   .exact k2 (q3 k1)
  .exact .inl (by omega)
theorem KR{s:b6}(hR:SR s){h:Int}(hh:h∈lv s)(hs:(ob s h).Started=false):¬Hn s h:=by
 rintro⟨i,g,hi,e,q⟩;obtain⟨j,hj⟩:=(gS hR).1 hh;have hl:=hR.len;have hij:i=j:=by
  have:=hj.2.2;have:=hj.1;omega
 subst hij;have:=hj.2.2;rcases q with q | ⟨q1,q2,q3⟩
 .omega
 .rw[F4 hR hj,q3 hj.2.1] at hs;cases hs
theorem vB.sv{s s':b6}(hR:SR s)(k:vB s s'):Sv s s':=⟨k.len,λi hi=>by
 obtain⟨a,b,_,_,_⟩:=k.ce i hi;refine⟨by omega,λ_=>⟨by omega,λh=>.inr ⟨by omega,λq=>?_⟩⟩⟩;have h1:At s (bX s i) i:=⟨hi,by omega,rfl⟩;have h2:At s' (bX s i) i:=⟨by rw[k.len];exact hi,h,by rw[b];rfl⟩;have hl:=H4 hR ((gS hR).2 ⟨i,h1⟩);obtain⟨n,e⟩:=k.ob (bX s i) (by omega);rw[F4 k.sr h2,F4 hR h1] at e;rw[e];exact q⟩
theorem Of{s:b6}(hR:SR s){h:Int}(hh:h∈lv s){o:n7}(hs:o.Serial=(ob s h).Serial)(ho:Ap s o)(hst:(ob s h).Started=true->o.Started=true):Sv s (cT s h o):=⟨Ji s h o,λi hi=>by
 have q:=o0 hR hh;rw[yP hR hh hs ho];split
 .rename_i e;subst e;refine⟨zaf _,λ_=>⟨id,λr=>.inr ⟨q.2.1,λk=>hst ?_⟩⟩⟩;rw[F4 hR q];exact k
 .exact⟨zaf _,λ_=>⟨id,λr=>.inr ⟨r,id⟩⟩⟩⟩
theorem Na{s:b6}(hR:SR s){i:Nat}(hi:i<s.S.b7.length)(ht:Th (ce s i))(d:Int):Sv s (lH s i d):=⟨J3 ..,λj hj=>by
 rw[eW hR hi ht];split
 .rename_i e;subst e;exact⟨zaf _,λ_=>⟨id,λr=>.inr ⟨r,id⟩⟩⟩
 .exact⟨zaf _,λ_=>⟨id,λr=>.inr ⟨r,id⟩⟩⟩⟩
theorem TF{s:b6}{i:Nat}(hi:i<s.S.b7.length):Sv s (DB s i):=⟨V6 ..,λj hj=>by
 unfold DB;rw[K6 hi];by_cases e:j=i
 .subst e;rw[zb rfl];split;·exact⟨zaf _,λ_=>⟨λ_=>(by decide:(3:Int)≠0),λr=>absurd (show (3:Int)=1 from r) (by decide)⟩⟩
  .refine⟨by show _<=(ce s j).Gen+1;omega,λr=>?_⟩;have:(ce s j).Gen+1=(ce s j).Gen:=r;omega
 .rw[za e];exact⟨zaf _,λ_=>⟨id,λr=>.inr ⟨r,id⟩⟩⟩⟩
theorem Gn.sv{s s':b6}{ds:List Int}(g:Gn s s' ds):Sv s s':=⟨g.len,λj hj=>by
 rw[g.ce];split
 .unfold FD;split
  .split;·exact⟨zaf _,λ_=>⟨λ_=>(by decide:(3:Int)≠0),λr=>absurd (show (3:Int)=1 from r) (by decide)⟩⟩
   .refine⟨by show _<=(Sh.ce s j).Gen+1;omega,λr=>?_⟩;have:(Sh.ce s j).Gen+1=(Sh.ce s j).Gen:=r;omega
  .exact⟨zaf _,λ_=>⟨λ_=>(by decide:(2:Int)≠0),λr=>absurd (show (2:Int)=1 from r) (by decide)⟩⟩
 .exact⟨zaf _,λ_=>⟨id,λr=>.inr ⟨r,id⟩⟩⟩⟩
theorem Wt{s:b6}(hR:SR s){i:Nat}(hi:i<s.S.b7.length)(h0:(ce s i).State=0){n:Nat}(hn:n<=4){p:Int}(hp : -1<=p/\p<=5):Sv s (dm s i n p):=⟨jD hR hi h0 hn hp,λj hj=>by
 rw[lI hR hi h0 hn hp];split
 .rename_i e;subst e;exact⟨zaf _,λ_=>⟨λr=>absurd h0 r,λ_=>.inl h0⟩⟩
 .exact⟨zaf _,λ_=>⟨id,λr=>.inr ⟨r,id⟩⟩⟩⟩
theorem GY{x:Hp}(hR:SR x.S)(h:Int):Sv x.S (E5 x h).S:=(H6 hR h (f:=Y9) λc=>E4).sv hR
theorem Dd{x:Hp}(hR:SR x.S)(h:Int):Sv x.S (aA x h).S:=(H6 hR h (f:=kR) λc=>P4).sv hR
theorem EX{x:Hp}(hR:SR x.S)(r:Nat)(h:Int):Sv x.S (G0 x r h).S:=
 (GY hR h).trans (Dd (x:=wR (E5 x h) (x.Roots.set r h)) (jN hR h) _)
theorem Ka{x:Hp}(hR:SR x.S){h:Int}(hh:h∈lv x.S){n:Nat}(hn:n<(ob x.S h).Fields.length)(v:Int):Sv x.S (bF x h n v).S:=by
 have k1:=Df hR v;have hh1:h∈lv (E5 x v).S:=by rw[k1.lv];exact hh
 have hof:(ob (E5 x v).S h).Fields=(ob x.S h).Fields:=by
  obtain⟨n,e⟩:=(H6 hR v (f:=Y9) λc=>E4).ob h (by have:=H4 hR hh;omega);show (ob (ue x v Y9).S h).Fields=_;rw[e]
 have ho:Ap (E5 x v).S (rp (ob (E5 x v).S h) ((ob x.S h).Fields.set n v)):=by
  have:=K0 k1.sr hh1;refine⟨this.s1,this.s2,this.st,this.wk,this.p1,this.p2,?_⟩;have h4:=this.fl;rw[hof] at h4;simpa using h4
 have k2:=Of (o:=rp (ob (E5 x v).S h) ((ob x.S h).Fields.set n v)) k1.sr hh1 rfl ho id;exact ((GY hR v).trans k2).trans (Dd (x:=wS (E5 x v) (cT (E5 x v).S h (rp (ob (E5 x v).S h) ((ob x.S h).Fields.set n v)))) (bP (o:=rp (ob (E5 x v).S h) ((ob x.S h).Fields.set n v)) k1.sr hh1 rfl ho) _)
theorem NF{x:Hp}(hR:SR x.S)(v:Int)(t:Tb)(old:Int):Sv x.S (iJ x v t old).S:=
 (GY hR v).trans (Dd (x:=wT (E5 x v) t) (jN hR v) old)
theorem Ug{x:Hp}(hR:SR x.S)(h d:Int):Sv x.S (iv x h d).S:=by
 unfold iv;split
 .rename_i q;exact Na hR q.1 q.2.1 d
 .exact Sv.refl _
theorem RG{x:Hp}(hR:SR x.S)(h:Int):Sv x.S (pG x h).S:=by
 unfold pG;split
 .rename_i q;have k:=Na hR q.1 q.2.1 (-1);split;·exact k.trans (TF (by rw[k.1];exact q.1))
  .exact k
 .exact Sv.refl _
theorem Oy{x:Hp}(hx:J8 x)(n:Nat)(h call:Int):Sv x.S (cH x n h call).S:=by
 have hR:=hx.sh.sr;unfold cH;have s1:Sv x.S (iv (wC x (x.b7.set n (fG h call))) h 1).S:=Ug (x:=wC x (x.b7.set n (fG h call))) hR h 1;refine s1.trans (RG ?_ _);unfold iv;split
 .rename_i q;have:=(hR.ok _ q.1 q.2.1).wk;exact uX hR q.1 q.2.1 (by omega)
 .exact hR
theorem LJ{x:Hp}(hR:SR x.S){ds:List Int}(hn:ds.Nodup)(hm:∀d∈ds,d∈lv x.S):Sv x.S (gL x ds).S:=by
 have g:=eH ds hR hn hm;exact g.sv.trans ((hZ (ds.flatMap (outs x.S)++(lf x.T ds).2) (x:=jt x ds (lf x.T ds).1) g.sr).1.sv g.sr)
theorem NQ{x:Hp}(hR:SR x.S){h:Int}(hh:h∈lv x.S):Sv x.S (gh x h).S:=by
 have oko:=K0 hR hh;have ho:Ap x.S (fC (ob x.S h)):=⟨oko.s1,oko.s2,oko.st,oko.wk,oko.p1,oko.p2,oko.fl⟩;exact (Of (o:=fC (ob x.S h)) hR hh rfl ho λ_=>rfl).trans ((ni hR hh).1.sv (bP (o:=fC (ob x.S h)) hR hh rfl ho))
theorem Vi{x:Hp}(hx:J8 x):Sv x.S (FI x).S:=by
 cases h:zr x with
 | nil=>rw[nC h];exact Sv.refl _
 | cons z l=>
  have hz:z∈zr x:=by rw[h];exact zg ..
  have hzl:=(cS.1 hz).1;rw[jQ h];split;·exact NQ hx.sh.sr hzl
  .exact LJ hx.sh.sr (by simp) (by simpa using hzl)
theorem Vf{x:Hp}(hx:J8 x)(n:Nat):Sv x.S (oi n x).S:=by
 induction n with
 | zero=>exact Sv.refl _
 | succ n ih=>rw[fD];exact ih.trans (Vi (P6 hx n))
theorem Rv{x:Hp}(hx:J8 x):Sv x.S (bz x).S:=Vf hx 100
structure Fw (x y:Hp):Prop where
 sv:Sv x.S y.S
 q:∃l,y.Q=⟨x.Q.L++l,x.Q.Cap⟩/\∀t∈l,t.Kind=1->¬Hn x.S t.At
theorem Fw.of{x y:Hp}(h:Sv x.S y.S)(q:y.Q=x.Q):Fw x y:=⟨h,[],by rw[q,zav],λt ht=>by cases ht⟩
theorem Fw.refl(x:Hp):Fw x x:=Fw.of (Sv.refl _) rfl
theorem Fw.trans{x y z:Hp}(a:Fw x y)(b:Fw y z):Fw x z:=by
 obtain⟨l,q1,q2⟩:=a.q;obtain⟨m,r1,r2⟩:=b.q;refine⟨a.sv.trans b.sv,l++m,by rw[r1,q1,zah],λt ht hk=>?_⟩;rcases zu.1 ht with h | h
 .exact q2 t h hk
 .exact λs=>r2 t h hk (a.sv.WV s)
theorem Dk{x:Hp}(hx:J8 x):Fw x (bz x):=by
 obtain⟨l,q1,q2,_⟩:=(ma hx).q;exact⟨Rv hx,l,q1,λt ht hk=>KR hx.sh.sr (q2 t ht hk).1 (q2 t ht hk).2⟩
theorem jL{x:Hp}(hR:SR x.S)(r:Nat)(h:Int):Fw x (G0 x r h):=Fw.of (EX hR r h) (jM x r h).2.2.2
theorem VP{x:Hp}(hx:J8 x)(hS:SL x)(hz:zr x = [])(hb:x.S.Serial<9223372036854775807)(o:g7):(∃e,Er x o e)\/∃z v,Dn x o z v/\Fw x z:=by
 have hR:=hx.sh.sr;obtain⟨k,a,b,c⟩:=o;by_cases hc:y4 k a b c=0
 .have:=tg hc;have hk:k=1\/k=2\/k=3\/k=4\/k=5\/k=6\/k=7\/k=8\/k=9\/k=10\/k=11\/k=12:=by omega
  rcases hk with rfl | rfl | rfl | rfl | rfl | rfl | rfl | rfl | rfl | rfl | rfl | rfl
  .rcases d1 hx hS hb hc with ⟨e,_,h⟩ | ⟨hn,hcc,i,hF,h⟩;·exact .inl ⟨e,h⟩
   .obtain⟨hi,h0,_⟩:=hF;have k1:Fw x (wS x (dm x.S i b.toNat c)):=Fw.of (Wt hR hi h0 hn hcc) rfl;exact .inr ⟨_,_,h,k1.trans (jL (x:=wS x (dm x.S i b.toNat c)) (EB hR hi h0 hn hcc) _ _)⟩
  .exact .inr ⟨_,_,d2 hx hS hc,jL hR _ _⟩
  .exact .inr ⟨_,_,d3 hx hS hc,jL hR _ _⟩
  .rcases d4 hx hS hc with ⟨_,h⟩ | ⟨e,_,h⟩ | ⟨_,n,_,_,h⟩;·exact .inl ⟨_,h⟩
   .exact .inl ⟨_,h⟩
   .exact .inr ⟨_,_,h,jL hR _ _⟩
  .rcases d5 hx hS hc with ⟨_,h⟩ | ⟨e,_,h⟩ | ⟨hl,n,_,hn,h⟩;·exact .inl ⟨_,h⟩
   .exact .inl ⟨_,h⟩
   .exact .inr ⟨_,_,h,Fw.of (Ka hR hl hn _) (oJ _ _ _ _).2.2.2⟩
  .rcases d6 hx hS hc with ⟨_,h⟩ | ⟨e,_,h⟩ | ⟨_,h⟩;·exact .inl ⟨_,h⟩
   .exact .inl ⟨_,h⟩
   .exact .inr ⟨_,_,h,Fw.of (Oy hx _ _ _) (Ai _ _ _ _).2.2.2⟩
  .obtain⟨_,⟨_,h⟩ | ⟨_,h⟩⟩:=d7 hx hS hc;·exact .inl ⟨_,h⟩
   .exact .inr ⟨_,_,h,jL hR _ _⟩
  .rcases d8 hx hS hc with ⟨_,h⟩ | ⟨_,e,_,h⟩ | ⟨_,r,_,_,h⟩;·exact .inl ⟨_,h⟩
   .exact .inl ⟨_,h⟩
   .exact .inr ⟨_,_,h,Fw.of (NF hR _ _ _) (rG _ _ _ _).2.2.2⟩
  .rcases d9 hx hS hc with ⟨_,h⟩ | ⟨_,_,h⟩ | ⟨_,v,_,h⟩;·exact .inl ⟨_,h⟩
   .exact .inl ⟨_,h⟩
   .exact .inr ⟨_,_,h,jL hR _ _⟩
  .exact .inr ⟨_,_,d10 hx hS hz hc,Fw.refl x⟩
  .obtain⟨h1,h2⟩:=Cc (x:=x) (a:=a) (b:=b) (c:=c) (.inl rfl) hc;exact .inl ⟨14,by decide,h1,h2⟩
  .obtain⟨h1,h2⟩:=Cc (x:=x) (a:=a) (b:=b) (c:=c) (.inr rfl) hc;exact .inl ⟨14,by decide,h1,h2⟩
 .obtain⟨h1,h2⟩:=LW (x:=x) (o:=⟨k,a,b,c⟩) hc;exact .inl ⟨_,hc,h1,h2⟩
theorem LX{x:Hp}(hx:J8 x)(hS:SL x)(hz:zr x = [])(hb:x.S.Serial<9223372036854775807)(o:g7):Fw x (jd x o).1:=by
 rcases VP hx hS hz hb o with ⟨e,_,h,_⟩ | ⟨z,v,d,f⟩
 .have:jd x o=(x,0,e):=by unfold jd;rw[h];rfl
  rw[this];exact Fw.refl x
 .have:jd x o=(bz z,v,0):=by unfold jd;rw[d.mc];rfl
  rw[this];exact f.trans (Dk d.rt)
theorem WR{x:Hp}(h1:kc x)(h2:Wk x){L:List Int}(h3:aE x L){r:Nat}(hr:r<6){h:Int}(hh:h=0\/h∈lv x.S):kc (G0 x r h)/\Wk (G0 x r h)/\aE (G0 x r h) L:=by
 have wm:=H6 h1.sr h (f:=Y9) λc=>E4;have l1:lv (E5 x h).S=lv x.S:=wm.lv;have f1:aE (E5 x h) (h::L):=EY h1.sr h3 h;have s1:kc (E5 x h):=h1.st h (f:=Y9) λc=>E4;have s2:kc (wR (E5 x h) (x.Roots.set r h)):=s1.roots (by rw[zap];exact h1.r6) λv hv=>by
  rw[l1];rcases zas hv with q | q
  .exact h1.rt v q
  .exact q▸hh
 have w1:Wk (E5 x h):=h2.st h1.sr h (f:=Y9) λc=>E4;have one:∀v k,R7 [v] k=if v=k/\k≠0 then 1 else 0:=λv k=>by rw[H8,I1,zak]
 have f2:aE (wR (E5 x h) (x.Roots.set r h)) (x.Roots.getD r 0::L):=f1.mv rfl (λ_ _=>rfl) λk hk=>by
  have:=xk (l:=x.Roots) (r:=r) (by rw[h1.r6];exact hr) h k;rw[one,one] at this;rw[po x h];unfold lM oc;dsimp only;rw[F8,F8,pF,pF,H8 h L,H8 (x.Roots.getD r 0) L];omega
 exact⟨s2.st _ λc=>P4,Wk.st (x:=wR (E5 x h) (x.Roots.set r h)) w1 s2.sr _ λc=>P4,tV (x:=wR (E5 x h) (x.Roots.set r h)) s2.sr f2⟩
abbrev uz(x:Hp)(ts:List g5):Hp:=wQ x ⟨ts,x.Q.Cap⟩
noncomputable def wi(x:Hp)(ts:List g5)(h:Int):Hp:=aA (G0 (uz x ts) 5 h) h
section
variable{x:Hp}(hx:J8 x){t:g5}{ts:List g5}(hq:x.Q.L=t::ts)
include hx hq
theorem Dt:kc (uz x ts):=by
 have h:=hx.sh;refine⟨h.sr,h.hr,h.r6,h.c6,h.cap,?_,λu hu=>h.tk u (by rw[hq];exact zn _ hu),?_,h.rt,h.fl,h.pr,λi hi=>?_⟩
 .have:=h.q30;rw[hq,zH] at this;show ts.length<=30;omega
 .have:=h.td;rw[hq,zbb] at this;exact this.2
 .obtain⟨a,b,c,d,e⟩:=h.cl i hi;refine⟨a,b,c,d,λq=>⟨(e q).1,?_⟩⟩;have:=(e q).2;rw[zbj] at this |-;intro r;obtain⟨u,hu,k1,k2⟩:=gK.1 r;exact this (gK.2 ⟨u,by rw[hq];exact zn _ hu,k1,k2⟩)
theorem Fp:aE (uz x ts) (if t.Kind=1 then [t.At] else []):=hx.fair.mv rfl (λ_ _=>rfl) λh _=>by
 unfold lM oc oT;dsimp only;rw[hq,or];by_cases k:t.Kind=1
 .rw[zb k,zb (by simpa using k),zT,F8,F8,H8 t.At (List.map _ _),H8 t.At [],I1];omega
 .rw[za k,za (by simpa using k),I1]
theorem FY(hk:t.Kind≠1):J8 (uz x ts):=⟨Dt hx hq,hx.wk,by have:=Fp hx hq;rwa [za hk] at this⟩
theorem Gs(hk:t.Kind=1):t.At∈lv x.S/\(ob x.S t.At).Started=true:=by
 rcases (hx.sh.tk t (by rw[hq];exact zg ..)).2.2 with ⟨_,b,c⟩ | ⟨b,_⟩;·exact⟨b,c⟩
 .omega
theorem lA(hk:t.Kind=1):J8 (wi x ts t.At):=by
 have f:=Fp hx hq;rw[zb hk] at f;obtain⟨a,b,c⟩:=WR (Dt hx hq) (x:=uz x ts) hx.wk f (r:=5) (by decide) (.inr (Gs hx hq hk).1);exact⟨a.st _ λc=>P4,b.st a.sr _ λc=>P4,tV a.sr c⟩
omit hq in
theorem Mi (hS:SL x) (h:Int):SL (wi x ts h):=by
 have k:=pk (x:=uz x ts) hx.sh.sr hS 5 h;exact Db [h] (dc (x:=uz x ts) hx.sh.sr 5 h).sr k
omit hq in
theorem Tu (h:Int):Ks x.S (wi x ts h).S:=by
 have k:=dc (x:=uz x ts) hx.sh.sr 5 h;exact k.trans (Dc k.sr h)
omit hq in
theorem Mh (h:Int):(wi x ts h).Roots=x.Roots.set 5 h/\(wi x ts h).b7=x.b7/\(wi x ts h).T=x.T/\(wi x ts h).Q=⟨ts,x.Q.Cap⟩:=by
 obtain⟨a,b,c,d⟩:=yI (G0 (uz x ts) 5 h) h;obtain⟨a',b',c',d'⟩:=jM (uz x ts) 5 h;exact⟨a.trans a',b.trans b',c.trans c',d.trans d'⟩
omit hq in
theorem Tt (h:Int):Fw (uz x ts) (wi x ts h):=Fw.of ((EX (x:=uz x ts) hx.sh.sr 5 h).trans (Dd (dc (x:=uz x ts) hx.sh.sr 5 h).sr h)) (Mh hx h).2.2.2
end
def DE(ps:List (List g7))(n:Int):List g7:=if n<0\/(ps.length:Int)<=n then [] else ps.getD n.toNat []
noncomputable def pre(x:Hp)(t:g5)(ts:List g5):Hp:=if t.Kind=1 then bz (wi x ts t.At) else uz x ts
noncomputable def UJ(ps:List (List g7))(x:Hp)(t:g5)(ts:List g5):Hp:=(runs (pre x t ts) (DE ps t.Prog)).1
noncomputable def JW(ps:List (List g7))(x:Hp)(t:g5)(ts:List g5):Hp:=if t.Kind=1 then bz (G0 (UJ ps x t ts) 5 0) else UJ ps x t ts
structure Oh (x:Hp):Prop where
 rt:J8 x
 sl:SL x
 zr:zr x = []
theorem Vr.ok{x y:Hp}{o:g7}{v e:Int}(n:Vr x o y v e):Oh y:=⟨n.rt,n.sl,n.zr⟩
theorem Jj{x:Hp}(h:J8 x)(s:SL x):Oh (bz x):=⟨nx h,Jk h s,BH h⟩
theorem Oe{x:Hp}(hx:Oh x)(l:List g7)(hb:x.S.Serial+l.length<9223372036854775807):Oh (runs x l).1/\Fw x (runs x l).1/\(runs x l).1.S.Serial<=x.S.Serial+l.length/\(runs x l).2.length=l.length:=by
 have key:∀k,k<=l.length->Oh (runs x (l.take k)).1/\Fw x (runs x (l.take k)).1/\(runs x (l.take k)).1.S.Serial<=x.S.Serial+k/\(runs x (l.take k)).2.length=k:=by
  intro k;induction k with
  | zero=>exact λ_=>⟨hx,Fw.refl x,by show x.S.Serial<=_;omega,rfl⟩
  | succ k ih=>
   intro hk;obtain⟨a,b,c,d⟩:=ih (by omega);have hk':k<l.length:=by omega
   have n:=tL a.rt a.sl a.zr (by omega) l[k];rw[U5 hk',qg];exact⟨n.ok,b.trans (LX a.rt a.sl a.zr (by omega) _),by have:=n.ev.s2;show (jd _ _).1.S.Serial<=_;omega,by simp[d]⟩
 have:=key l.length (zE _);rwa [zR] at this
section
variable{x:Hp}(hx:Oh x){t:g5}{ts:List g5}(hq:x.Q.L=t::ts)(ps:List (List g7))
include hx hq
theorem GM:Oh (pre x t ts):=by
 unfold pre;split
 .rename_i k;exact Jj (lA hx.rt hq k) (Mi hx.rt hx.sl _)
 .rename_i k;exact⟨FY hx.rt hq k,hx.sl,hx.zr⟩
theorem UB:Fw (uz x ts) (pre x t ts):=by
 unfold pre;split
 .rename_i k;exact (Tt hx.rt _).trans (Dk (lA hx.rt hq k))
 .exact Fw.refl _
theorem CO:(pre x t ts).S.Serial=x.S.Serial:=by
 unfold pre;split
 .rename_i k;rw[(ma (lA hx.rt hq k)).aW,(Tu hx.rt _).aW]
 .rfl
variable(hb:x.S.Serial+(DE ps t.Prog).length<9223372036854775807)
include hb
theorem CX:Oh (UJ ps x t ts)/\Fw (uz x ts) (UJ ps x t ts)/\(UJ ps x t ts).S.Serial<=x.S.Serial+(DE ps t.Prog).length:=by
 have e:=CO hx hq;obtain⟨a,b,c,_⟩:=Oe (GM hx hq) (DE ps t.Prog) (by rw[e];exact hb);exact⟨a,(UB hx hq).trans b,by rw[e] at c;exact c⟩
theorem HW:Oh (JW ps x t ts)/\Fw (uz x ts) (JW ps x t ts)/\(JW ps x t ts).S.Serial<=x.S.Serial+(DE ps t.Prog).length/\(t.Kind=1->sd (JW ps x t ts) 5=0):=by
 obtain⟨a,b,c⟩:=CX hx hq ps hb;unfold JW;split
 .have hz:=bO a.rt (r:=5) (by decide) (h:=0) (.inl rfl);have k:=dc a.rt.sh.sr 5 0;refine⟨Jj hz (pk a.rt.sh.sr a.sl 5 0),(b.trans (jL a.rt.sh.sr 5 0)).trans (Dk hz),?_,λ_=>(vn a.rt (a:=5) (by decide) (h:=0) (.inl rfl)).1⟩;rw[(ma hz).aW,k.aW];exact c
 .exact⟨a,b,c,λq=>absurd q (by assumption)⟩
end
def AA(ps:List (List g7))(t:g5):Int:=1+((DE ps t.Prog).length:Int)
def can(ps:List (List g7))(p:Hp × Int):Prop:=∃t ts,p.1.Q.L=t::ts/\AA ps t<=p.2
noncomputable def Ss(ps:List (List g7))(p:Hp × Int):Hp × Int:=match p.1.Q.L with
 | []=>p
 | t::ts=>if AA ps t<=p.2 then (JW ps p.1 t ts,p.2-AA ps t) else p
noncomputable def dN(ps:List (List g7)):Nat->Hp × Int->Hp × Int
 | 0,p=>p
 | n+1,p=>dN ps n (Ss ps p)
section
variable(ps:List (List g7))
theorem pQ(n:Nat)(p:Hp × Int):dN ps (n+1) p=Ss ps (dN ps n p):=by
 induction n generalizing p with
 | zero=>rfl
 | succ n ih=>exact ih (Ss ps p)
theorem IG{p:Hp × Int}(h:p.1.Q.L = []):Ss ps p=p:=by unfold Ss;rw[h]
theorem jG{p:Hp × Int}{t:g5}{ts:List g5}(h:p.1.Q.L=t::ts):Ss ps p=if AA ps t<=p.2 then (JW ps p.1 t ts,p.2-AA ps t) else p:=by unfold Ss;rw[h]
theorem xz{p:Hp × Int}{t:g5}{ts:List g5}(h:p.1.Q.L=t::ts):can ps p↔AA ps t<=p.2:=by
 constructor
 .rintro⟨u,us,e,c⟩;rw[h] at e;injection e with e1 e2
  rw[e1];exact c
 .exact λc=>⟨t,ts,h,c⟩
theorem QE{p:Hp × Int}(h:¬can ps p):Ss ps p=p:=by
 cases e:p.1.Q.L with
 | nil=>exact IG ps e
 | cons t ts=>rw[jG ps e,za (λq=>h ((xz ps e).2 q))]
theorem sx(t:g5):1<=AA ps t:=by unfold AA;omega
theorem HS{p:Hp × Int}(hb:0<=p.2):∃n:Nat,(n:Int)<=p.2/\¬can ps (dN ps n p)/\∀j,j<n->can ps (dN ps j p):=by
 have key:∀m:Nat,(∃n:Nat,n<=m/\¬can ps (dN ps n p))\/((dN ps m p).2+m<=p.2/\0<=(dN ps m p).2):=by
  intro m;induction m with
  | zero=>exact .inr ⟨by show p.2+((0:Nat):Int)<=_;omega,hb⟩
  | succ m ih=>
   rcases ih with ⟨n,h1,h2⟩ | ⟨h1,h2⟩;·exact .inl ⟨n,by omega,h2⟩
   .by_cases q:can ps (dN ps m p)
    .right;obtain⟨t,ts,e,c⟩:=q;have:=sx ps t;rw[pQ,jG ps e,zb c];dsimp only;omega
    .exact .inl ⟨m,by omega,q⟩
 have hex:∃n:Nat,(n:Int)<=p.2/\¬can ps (dN ps n p):=by
  rcases key (p.2.toNat+1) with ⟨n,h1,h2⟩ | ⟨h1,h2⟩
  .rcases zF n (p.2.toNat+1) with q | q
   .exact⟨n,by omega,h2⟩
   .have hn:n=p.2.toNat+1:=by omega
    rcases key p.2.toNat with ⟨n,h1,h2⟩ | ⟨h1,h3⟩;·exact⟨n,by omega,h2⟩
    .refine⟨p.2.toNat,by omega,λ⟨t,ts,e,c⟩=>?_⟩;have:=sx ps t;omega
  .omega
 obtain⟨n,⟨hn,hz⟩,hmin⟩:=dz hex;refine⟨n,hn,hz,λj hj=>q9 λq=>?_⟩;have:=hmin j ⟨by omega,q⟩;omega
theorem xC{p:Hp × Int}(hx:Oh p.1)(hb:0<=p.2)(hs:p.1.S.Serial+p.2<9223372036854775807):∀n,Oh (dN ps n p).1/\0<=(dN ps n p).2/\(dN ps n p).2<=p.2/\(dN ps n p).1.S.Serial+(dN ps n p).2<=p.1.S.Serial+p.2
 | 0=>⟨hx,hb,zaf _,zaf _⟩
 | n+1=>by
  obtain⟨a,b,c,d⟩:=xC hx hb hs n;rw[pQ];cases e:(dN ps n p).1.Q.L with
  | nil=>rw[IG ps e];exact⟨a,b,c,d⟩
  | cons t ts=>
   rw[jG ps e];split
   .rename_i q;have q2:=q;unfold AA at q2;obtain⟨r1,_,r3,_⟩:=HW a e ps (by omega);refine⟨r1,?_,?_,?_⟩;·dsimp only;omega
    .have:=sx ps t;dsimp only;omega
    .dsimp only;unfold AA;omega
   .exact⟨a,b,c,d⟩
end
noncomputable def dn(ps:List (List g7))(p:Hp × Int):Nat:=if h:0<=p.2 then Classical.choose (HS ps h) else 0
theorem HV(ps:List (List g7)){p:Hp × Int}(h:0<=p.2):(dn ps p:Int)<=p.2/\¬can ps (dN ps (dn ps p) p)/\∀j,j<dn ps p->can ps (dN ps j p):=by
 unfold dn;rw[dif_pos h];exact zaz (HS ps h)
noncomputable def dr(ps:List (List g7))(p:Hp × Int):Hp × Int:=dN ps (dn ps p) p
theorem VQ(ps:List (List g7)){x:Hp}{f:Int}(hx:Oh x)(hf:0<=f)(hs:x.S.Serial+f<9223372036854775807):Oh (dr ps (x,f)).1/\0<=(dr ps (x,f)).2/\(dr ps (x,f)).2<=f/\(dr ps (x,f)).1.S.Serial+(dr ps (x,f)).2<=x.S.Serial+f:=xC ps (p:=(x,f)) hx hf hs _
section
variable{x:Hp}(hx:kc x)(hS:∀k∈lv x.S,(ob x.S k).Strong<=9223372036854775807)
include hx hS
theorem TY{h:Int}(hh:h=0\/h∈lv x.S):h<=9223372036854775807:=by
 rcases hh with q | q
 .omega
 .have:=H4 hx.sr q;omega
theorem Oa(k:Int){h:Int}(hh:h<=9223372036854775807):bZ x k h=some (if k<0\/5<k then (x,6) else if h=0\/h∈lv x.S then (G0 x k.toNat h,0) else (x,3)):=by
 have hR:=hx.sr;have r6:=hx.r6;unfold bZ;by_cases hk:k<0\/5<k
 .rw[zb hk,zb (by rw[r6];simp;omega)]
 .rw[za hk,za (by rw[r6];simp;omega),N3 hR hh,Yy];by_cases hn:h=0\/h∈lv x.S
  .rw[zb hn,zC hn,za (by simp)];obtain⟨n,rfl⟩:∃n:Nat,k=n:=⟨k.toNat,by omega⟩;have hn6:n<6:=by omega
   have hnl:n<x.Roots.length:=by omega
   have old:x.Roots[n]<=9223372036854775807:=TY hx hS (hx.rt _ (zh hnl));have e1:=tY x h;have hn2:n<(E5 x h).Roots.length:=by rw[e1.1];exact hnl
   rw[s7 hnl,Yy];unfold G4 R9 y5;rw[lX hR hh hS,Yy];dsimp only;rw[dj (by omega) (by rw[e1.1];omega),Yy,s7 hn2,Yy,Yy];have hrel:=gj (x:=wR (E5 x h) (x.Roots.set n h)) (jN hR h) old;rw[zP,e1.1,show E0 ⟨(E5 x h).S,x.Roots.set n h,(E5 x h).b7,(E5 x h).T,(E5 x h).Q⟩ x.Roots[n]=_ from hrel];unfold G0;rw[zd,zc hnl];rfl
  .rw[za hn,zY hn,zb (by simp)]
end
theorem vj(ps:List (List g7))(n:Int):dy ps n=some (DE ps n):=by
 unfold dy DE;by_cases h:n<0\/(ps.length:Int)<=n
 .rw[zb (by simpa using h),zb h]
 .rw[za (by simpa using h),za h];obtain⟨k,rfl⟩:∃k:Nat,n=k:=⟨n.toNat,by omega⟩;have hk:k<ps.length:=by omega
  rw[s7 hk,Yy,zP,zd,zc hk];rfl
abbrev Xq(ps:List (List g7)):List (List fu):=ps.map (List.map Yq)
def Mp(ps:List (List g7)):Prop:=∀p∈ps,p.length<=6
theorem CP{ps:List (List g7)}(h:Mp ps)(n:Int):(DE ps n).length<=6:=by
 unfold DE;split;·simp
 .rename_i q;have hk:n.toNat<ps.length:=by omega
  rw[zd,zc hk];exact h _ (zh hk)
theorem wW{ps:List (List g7)}(h:Mp ps)(t:g5):bE ps t=some (AA ps t):=by
 have:=CP h t.Prog;unfold bE AA;rw[vj,Yy,P1 (by omega) (by omega)]
theorem Gj(x:Hp):gO x=some (x.Q.L.isEmpty):=by
 unfold gO;rw[yW,Yy];unfold RC;cases x.Q.L <;> rfl
section
variable{x:Hp}(hx:Oh x){t:g5}{ts:List g5}(hq:x.Q.L=t::ts){ps:List (List g7)}(hm:Mp ps)(hb:x.S.Serial<9000000000000000000)
include hx hq hm hb
theorem Ow:mM x ps=some (JW ps x t ts,t,0):=by
 have eN:=CP hm t.Prog;have pok:=GM hx hq;have pser:=CO hx hq;obtain⟨rok,_,_⟩:=CX hx hq ps (by omega);have hrun:=(run_eq pok.rt pok.sl pok.zr (DE ps t.Prog) (by omega) (by rw[pser];omega)).1;have hrun':gT (pre x t ts) (DE ps t.Prog)=some (UJ ps x t ts,(runs (pre x t ts) (DE ps t.Prog)).2):=hrun;have hz:=bO rok.rt (r:=5) (by decide) (h:=0) (.inl rfl);have zS:=pk rok.rt.sh.sr rok.sl 5 0;unfold mM;rw[yW,Yy];have e:RC x.Q=(⟨ts,x.Q.Cap⟩,t,0):=by unfold RC;rw[hq]
 rw[e];dsimp only;rw[za (by simp)];simp only[jn];by_cases k:t.Kind=1
 .have hk:(t.Kind==1)=true:=by simpa using k
  have hat:=(Gs hx.rt hq k).1;have ush:=Dt hx.rt hq;have hm1:=qN hx.rt.sh.sr hat;have e1:bZ ⟨x.S,x.Roots,x.b7,x.T,⟨ts,x.Q.Cap⟩⟩ 5 t.At=some (G0 (uz x ts) 5 t.At,0):=by
   have:=Oa (x:=uz x ts) ush hx.sl 5 hm1;rw[za (by omega),zb (.inr hat)] at this;exact this
  have e2:E0 (G0 (uz x ts) 5 t.At) t.At=some (wi x ts t.At):=gj (dc (x:=uz x ts) hx.rt.sh.sr 5 t.At).sr hm1;have e3:=jk (lA hx.rt hq k) (Mi hx.rt hx.sl t.At);have e4:pre x t ts=bz (wi x ts t.At):=by unfold pre;rw[zb k]
  have e5:=Jf rok.rt rok.sl 5 (h:=0) (by decide);rw[za (by omega),zb (.inl rfl)] at e5;rw[zb hk,e1,Yy];dsimp only;rw[e2,Yy,e3,Yy,vj,Yy,<-e4,hrun',Yy,zb hk];dsimp only;rw[e5,Yy];refine rV (jk hz zS) ?_;unfold JW;rw[zb k];rfl
 .have hk:¬(t.Kind==1)=true:=by simpa using k
  have e4:pre x t ts=uz x ts:=by unfold pre;rw[za k]
  rw[za hk,vj,Yy,show (⟨x.S,x.Roots,x.b7,x.T,⟨ts,x.Q.Cap⟩⟩:b9)=pre x t ts from e4.symm,hrun',Yy,za hk];unfold JW;rw[za k]
end
section
variable{x:Hp}(hx:Oh x){ps:List (List g7)}(hm:Mp ps){f:Int}(hf:0<=f)(hf2:f<=1000000)(hb:x.S.Serial<8000000000000000000)
include hx hm hf hf2 hb
def Sd(p:Hp × Int):Int:=if p.1.Q.L.isEmpty then 0 else 12
theorem drain_eq:gN x ps f=some ((dr ps (x,f)).1,(dn ps (x,f):Int),(dr ps (x,f)).2,Sd (dr ps (x,f))):=by
 obtain⟨a1,a2,a3⟩:=HV ps (p:=(x,f)) hf;have all:=xC ps (p:=(x,f)) hx hf (by show x.S.Serial+f<_;omega);unfold gN;simp only[jn];dsimp only at a1;refine lE (λk=>((dN ps k (x,f)).2,(dN ps k (x,f)).1,(k:Int),(dN ps k (x,f)).2,(dN ps k (x,f)).1)) rfl (dn ps (x,f)) (λ_=>True) (by omega) trivial (λk hk _=>.inl ⟨?_,trivial⟩) (λ_=>⟨((dn ps (x,f):Int),(dr ps (x,f)).2,(dr ps (x,f)).1),?_,?_⟩)
 .obtain⟨b1,b2,b3,b4⟩:=all k;obtain⟨t,ts,e,c⟩:=a3 k hk;dsimp only at b2 b3 b4;have hc:=sx ps t;rw[Gj,e,Yy];show (aY _).bind _=_;rw[yW,Yy];have e2:RC (dN ps k (x,f)).1.Q=(⟨ts,(dN ps k (x,f)).1.Q.Cap⟩,t,0):=by unfold RC;rw[e]
  rw[e2];dsimp only;rw[wW hm,Yy,za (by simp;omega),Ow b1 e hm (by omega),Yy,P1 (by omega) (by omega),n9,pQ,jG ps e,zb c]
 .rw[Gj,Yy];cases e:(dN ps (dn ps (x,f)) (x,f)).1.Q.L with
  | nil=>rfl
  | cons t ts=>
   have hc:¬AA ps t<=(dN ps (dn ps (x,f)) (x,f)).2:=λq=>a2 ((xz ps e).2 q);show (aY _).bind _=_;rw[yW,Yy];have e2:RC (dN ps (dn ps (x,f)) (x,f)).1.Q=(⟨ts,(dN ps (dn ps (x,f)) (x,f)).1.Q.Cap⟩,t,0):=by unfold RC;rw[e]
   rw[e2];dsimp only;rw[wW hm,Yy,zb (by simp;omega)];rfl
 .dsimp only;rw[Gj,Yy];unfold Sd;cases (dr ps (x,f)).1.Q.L.isEmpty <;> rfl
end
theorem Wu{l:List (List g7)}(h:fp l=true):Mp l/\l.length<=6:=by
 unfold fp at h;rw[zy,zG,zf] at h;refine⟨λp hp=>?_,h.1⟩;have:=h.2 p hp;unfold tP at this;rw[zy,zG] at this;exact this.1
noncomputable def eo(ps:List (List g7))(x:Hp)(o:g7):Hp × Int × Int:=
 if o.Kind=11 then (wV x,LM x-((jc x).length:Int),0)
 else if o.Kind=12 then ((dr ps (x,o.A)).1,(dn ps (x,o.A):Int),Sd (dr ps (x,o.A)))
 else jd x o
noncomputable def er(ps:List (List g7))(x:Hp)(row:List Int):Hp × Int × Int:=if (aI row).2≠0 then (x,0,(aI row).2) else eo ps x (aI row).1
noncomputable def iO(ps:List (List g7))(x:Hp)(rows:List (List Int)):Hp × List (Int × Int):=rows.foldl (λp r=>((er ps p.1 r).1,p.2 ++ [(er ps p.1 r).2])) (x,[])
theorem xH(ps:List (List g7))(x:Hp)(l:List (List Int))(r:List Int):iO ps x (l ++ [r])=((er ps (iO ps x l).1 r).1,(iO ps x l).2 ++ [(er ps (iO ps x l).1 r).2]):=by
 unfold iO;rw[zal];rfl
theorem Cg(ps:List (List g7)):∀(l:List (List Int)) (x:Hp) (a:List (Int × Int)),l.foldl (λp r=>((er ps p.1 r).1,p.2 ++ [(er ps p.1 r).2])) (x,a)=((iO ps x l).1,a++(iO ps x l).2)
 | [],x,a=>by simp[iO]
 | r::l,x,a=>by
  unfold iO;rw[zai,zai,Cg ps l,Cg ps l _ ([]++_)];simp
theorem HY(ps:List (List g7))(x:Hp)(l m:List (List Int)):iO ps x (l++m)=((iO ps (iO ps x l).1 m).1,(iO ps x l).2++(iO ps (iO ps x l).1 m).2):=by
 have:iO ps x (l++m)=m.foldl (λp r=>((er ps p.1 r).1,p.2 ++ [(er ps p.1 r).2])) (iO ps x l):=by
  unfold iO;rw[zal]
 rw[this];exact Cg ps m (iO ps x l).1 (iO ps x l).2
theorem HZ(ps:List (List g7))(x:Hp)(l:List (List Int)):(iO ps x l).2.length=l.length:=by
 induction l generalizing x with
 | nil=>rfl
 | cons r l ih=>
  have:=HY ps x [r] l;rw[List.singleton_append] at this;rw[this,zK,ih];show 1+l.length=l.length+1;omega
theorem wY{row:List Int}(h:(aI row).2=0):y4 (aI row).1.Kind (aI row).1.A (aI row).1.B (aI row).1.C=0:=by
 unfold aI at h |-;rcases four row with ⟨k,a,b,c,rfl⟩ | hl
 .rw[HU,ww] at h |-;by_cases q:y4 k a b c≠0
  .rw[zb q] at h;exact absurd h q
  .rw[za q];exact Classical.not_not.1 q
 .rw[(Cb hl).1,ww] at h;exact absurd h (by decide)
theorem HQ{a b c:Int}(h:y4 12 a b c=0):0<=a/\a<=200:=Bk (by decide) (show P2 a 0 200 12=0 from h)
section
variable{ps:List (List g7)}(hm:Mp ps){x:Hp}(hx:Oh x)(hb:x.S.Serial<7000000000000000000)
include hm hx hb
theorem VR{o:g7}(ho:o.Kind=12->0<=o.A/\o.A<=200):Oh (eo ps x o).1/\(eo ps x o).1.S.Serial<=x.S.Serial+201:=by
 unfold eo;split
 .obtain⟨a,b,c⟩:=Ge hx.rt hx.sl hx.zr;refine⟨⟨a,b,c⟩,?_⟩;show (wV x).S.Serial<=_;rw[PR hx.rt hx.sl hx.zr];omega
 .split
  .rename_i h;obtain⟨h0,h2⟩:=ho h;obtain⟨a,b,c,d⟩:=VQ ps hx h0 (by omega);exact⟨a,by show (dr ps (x,o.A)).1.S.Serial<=_;omega⟩
  .have n:=tL hx.rt hx.sl hx.zr (by omega) o;have:=n.ev.s2;exact⟨n.ok,by omega⟩
theorem VS(row:List Int):Oh (er ps x row).1/\(er ps x row).1.S.Serial<=x.S.Serial+201:=by
 unfold er;split;·exact⟨hx,by show x.S.Serial<=_;omega⟩
 .rename_i h;have hc:=wY (Classical.not_not.1 h);refine VR hm hx hb λhk=>?_;rw[hk] at hc;exact HQ hc
end
theorem Ch{ps:List (List g7)}(hm:Mp ps){x:Hp}(hx:Oh x):∀(l:List (List Int)),x.S.Serial+201*(l.length:Int)<7000000000000000000->Oh (iO ps x l).1/\(iO ps x l).1.S.Serial<=x.S.Serial+201*(l.length:Int):=by
 intro l;induction l generalizing x with
 | nil=>exact λ_=>⟨hx,by show x.S.Serial<=_;simp⟩
 | cons r l ih=>
  intro hb;rw[zH] at hb |-;obtain⟨a,b⟩:=VS hm hx (by omega) r;obtain⟨c,d⟩:=ih a (by omega);have e:=HY ps x [r] l;rw[List.singleton_append] at e;rw[e];exact⟨c,by
   have:(iO ps (iO ps x [r]).1 l).1.S.Serial<=(er ps x r).1.S.Serial+201*(l.length:Int):=d;show (iO ps (iO ps x [r]).1 l).1.S.Serial<=_;omega⟩
noncomputable def Ry(x:Hp):List Int:=(lv x.S).map λh=>aW x h
inductive Fm (x:Hp) (o:g7) (z:Hp) (v:Int):Prop
 | new (i:Nat) (hF:VC x.S i) (hk:o.Kind=1) (ha:0<=o.A/\o.A<=5) (hn:o.B.toNat<=4) (hc : -1<=o.C/\o.C<=5) (hv:v=x.S.Serial+1) (hz:z=G0 (wS x (dm x.S i o.B.toNat o.C)) o.A.toNat (bX x.S i)):Fm x o z v
 | root (h:Int) (hk:o.Kind≠1) (ha:0<=o.A/\o.A<=5) (hh:h=0\/h∈lv x.S) (hz:z=G0 x o.A.toNat h):Fm x o z v
 | field (h:Int) (n:Nat) (u:Int) (hk:o.Kind=5) (hl:h∈lv x.S) (hn:n<(ob x.S h).Fields.length) (hu:u=0\/u∈lv x.S) (hz:z=bF x h n u):Fm x o z v
 | weak (h:Int) (hk:o.Kind=6) (ha:0<=o.A/\o.A<=5) (hc : -1<=o.C/\o.C<=5) (hh:h=0\/h∈lv x.S) (hw:vZ x.Q o.A=false) (hz:z=cH x o.A.toNat h o.C):Fm x o z v
 | pair (h u:Int) (r:Tb × Int × Int) (hk:o.Kind=8) (hl:h∈lv x.S) (hu:u=0\/u∈lv x.S) (hr:U4 x.T h u=some r) (h0:r.2.2=0) (hz:z=iJ x u r.1 r.2.1):Fm x o z v
 | same (hk:o.Kind=10) (hz:z=x):Fm x o z v
theorem Fm.ks{x z:Hp}{o:g7}{v:Int}(hx:J8 x)(f:Fm x o z v)(hk:o.Kind≠1):Ks x.S z.S:=by
 have hR:=hx.sh.sr;cases f with
 | new i hF hk'=>exact absurd hk' hk
 | root h _ ha hh hz=>rw[hz];exact dc hR _ _
 | field h n u _ hl hn hu hz=>rw[hz];exact Bc hR hl hn u
 | weak h _ ha hc hh hw hz=>rw[hz];exact Ft hx (by omega) h _
 | pair h u r _ hl hu hr h0 hz=>rw[hz];exact EH hR u _ _
 | same _ hz=>rw[hz];exact Ks.refl hR
def Xg(p:Int × Int):g9:=⟨p.1,p.2⟩
section
variable{ps:List (List g7)}(hm:Mp ps){x:Hp}(hx:Oh x)(hb:x.S.Serial<7000000000000000000)
include hm hx hb
theorem Ta : -24<=LM x-((jc x).length:Int)/\LM x-((jc x).length:Int)<=24:=by
 have h1:=HK hx.rt hx.sl hx.zr;have h2:(lv x.S).length<=24:=M1 (A0.2 hx.rt.sh.sr);obtain⟨c1,_,_⟩:=Ge hx.rt hx.sl hx.zr;have h3:(lv (wV x).S).length<=24:=M1 (A0.2 c1.sh.sr);unfold LM;split
 .rename_i e;rw[e];simp;omega
 .omega
theorem Yn(row:List Int):pR ⟨x,ps⟩ row=some (⟨(er ps x row).1,ps⟩,Xg (er ps x row).2):=by
 unfold pR;rw[(DT row).1,Yy];unfold er;by_cases h:(aI row).2=0
 .rw[za (show ¬(((aI row).2 != 0)=true) by simp[h]),za (show ¬((aI row).2≠0) by simp[h])];have hc:=wY h;generalize (aI row).1=o at hc;unfold mO eo;by_cases k11:o.Kind=11
  .rw[zb (by simp[k11]),zb k11];refine zcu (b:=(aG x).bind λv4=>some (⟨v4.1,ps⟩,⟨u7 (v4.2.2-v4.2.1),0⟩)) rfl ?_;obtain⟨b1,b2⟩:=Ta hm hx hb;rw[Tk hx.rt hx.sl hx.zr,Yy];dsimp only;rw[P1 (by omega) (by omega)];rfl
  .rw[za (by simp[k11]),za k11];by_cases k12:o.Kind=12
   .rw[zb (by simp[k12]),zb k12];refine zcu (b:=(gN x ps o.A).bind λv5=>some (⟨v5.1,ps⟩,⟨v5.2.1,v5.2.2.2⟩)) rfl ?_;rw[k12] at hc;obtain⟨a0,a2⟩:=HQ hc;rw[drain_eq hx hm a0 (by omega) (by omega),Yy];rfl
   .rw[za (by simp[k12]),za k12];refine zcu (b:=(u4 x o).bind λv3=>some (⟨v3.1,ps⟩,⟨v3.2.1,v3.2.2⟩)) rfl ?_;rw[(tL hx.rt hx.sl hx.zr (by omega) o).mc,Yy];rfl
 .rw[zb (by simpa using h),zb h];rfl
end
section
variable{ps:List (List g7)}(hm:Mp ps){x:Hp}(hx:Oh x)
include hm hx
theorem Fg{rows:List (List Int)}{k:Nat}(hk:k<rows.length):iO ps x (rows.take (k+1))=((er ps (iO ps x (rows.take k)).1 rows[k]).1,(iO ps x (rows.take k)).2 ++ [(er ps (iO ps x (rows.take k)).1 rows[k]).2]):=by
 rw[zx hk,xH]
theorem XH(rows:List (List Int))(hl:rows.length<=1000)(hb:x.S.Serial<6000000000000000000):mN ⟨x,ps⟩ rows=some (⟨(iO ps x rows).1,ps⟩,(iO ps x rows).2.map Xg):=by
 unfold mN;simp only[jn];refine ca rows.length (λk s=>s=((⟨(iO ps x (rows.take k)).1,ps⟩:r8),(iO ps x (rows.take k)).2.map Xg)) (by omega) rfl (λk s hk hs=>.inl ⟨_,?_,rfl⟩) (λs hs=>⟨s,za (by simp),by rw[hs,zR]⟩);subst hs;obtain⟨o1,o2⟩:=Ch hm hx (rows.take k) (by simp;omega);have hlen:=HZ ps x (rows.take k);have hkl:(rows.take k).length=k:=by simp;omega
 dsimp only;rw[zb (by simpa using hk),s7 hk,Yy,Yn hm o1 (by rw[hkl] at o2;omega),Yy,K5 (by omega) (by simp[hlen];omega),Yy,n9,Fg hm hx hk];simp
end
section
variable{ps:List (List g7)}{x:Hp}(hx:J8 x)
include hx
end
theorem Rs.oh{x:Hp}{n:Nat}(h:Rs x n):Oh x:=⟨h.rt,h.sl,h.zr⟩
theorem Wz{n last places:Int}{ps:List (List g7)}(hl:ps.length<=12)(hp:∀p∈ps,p.length<=12) :
  (∃e,R8 n last places ps=some (⟨Qi,[]⟩,e)/\CV n last places (Xq ps)=some (⟨hO Qi,[]⟩,e)/\(e=13\/e=1/\¬((1<=n/\n<=24)/\(0<=last/\last<=9)/\1<=places/\places<=8))) \/
  (∃k p:Nat,n=k/\places=p/\(1<=k/\k<=24)/\Mp ps/\Rs (pW k last p) 0/\R8 n last places ps=some (⟨pW k last p,ps⟩,0)/\CV n last places (Xq ps)=some (⟨hO (pW k last p),Xq ps⟩,0)):=by
 have e1:fS ps=some (fp ps):=EL (by omega) hp;have e2:pZ (Xq ps)=some (fp ps):=GO (by omega) hp;unfold R8 CV;rw[e1,e2,Yy,Yy];cases hq:fp ps;·exact .inl ⟨13,rfl,rfl,.inl rfl⟩
 .simp only[zcc,zD,qr];by_cases h:(1<=n/\n<=24)/\(0<=last/\last<=9)/\1<=places/\places<=8
  .right;obtain⟨h1,h2,h3⟩:=h;obtain⟨k,rfl⟩:∃k:Nat,n=k:=⟨n.toNat,by omega⟩;obtain⟨p,rfl⟩:∃p:Nat,places=p:=⟨places.toNat,by omega⟩;obtain⟨a1,a2,hx,hS,hz⟩:=MC (k:=k) (p:=p) (l:=last) (by omega) h2 (by omega);refine⟨k,p,rfl,rfl,by omega,(Wu hq).1,⟨hx,hS,hz,zaf _⟩,?_,?_⟩
   .rw[a1,Yy,hx.sh.r6];rfl
   .rw[a2,Yy,show (hO (pW k last p)).Roots.length=6 from hx.sh.r6];rfl
  .left;have a1:lD n last places=some Qi:=by
    unfold lD;rw[zb (by simp;omega)];rfl
   have a2:tR n last places=some (hO Qi):=by
    unfold tR;rw[zb (by simp;omega)];rfl
   refine⟨1,?_,?_,.inr ⟨rfl,h⟩⟩;·rw[a1];rfl
   .rw[a2];rfl
theorem Tm{x:Hp}(hx:J8 x)(hS:SL x)(hz:zr x = []):Sv x.S (wV x).S:=by
 unfold wV;split;·exact LJ hx.sh.sr (dB hx) (bG hx)
 .have key:∀k,k<=(jc x).length->Sv x.S (((jc x).take k).foldl gh x).S:=by
   intro k;induction k with
   | zero=>exact λ_=>Sv.refl _
   | succ k ih=>
    intro hk;obtain⟨_,h2,_,h4,_⟩:=Jo hx hS hz (k:=k) (by omega);rw[zx (by omega),zal];exact (ih (by omega)).trans (NQ h2.sh.sr h4)
  have:=key (jc x).length (zE _);rwa [zR] at this
theorem VK(ps:List (List g7)){p:Hp × Int}(hx:Oh p.1)(hb:0<=p.2)(hs:p.1.S.Serial+p.2<9223372036854775807):∀n,Sv p.1.S (dN ps n p).1.S:=by
 intro n;induction n with
 | zero=>exact Sv.refl _
 | succ n ih=>
  obtain⟨a1,a2,a3,a4⟩:=xC ps hx hb hs n;rw[pQ];by_cases c:can ps (dN ps n p)
  .obtain⟨t,ts,e,q⟩:=c;rw[jG ps e,zb q];have hc:((DE ps t.Prog).length:Int)+1<=(dN ps n p).2:=by unfold AA at q;omega
   have:=(HW a1 e ps (by omega)).2.1.sv;exact ih.trans this
  .rw[QE ps c];exact ih
theorem VU{ps:List (List g7)}(hm:Mp ps){x:Hp}(hx:Oh x)(hb:x.S.Serial<7000000000000000000)(row:List Int):Sv x.S (er ps x row).1.S:=by
 unfold er;split;·exact Sv.refl _
 .rename_i h;have hc:=wY (Classical.not_not.1 h);unfold eo;split;·exact Tm hx.rt hx.sl hx.zr
  .split
   .rename_i k12;rw[k12] at hc;obtain⟨a0,a2⟩:=HQ hc;exact VK ps (p:=(x,(aI row).1.A)) hx a0 (by show x.S.Serial+(aI row).1.A<_;omega) _
   .exact (LX hx.rt hx.sl hx.zr (by omega) _).sv
theorem Ts{ps:List (List g7)}(hm:Mp ps){x:Hp}(hx:Oh x)(hb:x.S.Serial<7000000000000000000)(row:List Int):(er ps x row).1.S.S.b7.length=x.S.S.b7.length:=(VU hm hx hb row).1
theorem Mb{ps:List (List g7)}(hm:Mp ps){x:Hp}(hx:Oh x)(rows:List (List Int))(hl:rows.length<=1000)(hb:x.S.Serial<6000000000000000000):∀k,k<=rows.length->(iO ps x (rows.take k)).1.S.S.b7.length=x.S.S.b7.length:=by
 intro k;induction k with
 | zero=>exact λ_=>rfl
 | succ k ih=>
  intro hk;obtain⟨o1,o2⟩:=Ch hm hx (rows.take k) (by simp;omega);have hkl:(rows.take k).length=k:=by simp;omega
  rw[Fg hm hx (by omega)];show (er ps (iO ps x (rows.take k)).1 _).1.S.S.b7.length=_;rw[Ts hm o1 (by rw[hkl] at o2;omega),ih (by omega)]
theorem NG{x:Hp}(hx:J8 x)(hS:SL x){k v e:Int}(hk:k∈lv x.S)(hv:v=0\/v∈lv x.S)(h:bY x k v=some (x,e))(he:e≠0):e=8:=by
 have hR:=hx.sh.sr;have k0:k≠0:=λq=>eQ hR (q▸hk);unfold bY at h;rw[za (by simpa using k0),N3 hR (tt hx hS (.inr hk)),Yy,N3 hR (tt hx hS hv),zC (.inr hk),zC hv] at h;simp only[zcc,ul,fm,Yy,Bool.or_self,zD,qr] at h;obtain⟨r,r1,_,_,r5⟩:=dL hx.sh.hr k v;rw[r1,Yy] at h;by_cases h0:r.2.2=0
 .have e1:(r.2.2 != 0)=false:=by simpa using h0
  rw[e1,za (by simp)] at h;cases q:D7 x r.2.1 v ⟨r.1⟩ with
  | none=>rw[q] at h;cases h
  | some w=>
   rw[q,Yy] at h;exact absurd (zW (λp=>p.2) (zJ h)).symm he
 .rw[zb (by simpa using h0)] at h;have:r.2.2=e:=zW (λp=>p.2) (zJ h);rcases r5 with ⟨q,rfl⟩ | ⟨_,_,⟨i,hi,rfl⟩ | ⟨_,rfl⟩⟩ | ⟨_,_,⟨i,hi,rfl⟩ | ⟨d,_,_,_,_,rfl⟩ | ⟨_,_,rfl⟩⟩;·exact absurd q k0
  .exact absurd rfl h0
  .exact absurd rfl h0
  .exact absurd rfl h0
  .exact absurd rfl h0
  .exact this.symm
theorem DX{s:b6}(hR:SR s){h:Int}(hh:h∈lv s){n:Nat}(hn:n<(ob s h).Fields.length):J4 s h n=some ((ob s h).Fields[n],0):=by
 unfold J4;rw[uT (A0.2 hR) hh,Yy,za (by simp),Yl hn];rfl
section
variable{x:Hp}(hB:HB x)
include hB
end
theorem Fy{x:Hp}(hx:J8 x){k h c e:Int}(hk:0<=k/\k<=5)(hh:h=0\/h∈lv x.S)(hm:h<=9223372036854775807)(hc : -1<=c/\c<=5)(q:R4 x k h c=some (x,e))(he:e≠0):e=7:=by
 have hR:=hx.sh.sr;have c6:=hx.sh.c6;have q30:=hx.sh.q30;obtain⟨n,rfl⟩:∃n:Nat,k=n:=⟨k.toNat,by omega⟩;unfold R4 at q;have e1:((decide ((n:Int)<0))||(decide ((n:Int)>=(x.b7.length:Int))))=false:=by rw[c6];simp;omega
 rw[e1] at q;simp only[ul,fm,zbe] at q;have hwq:aD x.Q n=some (vZ x.Q n):=xi (by omega);rw[hwq,Yy,N3 hR hm,Yy,zC hh] at q;cases hw:vZ x.Q n
 .rw[hw,za (by decide),za (by decide)] at q;cases g1:jS x.b7 n h c with
  | none=>rw[g1] at q;cases q
  | some a=>
   rw[g1,Yy] at q;cases g2:ah ⟨x.S,x.Roots,a.1,x.T,x.Q⟩ h 1 with
   | none=>rw[g2] at q;cases q
   | some b=>
    rw[g2,Yy] at q;cases g3:aR b a.2.1 with
    | none=>rw[g3] at q;cases q
    | some d=>
     rw[g3,Yy] at q;exact absurd (zW (λp=>p.2) (zJ q)).symm he
 .rw[hw,zb rfl] at q;exact (zW (λp=>p.2) (zJ q)).symm
section
variable{x:Hp}(hB:HB x)
include hB
end
structure Gd (σ:Int->Int) (s:b6):Prop where
 z:σ 0=0
 f:∀h i,T8 s h i->σ h=(ce s i).Val.Serial
def nd(σ:Int->Int)(s:b6)(i:Nat):b8:=⟨(ce s i).Val.Serial,i,(ce s i).Val.Prog,(ce s i).Val.Started,decide ((ce s i).State=1),decide (12<=(ce s i).Val.Strong),(ce s i).Val.Fields.map σ⟩
structure Sn (σ:Int->Int) (s:b6) (l:List b8):Prop where
 up:l.Pairwise λa b=>a.Serial<b.Serial
 mem:∀n,n∈l↔∃i,i<s.S.b7.length/\Th (ce s i)/\n=nd σ s i
def DF(c:c8):Int:=if Th c then c.Val.Serial else if c.State=3 then -1 else 0
def wx(σ:Int->Int)(c:k7):k7:=⟨σ c.Target,c.Intact,c.Call⟩
def tx(σ:Int->Int)(t:g5):g5:=if t.Kind=1 then ⟨1,σ t.At,t.Prog⟩ else t
structure p9 (σ:Int->Int) (x:Hp) (m:a8):Prop where
 gd:Gd σ x.S
 nd:Sn σ x.S m.Nodes
 sl:m.Slots=(List.range x.S.S.b7.length).map λi=>DF (Sh.ce x.S i)
 ge:m.Gens=(List.range x.S.S.b7.length).map λi=>(Sh.ce x.S i).Gen
 la:m.Last=x.S.S.Last
 npl:m.Places=x.T.length
 se:m.Serial=x.S.Serial
 ro:m.Roots=x.Roots.map σ
 ce:m.b7=x.b7.map (wx σ)
 p1:m.Pairs.Pairwise λa b=>a.Key≠b.Key
 p2:∀p,p∈m.Pairs↔∃k v,Has x.T k v/\p=⟨σ k,σ v⟩
 tk:m.Tasks=x.Q.L.map (tx σ)
section
variable{σ:Int->Int}{s:b6}(hR:SR s)(g:Gd σ s)
include hR g
theorem Gd.lv{h:Int}(hh:h∈lv s):σ h=(ob s h).Serial:=by
 have q:=o0 hR hh;rw[F4 hR q,g.f h _ q.d]
theorem Gd.pos{h:Int}{i:Nat}(q:T8 s h i):1<=σ h/\σ h<=s.Serial:=by
 rw[g.f h i q];exact⟨(hR.ok i q.1 q.2.1).s1,(hR.ok i q.1 q.2.1).s2⟩
theorem Gd.inj{h k:Int}{i j:Nat}(q:T8 s h i)(p:T8 s k j)(e:σ h=σ k):h=k:=by
 rw[g.f h i q,g.f k j p] at e;have:=hR.dif i j q.1 p.1 q.2.1 p.2.1 e;subst this;rw[q.2.2,p.2.2]
theorem Gd.inl{h k:Int}(hh:h∈Sh.lv s)(hk:k∈Sh.lv s)(e:σ h=σ k):h=k:=g.inj hR (o0 hR hh).d (o0 hR hk).d e
theorem Gd.ps{h:Int}(hh:h∈Sh.lv s):1<=σ h/\σ h<=s.Serial:=g.pos hR (o0 hR hh).d
theorem Gd.Vv{h k:Int}(hh:h=0\/∃i,T8 s h i)(hk:k=0\/∃i,T8 s k i)(e:σ h=σ k):h=k:=by
 rcases hh with e1 | ⟨i,q⟩ <;> rcases hk with e2 | ⟨j,p⟩
 .rw[e1,e2]
 .subst e1;rw[g.z] at e;have:=g.pos hR p;omega
 .subst e2;rw[g.z] at e;have:=g.pos hR q;omega
 .exact g.inj hR q p e
theorem Gd.zero{h:Int}(hh:h=0\/∃i,T8 s h i):σ h=0↔h=0:=by
 refine⟨λe=>g.Vv hR hh (.inl rfl) (e.trans g.z.symm),λe=>?_⟩;subst e;exact g.z
theorem MT{h:Int}(hh:h=0\/h∈Sh.lv s):h=0\/∃i,T8 s h i:=hh.imp id λq=>⟨_,(o0 hR q).d⟩
theorem xj{l:List Int}(hl:∀v∈l,v=0\/v∈Sh.lv s){h:Int}(hh:h∈Sh.lv s):R7 (l.map σ) (σ h)=R7 l h:=by
 have p:=g.ps hR hh;have p0:=(H4 hR hh).1;unfold R7;rw[za (by omega),za (by omega)];induction l with
 | nil=>rfl
 | cons v l ih=>
  rw[zT,zcs,zcs,ih λu hu=>hl u (zn _ hu)];congr 1;by_cases e:v=h
  .subst e;simp
  .have:σ v≠σ h:=λe'=>e (g.Vv hR (MT hR g (hl v zg)) (.inr ⟨_,(o0 hR hh).d⟩) e');simp[e,this]
end
section
variable{σ:Int->Int}{s:b6}(hR:SR s){l:List b8}(q:Sn σ s l)
include hR q
theorem Sn.one{n m:b8}(hn:n∈l)(hm:m∈l)(e:n.Serial=m.Serial):n=m:=by
 obtain⟨i,hi,ti,rfl⟩:=(q.mem n).1 hn;obtain⟨j,hj,tj,rfl⟩:=(q.mem m).1 hm;have:=hR.dif i j hi hj ti tj e;rw[this]
theorem Sn.at{i:Nat}(hi:i<s.S.b7.length)(ht:Th (ce s i)):Sh.nd σ s i∈l:=(q.mem _).2 ⟨i,hi,ht,rfl⟩
theorem Sn.pos{n:b8}(hn:n∈l):1<=n.Serial/\n.Serial<=s.Serial:=by
 obtain⟨i,hi,ti,rfl⟩:=(q.mem n).1 hn;exact⟨(hR.ok i hi ti).s1,(hR.ok i hi ti).s2⟩
theorem Sn.len:l.length<=24:=by
 have h1:(l.map (·.Slot)).Nodup:=by
  rw[List.Nodup,zbk];refine zbq (λ{a b} ha hb h=>?_) q.up;obtain⟨i,hi,ti,rfl⟩:=(q.mem a).1 ha;obtain⟨j,hj,tj,rfl⟩:=(q.mem b).1 hb;intro e;have:i=j:=by
   have:(i:Int)=(j:Int):=e;omega
  subst this;exact absurd h (zbd _)
 have h2:∀v∈l.map (·.Slot),v∈(List.range s.S.b7.length).map λi:Nat=>(i:Int):=λv hv=>by
  obtain⟨n,hn,rfl⟩:=zq.1 hv;obtain⟨i,hi,ti,rfl⟩:=(q.mem n).1 hn;exact zq.2 ⟨i,zaw.2 hi,rfl⟩
 have:=Z3 h1 h2;rw[zl,zl,zbu] at this;have:=hR.len;omega
theorem Sn.alive:l.filter (·.Alive)=(lv s).map λh=>Sh.nd σ s (D5 h):=by
 have key:∀(a b:List b8),a.Pairwise (λu v=>u.Serial<v.Serial)->b.Pairwise (λu v=>u.Serial<v.Serial)->(∀n,n∈a↔n∈b)->a=b:=by
  intro a;induction a with
  | nil=>intro b _ _ h;cases b with
   | nil=>rfl
   | cons y b=>exact absurd ((h y).2 zg) (by simp)
  | cons x a ih=>
   intro b ha hb h;cases b with
   | nil=>exact absurd ((h x).1 zg) (by simp)
   | cons y b=>
    rw[zbb] at ha hb;have e:x=y:=by
     rcases zM.1 ((h x).1 zg) with e | e
     .exact e
     .rcases zM.1 ((h y).2 zg) with e' | e'
      .exact e'.symm
      .have:=hb.1 x e;have:=ha.1 y e';omega
    subst e;congr 1;refine ih b ha.2 hb.2 λn=>⟨λhn=>?_,λhn=>?_⟩
    .rcases zM.1 ((h n).1 (zn _ hn)) with e | e
     .subst e;have:=ha.1 n hn;omega
     .exact e
    .rcases zM.1 ((h n).2 (zn _ hn)) with e | e
     .subst e;have:=hb.1 n hn;omega
     .exact e
 refine key _ _ (q.up.filter _) ?_ λn=>?_
 .rw[zbk];refine zbq (λ{a b} ha hb h=>?_) (mY (A0.2 hR)).2.2;show (ce s (D5 a)).Val.Serial<(ce s (D5 b)).Val.Serial;rwa [HJ hR (o0 hR ha),HJ hR (o0 hR hb)] at h
 .rw[zi,zq];constructor
  .rintro⟨hn,ha⟩;obtain⟨i,hi,ti,rfl⟩:=(q.mem n).1 hn;have h1:(ce s i).State=1:=by simpa[Sh.nd] using ha
   have hA:At s (bX s i) i:=⟨hi,h1,rfl⟩;exact⟨bX s i,(gS hR).2 ⟨i,hA⟩,by rw[hA.d.D5 hR]⟩
  .rintro⟨h,hh,rfl⟩;have hA:=o0 hR hh;exact⟨(q.mem _).2 ⟨D5 h,hA.1,hA.d.2.1,rfl⟩,by simp[Sh.nd,hA.2.1]⟩
end
def jY(m:a8):List Int:=oT ⟨m.Tasks,30⟩
def DC(m:a8)(s:Int):Nat:=R7 m.Roots s+((m.Nodes.filter (·.Alive)).map λn=>R7 n.Fields s).sum+R7 (m.Pairs.map (·.Val)) s+R7 (jY m) s
theorem NL:∀ {t:Tb},HR t->(jH t).Pairwise λa b=>a.Key≠b.Key:=by
 intro t hR;have key:∀(l:Tb),(∀i j,i<l.length->j<l.length->(l.getD i ⟨0,0,0⟩).State=1->(l.getD j ⟨0,0,0⟩).State=1->(l.getD i ⟨0,0,0⟩).Key=(l.getD j ⟨0,0,0⟩).Key->i=j)->(jH l).Pairwise λa b=>a.Key≠b.Key:=by
  intro l;induction l with
  | nil=>intro _;exact List.Pairwise.nil
  | cons p l ih=>
   intro h;have h2:=ih λi j hi hj a b e=>by
    have:=h (i+1) (j+1) (by simpa using hi) (by simpa using hj) (by simpa using a) (by simpa using b) (by simpa using e);omega
   unfold jH at h2 |-;rw[or];split
   .rename_i hp;rw[zT,zbb];refine⟨λa ha=>?_,h2⟩;obtain⟨u,hu,rfl⟩:=zq.1 ha;rw[zi] at hu;obtain⟨k,hk,e⟩:=wt hu.1;intro eb;have:=h 0 (k+1) (by simp) (by simpa using hk) (by simpa using hp) (by simp[zd,hk,e];simpa using hu.2) (by simp[zd,hk,e];exact eb);omega
   .exact h2
 exact key t λi j hi hj a b e=>hR.uq i j hi hj a b e
section
variable{σ:Int->Int}{x:Hp}{m:a8}(hS:kc x)(q:p9 σ x m)
include hS q
theorem p9.perm:m.Pairs.Perm ((jH x.T).map λp=>⟨σ p.Key,σ p.Val⟩):=by
 have h1:m.Pairs.Nodup:=q.p1.imp λh e=>h (by rw[e]);have h2:((jH x.T).map λp=>(⟨σ p.Key,σ p.Val⟩:g8)).Nodup:=by
  rw[List.Nodup,zbk];refine zbq (λ{a b} ha hb h e=>h ?_) (NL hS.hr);exact q.gd.inl hS.sr (hS.pr _ _ (cg.1 ha)).1 (hS.pr _ _ (cg.1 hb)).1 (zW g8.Key e)
 rw[zb4 h1 h2];intro p;rw[q.p2,zq];constructor
 .rintro⟨k,v,h,rfl⟩;exact⟨⟨k,v⟩,cg.2 h,rfl⟩
 .rintro⟨⟨k,v⟩,h,rfl⟩;exact⟨k,v,cg.1 h,rfl⟩
theorem p9.Kh:jY m=(oT x.Q).map σ:=by
 unfold jY oT;rw[q.tk];show List.map (·.At) (((x.Q.L.map (tx σ)).filter (·.Kind==1)))=_;rw[zct,za6,za6];have e:((λt:g5=>t.Kind==1) ∘ tx σ)=λt=>t.Kind==1:=by
  funext t
  show ((tx σ t).Kind==1)=_;unfold tx;split;·rename_i h;simp[h]
  .rfl
 rw[e];refine zt λt ht=>?_;have:=(zi.1 ht).2;show (tx σ t).At=σ t.At;unfold tx;rw[zb (by simpa using this)]
theorem TK:∀v∈oT x.Q,v=0\/v∈lv x.S:=λv hv=>by
 obtain⟨t,ht,k,rfl⟩:=lG.1 hv;rcases (hS.tk t ht).2.2 with h | h
 .exact .inr h.2.1
 .rw[h.1] at k;exact absurd k (by decide)
theorem p9.lM{h:Int}(hh:h∈lv x.S):DC m (σ h)=lM x h:=by
 have hR:=hS.sr;have p:=q.gd.ps hR hh;have p0:=(H4 hR hh).1;unfold DC Sh.lM;have ea:R7 m.Roots (σ h)=R7 (nz x.Roots) h:=by rw[q.ro,xj hR q.gd hS.rt hh,pF]
 have eb:((m.Nodes.filter (·.Alive)).map λn=>R7 n.Fields (σ h)).sum=jZ x.S h:=by
  rw[q.nd.alive hR,za6];unfold jZ;congr 1;refine zt λa ha=>?_;show R7 ((Sh.ce x.S (D5 a)).Val.Fields.map σ) (σ h)=_;rw[<-F4 hR (o0 hR ha),xj hR q.gd (hS.fl a ha) hh];exact (pF _ _).symm
 have ec:R7 (m.Pairs.map (·.Val)) (σ h)=own x.T h:=by
  have:R7 (m.Pairs.map (·.Val)) (σ h)=R7 (((jH x.T).map (·.Val)).map σ) (σ h):=by
   unfold R7;split;·rfl
   .rw[za6];have:=(q.perm hS).map (·.Val);rw[za6] at this;exact List.perm_iff_count.1 this _
  rw[this,xj hR q.gd (λv hv=>?_) hh]
  .unfold R7 own;rw[za (by omega),List.count_eq_countP,List.countP_map];refine List.countP_congr λu hu=>?_;simp;omega
  .obtain⟨u,hu,rfl⟩:=zq.1 hv;exact .inr (hS.pr _ _ (cg.1 hu)).2
 have ed:R7 (jY m) (σ h)=R7 (oT x.Q) h:=by rw[q.Kh hS,xj hR q.gd (TK hS q) hh]
 rw[ea,eb,ec,ed];unfold oc;rw[F8];omega
end
def fH(l:List b8)(s:Int)(f:b8->b8):List b8:=l.map λn=>if n.Serial=s then f n else n
theorem Ga(l:List b8)(s:Int){f:b8->b8}(h:∀n∈l,n.Serial=s->f n=n):fH l s f=l:=by
 unfold fH;conv=>rhs;rw[<-List.map_id l]
 refine zt λn hn=>?_;split;·rename_i e;exact h n hn e
 .rfl
section
variable{σ:Int->Int}{s s':b6}(hR:SR s){l:List b8}(q:Sn σ s l)
include hR q
theorem Sn.same(hl:s'.S.b7.length=s.S.b7.length)(h:∀i,i<s.S.b7.length->(Th (ce s' i)↔Th (ce s i))/\(Th (ce s i)->Sh.nd σ s' i=Sh.nd σ s i)):Sn σ s' l:=by
 refine⟨q.up,λn=>(q.mem n).trans ⟨?_,?_⟩⟩
 .rintro⟨i,hi,ti,e⟩;exact⟨i,by rw[hl];exact hi,(h i hi).1.2 ti,e.trans ((h i hi).2 ti).symm⟩
 .rintro⟨i,hi,ti,e⟩;rw[hl] at hi;exact⟨i,hi,(h i hi).1.1 ti,e.trans ((h i hi).2 ((h i hi).1.1 ti))⟩
variable{i:Nat}(hi:i<s.S.b7.length)(hl:s'.S.b7.length=s.S.b7.length)(ho:∀j,j≠i->ce s' j=ce s j)
include hi hl ho
omit hR q hi hl in
theorem lL {j:Nat} (h:j≠i):Sh.nd σ s' j=Sh.nd σ s j:=by
 unfold Sh.nd;rw[ho j h]
theorem Sn.x4(ht:Th (ce s i))(ht':Th (ce s' i))(hs:(ce s' i).Val.Serial=(ce s i).Val.Serial){f:b8->b8}(hf:f (Sh.nd σ s i)=Sh.nd σ s' i):Sn σ s' (fH l (ce s i).Val.Serial f):=by
 have h0:∀n∈l,n.Serial=(ce s i).Val.Serial->n=Sh.nd σ s i:=λn hn e=>q.one hR hn (q.at hR hi ht) e;have hser:∀n∈l,(if n.Serial=(ce s i).Val.Serial then f n else n).Serial=n.Serial:=λn hn=>by
  split
  .rename_i e;rw[h0 n hn e,hf];exact hs
  .rfl
 constructor
 .unfold fH;rw[zbk];refine zbq (λ{a b} ha hb h=>?_) q.up;rw[hser a ha,hser b hb];exact h
 .intro n;unfold fH;rw[zq];constructor
  .rintro⟨k,hk,rfl⟩;split
   .rename_i e;refine⟨i,by rw[hl];exact hi,ht',?_⟩;rw[h0 k hk e,hf]
   .rename_i e;obtain⟨j,hj,tj,eb⟩:=(q.mem k).1 hk;have hne:j≠i:=λc=>e (by rw[eb,c];rfl);exact⟨j,by rw[hl];exact hj,by rw[ho j hne];exact tj,by rw[lL ho hne];exact eb⟩
  .rintro⟨j,hj,tj,rfl⟩;by_cases c:j=i
   .subst c;refine⟨Sh.nd σ s j,q.at hR hi ht,?_⟩;exact (zb rfl).trans hf
   .rw[hl] at hj;rw[ho j c] at tj;refine⟨Sh.nd σ s j,q.at hR hj tj,?_⟩;rw[lL ho c];exact za λe=>c (hR.dif j i hj hi tj ht e)
theorem Sn.del(ht:Th (ce s i))(hn:¬Th (ce s' i)):Sn σ s' (l.filter λn=>n.Serial != (ce s i).Val.Serial):=by
 refine⟨q.up.filter _,λn=>?_⟩;rw[zi];constructor
 .rintro⟨hk,e⟩;obtain⟨j,hj,tj,rfl⟩:=(q.mem n).1 hk;have hne:j≠i:=λc=>by subst c;simp[Sh.nd] at e
  exact⟨j,by rw[hl];exact hj,by rw[ho j hne];exact tj,(lL ho hne).symm⟩
 .rintro⟨j,hj,tj,rfl⟩;have hne:j≠i:=λc=>hn (c▸tj);rw[hl] at hj;rw[ho j hne] at tj;rw[lL ho hne];refine⟨q.at hR hj tj,?_⟩;have:(Sh.nd σ s j).Serial≠(ce s i).Val.Serial:=λe=>hne (hR.dif j i hj hi tj ht e);simpa using this
theorem Sn.add(hn:¬Th (ce s i))(ht:Th (ce s' i))(hs:s.Serial<(ce s' i).Val.Serial):Sn σ s' (l ++ [Sh.nd σ s' i]):=by
 constructor
 .rw[zar];refine⟨q.up,List.pairwise_singleton ..,λa ha b hb=>?_⟩;rw[zp] at hb;subst hb;have:=(q.pos hR ha).2;show a.Serial<(ce s' i).Val.Serial;omega
 .intro n;rw[zu,zp];constructor
  .rintro (h | rfl)
   .obtain⟨j,hj,tj,rfl⟩:=(q.mem n).1 h;have hne:j≠i:=λc=>hn (c▸tj);exact⟨j,by rw[hl];exact hj,by rw[ho j hne];exact tj,(lL ho hne).symm⟩
   .exact⟨i,by rw[hl];exact hi,ht,rfl⟩
  .rintro⟨j,hj,tj,rfl⟩;by_cases c:j=i
   .subst c;exact .inr rfl
   .rw[hl] at hj;rw[ho j c] at tj;rw[lL ho c];exact .inl (q.at hR hj tj)
end
abbrev xo(m:a8)(l:List b8):a8:=⟨l,m.Slots,m.Gens,m.Last,m.Places,m.Serial,m.Roots,m.b7,m.Pairs,m.Tasks,m.Progs⟩
abbrev Xt(m:a8)(l:List Int):a8:=⟨m.Nodes,m.Slots,m.Gens,m.Last,m.Places,m.Serial,l,m.b7,m.Pairs,m.Tasks,m.Progs⟩
abbrev RM(m:a8)(l:List k7):a8:=⟨m.Nodes,m.Slots,m.Gens,m.Last,m.Places,m.Serial,m.Roots,l,m.Pairs,m.Tasks,m.Progs⟩
abbrev Vl(m:a8)(l:List g8):a8:=⟨m.Nodes,m.Slots,m.Gens,m.Last,m.Places,m.Serial,m.Roots,m.b7,l,m.Tasks,m.Progs⟩
abbrev Fs(m:a8)(l:List g5):a8:=⟨m.Nodes,m.Slots,m.Gens,m.Last,m.Places,m.Serial,m.Roots,m.b7,m.Pairs,l,m.Progs⟩
def Dl(n:b8):b8:=⟨n.Serial,n.Slot,n.Prog,n.Started,n.Alive,true,n.Fields⟩
def uf(m:a8)(s:Int):a8:=xo m (fH m.Nodes s Dl)
def fQ(m:a8)(s:Int):a8:=if s≠0/\11<=DC m s then uf m s else m
def dd(m:a8)(r:Nat)(s:Int):a8:=Xt (fQ m s) (m.Roots.set r s)
theorem aF(m:a8)(s:Int):fQ m s=xo m (fQ m s).Nodes:=by
 unfold fQ uf;split <;> rfl
theorem Gd.up{σ:Int->Int}{s s':b6}(g:Gd σ s)(h:∀k i,T8 s' k i->T8 s k i/\(ce s' i).Val.Serial=(ce s i).Val.Serial):Gd σ s':=
 ⟨g.z,λk i q=>by rw[g.f k i (h k i q).1,(h k i q).2]⟩
theorem T3{n:Nat}{f g:Nat->Int}(h:∀i,i<n->f i=g i):(List.range n).map f=(List.range n).map g:=zt λi hi=>h i (zaw.1 hi)
section
variable{σ:Int->Int}{x:Hp}{m:a8}(hR:SR x.S)(q:p9 σ x m)
include hR q
theorem p9.put{h:Int}(hh:h∈lv x.S){o:n7}(hs:o.Serial=(ob x.S h).Serial)(ho:Ap x.S o){f:b8->b8}
  (hf:f (Sh.nd σ x.S (D5 h))=⟨o.Serial,(D5 h:Nat),o.Prog,o.Started,true,decide (12<=o.Strong),o.Fields.map σ⟩):p9 σ (wS x (cT x.S h o)) (xo m (fH m.Nodes (σ h) f)):=by
 have p:=o0 hR hh;have hc:=λj=>yP hR hh hs ho j;have hl:(cT x.S h o).S.b7.length=x.S.S.b7.length:=J3 ..;have hsi:o.Serial=(Sh.ce x.S (D5 h)).Val.Serial:=by rw[hs,F4 hR p]
 have same:∀i,(Sh.ce (cT x.S h o) i).State=(Sh.ce x.S i).State/\(Sh.ce (cT x.S h o) i).Gen=(Sh.ce x.S i).Gen/\(Sh.ce (cT x.S h o) i).Val.Serial=(Sh.ce x.S i).Val.Serial:=λi=>by
  rw[hc i];split;·rename_i c;subst c;exact⟨rfl,rfl,hsi⟩
  .exact⟨rfl,rfl,rfl⟩
 have sT:∀i,Th (Sh.ce (cT x.S h o) i)↔Th (Sh.ce x.S i):=λi=>by unfold Th;rw[(same i).1]
 refine⟨q.gd.up λk i a=>⟨(Di hR hh hs ho).1 a,(same i).2.2⟩,?_,?_,?_,q.la,q.npl,q.se,q.ro,q.ce,q.p1,q.p2,q.tk⟩
 .have:=q.nd.x4 (s':=cT x.S h o) hR p.1 hl (λj hj=>by rw[hc j,za hj]) p.d.2.1 ((sT _).2 p.d.2.1) (same _).2.2 (f:=f) (by
   rw[hf];unfold Sh.nd;rw[hc,zb rfl,zC p.2.1])
  rw[q.gd.f h _ p.d];exact this
 .show m.Slots=_;rw[q.sl];show _=List.map _ (List.range (cT x.S h o).S.b7.length);rw[hl];refine T3 λi hi=>?_;unfold DF;rw[(same i).2.2,(same i).1];by_cases c:Th (Sh.ce x.S i)
  .rw[zb c,zb ((sT i).2 c)]
  .rw[za c,za λd=>c ((sT i).1 d)]
 .show m.Gens=_;rw[q.ge];show _=List.map _ (List.range (cT x.S h o).S.b7.length);rw[hl];exact T3 λi hi=>(same i).2.1.symm
theorem p9.AP{h:Int}(hh:h∈lv x.S){n:Int}(hn:0<=n):p9 σ (wS x (cT x.S h (AP (ob x.S h) n))) (xo m (fH m.Nodes (σ h) λk=>⟨k.Serial,k.Slot,k.Prog,k.Started,k.Alive,decide (12<=n),k.Fields⟩)):=by
 have ho:=K0 hR hh;have p:=o0 hR hh;refine q.put (o:=Sh.AP (ob x.S h) n) hR hh rfl ⟨ho.s1,ho.s2,hn,ho.wk,ho.p1,ho.p2,ho.fl⟩ ?_;unfold Sh.nd;rw[F4 hR p,zC p.2.1]
theorem p9.OL(h:Int):p9 σ (aA x h) m:=by
 unfold aA ue;split
 .rename_i hh;have p:=o0 hR hh;have:=q.AP hR hh (n:=kR (ob x.S h).Strong) (P4 (K0 hR hh).st);rw[Ga] at this;·exact this
  .intro n hn e;have:n=Sh.nd σ x.S (D5 h):=q.nd.one hR hn (q.nd.at hR p.1 p.d.2.1) (by rw[e,q.gd.f h _ p.d];rfl);rw[this];unfold Sh.nd;congr 1;rw[F4 hR p];refine zbo.2 ?_;unfold kR;split;·omega
   .split <;> omega
 .exact q
theorem p9.UU{h:Int}(hh:h=0\/h∈lv x.S){k:Nat}(hk:h∈lv x.S->(ob x.S h).Strong<12->(ob x.S h).Strong=k):p9 σ (E5 x h) (if σ h≠0/\11<=k then uf m (σ h) else m):=by
 unfold E5 ue;rcases hh with e | hh
 .subst e;rw[za (eQ hR),za (λc=>c.1 q.gd.z)];exact q
 .rw[zb hh];have p:=o0 hR hh;have h0:σ h≠0:=by have:=q.gd.ps hR hh;omega
  have hn:=(K0 hR hh).st;have Q:=q.AP hR hh (n:=Y9 (ob x.S h).Strong) (E4 hn);have one:∀n∈m.Nodes,n.Serial=σ h->n=Sh.nd σ x.S (D5 h):=λn hn e=>q.nd.one hR hn (q.nd.at hR p.1 p.d.2.1) (by rw[e,q.gd.f h _ p.d];rfl);have hinc:12<=Y9 (ob x.S h).Strong↔11<=(ob x.S h).Strong:=by
   unfold Y9;split;·omega
   .split <;> omega
  have hstk:∀n∈m.Nodes,n.Serial=σ h->n.Stuck=decide (12<=(ob x.S h).Strong):=λn hn e=>by
   rw[one n hn e,F4 hR p];rfl
  by_cases c:11<=(ob x.S h).Strong
  .have e1':(xo m (fH m.Nodes (σ h) λk=>⟨k.Serial,k.Slot,k.Prog,k.Started,k.Alive,decide (12<=Y9 (ob x.S h).Strong),k.Fields⟩))=uf m (σ h):=by
    rw[zC (hinc.2 c)];rfl
   rw[e1'] at Q;split;·exact Q
   .rename_i c2;have c3:12<=(ob x.S h).Strong:=by
     rcases Int.lt_or_le (ob x.S h).Strong 12 with c4 | c4
     .exact absurd ⟨h0,by have:=hk hh c4;omega⟩ c2
     .exact c4
    have:uf m (σ h)=m:=by
     unfold uf;rw[Ga];intro n hn e;have:=hstk n hn e;rw[zC c3] at this;unfold Dl;rw[<-this]
    rw[this] at Q;exact Q
  .have e1':(xo m (fH m.Nodes (σ h) λk=>⟨k.Serial,k.Slot,k.Prog,k.Started,k.Alive,decide (12<=Y9 (ob x.S h).Strong),k.Fields⟩))=m:=by
    rw[zY (λd=>c (hinc.1 d)),Ga];intro n hn e;have:=hstk n hn e;rw[zY (by omega)] at this;rw[<-this]
   rw[e1'] at Q;rw[za (λd=>by have:=hk hh (by omega);omega)];exact Q
end
theorem p9.WQ{σ:Int->Int}{m:a8}:∀(l:List Int) {x:Hp},SR x.S->p9 σ x m->p9 σ (l.foldl aA x) m
 | [],_,_,h=>h
 | v::l,x,hR,h=>by
  rw[zai];refine p9.WQ l (x:=aA x v) ?_ (h.OL hR v);have:=hZ [v] hR;exact this.1.sr
section
variable{σ:Int->Int}{x:Hp}{m:a8}(hS:kc x)(q:p9 σ x m)
include hS q
theorem p9.E5{h:Int}(hf:aE x [])(hh:h=0\/h∈lv x.S):p9 σ (E5 x h) (fQ m (σ h)):=
 q.UU hS.sr hh λhl hs=>by rw[q.lM hS hl,hf h hl hs,I1];rfl
theorem p9.roots(r:Nat)(h:Int):p9 σ (wR x (x.Roots.set r h)) (Xt m (m.Roots.set r (σ h))):=
 ⟨q.gd,q.nd,q.sl,q.ge,q.la,q.npl,q.se,by rw[q.ro];exact (zcp ..).symm,q.ce,q.p1,q.p2,q.tk⟩
theorem p9.Sy{r:Nat}{h:Int}{k:Nat}(hh:h=0\/h∈lv x.S)(hk:h∈lv x.S->(ob x.S h).Strong<12->(ob x.S h).Strong=k):p9 σ (G0 x r h) (Xt (if σ h≠0/\11<=k then uf m (σ h) else m) (m.Roots.set r (σ h))):=by
 unfold G0;have Q:=q.UU hS.sr hh hk;refine p9.OL (x:=wR (Sh.E5 x h) (x.Roots.set r h)) (jN hS.sr h) ?_ _;have e:(if σ h≠0/\11<=k then uf m (σ h) else m).Roots=m.Roots:=by split <;> rfl
 have ex:(Sh.E5 x h).Roots=x.Roots:=by rw[po]
 rw[<-ex,<-e];exact⟨Q.gd,Q.nd,Q.sl,Q.ge,Q.la,Q.npl,Q.se,by rw[Q.ro];exact (zcp ..).symm,Q.ce,Q.p1,Q.p2,Q.tk⟩
theorem p9.G0{r:Nat}{h:Int}(hf:aE x [])(hh:h=0\/h∈lv x.S):p9 σ (G0 x r h) (dd m r (σ h)):=by
 have:=q.Sy hS (r:=r) hh (k:=DC m (σ h)) λhl hs=>by rw[q.lM hS hl,hf h hl hs,I1];rfl
 exact this
end
abbrev VW(n:b8)(l:List Int):b8:=⟨n.Serial,n.Slot,n.Prog,n.Started,n.Alive,n.Stuck,l⟩
section
variable{σ:Int->Int}{x:Hp}{m:a8}(hS:kc x)(q:p9 σ x m)
include hS q
theorem p9.bF{h:Int}(hf:aE x [])(hh:h∈lv x.S){k:Nat}{v:Int}(hv:v=0\/v∈lv x.S):p9 σ (bF x h k v) (xo (fQ m (σ v)) (fH (fQ m (σ v)).Nodes (σ h) λn=>VW n (((ob x.S h).Fields.map σ).set k (σ v)))):=by
 have hR:=hS.sr;have Q:=q.E5 hS hf hv;have wm:vB x.S (Sh.E5 x v).S:=H6 hR v λc=>E4;have hh':h∈lv (Sh.E5 x v).S:=by rw[wm.lv];exact hh
 have hR':=wm.sr;have ho:=K0 hR' hh';have p:=o0 hR' hh';have hfl:(ob (Sh.E5 x v).S h).Fields=(ob x.S h).Fields:=by
  obtain⟨n,e⟩:=wm.ob h (by have:=H4 hR hh;omega);rw[e]
 have P:=Q.put (o:=rp (ob (Sh.E5 x v).S h) ((ob x.S h).Fields.set k v)) hR' hh' rfl ⟨ho.s1,ho.s2,ho.st,ho.wk,ho.p1,ho.p2,by
  show ((ob x.S h).Fields.set k v).length<=4;rw[zap,<-hfl];exact ho.fl⟩ (f:=λn=>VW n (((ob x.S h).Fields.map σ).set k (σ v))) (by
  unfold Sh.nd;rw[F4 hR' p,zC p.2.1,zcp])
 unfold Sh.bF;refine p9.OL (x:=wS (Sh.E5 x v) _) ?_ P _;exact bP hR' hh' rfl ⟨ho.s1,ho.s2,ho.st,ho.wk,ho.p1,ho.p2,by
  show ((ob x.S h).Fields.set k v).length<=4;rw[zap,<-hfl];exact ho.fl⟩
end
theorem Dj{t:Tb}(hT:HR t){k v:Int}{r:Tb × Int × Int}(h:U4 t k v=some r)(h0:r.2.2=0)(k' v':Int):Has r.1 k' v'↔(k'≠k/\Has t k' v')\/(v≠0/\k'=k/\v'=v):=by
 obtain⟨u,hu,_,_,c⟩:=dL hT k v;rw[hu] at h;obtain rfl:=zJ h;rcases c with ⟨_,rfl⟩ | ⟨hk,hv,c⟩ | ⟨hk,hv,c⟩;·exact absurd (show (2:Int)=0 from h0) (by decide)
 .subst hv;rcases c with ⟨i,hi,rfl⟩ | ⟨hn,rfl⟩;·rw[sy hT hi];simp
  .constructor
   .intro hh;refine .inl ⟨λe=>?_,hh⟩;subst e;obtain⟨i,hi,_⟩:=hh;exact hn i hi
   .rintro (⟨_,hh⟩ | ⟨c,_⟩);·exact hh
    .exact absurd rfl c
 .have key:∀ {a:Tb},xp t k v (a,0)->(Has a k' v'↔(k'≠k/\Has t k' v')\/(v≠0/\k'=k/\v'=v)):=λP=>by
   rw[xc hT P rfl];constructor
   .rintro (⟨a,b⟩ | c);·exact .inr ⟨hv,a,b⟩
    .exact .inl c
   .rintro (c | ⟨_,a,b⟩);·exact .inr c
    .exact .inl ⟨a,b⟩
  rcases c with ⟨i,hi,rfl⟩ | ⟨d,_,_,_,hp,rfl⟩ | ⟨_,_,rfl⟩;·exact key (.old i hi)
  .exact key hp
  .exact absurd (show (8:Int)=0 from h0) (by decide)
theorem Ru{t:Tb}(hT:HR t){k v:Int}{r:Tb × Int × Int}(h:U4 t k v=some r):r.1.length=t.length:=by
 obtain⟨u,hu,_,hl,_⟩:=dL hT k v;rw[hu] at h;obtain rfl:=zJ h;exact hl
section
variable{σ:Int->Int}{x:Hp}{m:a8}(hS:kc x)(q:p9 σ x m)
include hS q
theorem p9.iJ{k v:Int}(hf:aE x [])(hk:k∈lv x.S)(hv:v=0\/v∈lv x.S){r:Tb × Int × Int}(h:U4 x.T k v=some r)(h0:r.2.2=0) :
  p9 σ (iJ x v r.1 r.2.1) (Vl (fQ m (σ v)) ((m.Pairs.filter λp=>p.Key != σ k)++if v=0 then [] else [⟨σ k,σ v⟩])):=by
 have hR:=hS.sr;have Q:=q.E5 hS hf hv;unfold Sh.iJ;refine p9.OL (x:=wT (Sh.E5 x v) r.1) (jN hR v) ?_ _;refine⟨Q.gd,Q.nd,Q.sl,Q.ge,Q.la,?_,Q.se,Q.ro,Q.ce,?_,λp=>?_,Q.tk⟩
 .show _=((r.1.length:Nat):Int);rw[Ru hS.hr h];have:(Sh.E5 x v).T=x.T:=by rw[po]
  rw[<-this];exact Q.npl
 .show List.Pairwise _ _;rw[zar];refine⟨q.p1.filter _,?_,λa ha b hb=>?_⟩
  .split;·exact List.Pairwise.nil
   .exact List.pairwise_singleton ..
  .split at hb;·cases hb
   .rw[zp] at hb;subst hb;have:=(zi.1 ha).2;simpa using this
 .show p∈_↔∃k' v',Has r.1 k' v'/\_;rw[zu,zi,q.p2];constructor
  .rintro (⟨⟨k',v',hh,rfl⟩,c⟩ | c)
   .refine⟨k',v',(Dj hS.hr h h0 _ _).2 (.inl ⟨λe=>?_,hh⟩),rfl⟩;subst e;simp at c
   .split at c;·cases c
    .rename_i c0;rw[zp] at c;exact⟨k,v,(Dj hS.hr h h0 _ _).2 (.inr ⟨c0,rfl,rfl⟩),c⟩
  .rintro⟨k',v',hh,rfl⟩;rcases (Dj hS.hr h h0 _ _).1 hh with ⟨c,hh⟩ | ⟨c0,rfl,rfl⟩
   .refine .inl ⟨⟨k',v',hh,rfl⟩,?_⟩;have:σ k'≠σ k:=λe=>c (q.gd.inl hR (hS.pr _ _ hh).1 hk e);simpa using this
   .right;rw[za c0];exact zp.2 rfl
end
def Eg(m:a8)(n:b8):a8:=
 ⟨m.Nodes.filter (λk=>k.Serial != n.Serial),m.Slots.set n.Slot.toNat (if m.Gens.getD n.Slot.toNat 0=m.Last then -1 else 0),
  if m.Gens.getD n.Slot.toNat 0=m.Last then m.Gens else m.Gens.set n.Slot.toNat (m.Gens.getD n.Slot.toNat 0+1),m.Last,m.Places,m.Serial,m.Roots,m.b7,m.Pairs,m.Tasks,m.Progs⟩
def DN(m:a8)(s:Int):a8:=match m.Nodes.find? (λn=>n.Serial==s) with
 | none=>m
 | some n=>if n.Alive=true\/0<jg m.b7 s then m else Eg m n
theorem vm{n:Nat}(f:Nat->Int){i:Nat}(v:Int):((List.range n).map f).set i v=(List.range n).map λj=>if j=i then v else f j:=by
 refine zb2 (by simp) λj h1 h2=>?_;rw[zcq];simp only[t8,List.getElem_range];by_cases c:i=j
 .rw[zb c,zb c.symm]
 .rw[za c,za (za2 c)]
def FE(s:b6)(i:Nat):c8:=if (ce s i).Gen=s.S.Last then ⟨3,(ce s i).Gen,z0⟩ else ⟨0,(ce s i).Gen+1,z0⟩
theorem TG(s:b6)(i:Nat):¬Th (FE s i):=by
 unfold FE Th;split <;> simp
section
variable{σ:Int->Int}{x:Hp}{m:a8}(hR:SR x.S)(q:p9 σ x m)
include hR q
theorem p9.Eg{i:Nat}(hi:i<x.S.S.b7.length)(ht:Th (Sh.ce x.S i)):p9 σ (wS x (H5 x.S i (FE x.S i))) (Eg m (Sh.nd σ x.S i)):=by
 have hc:=λj=>K6 hi (FE x.S i) j;have hl:=V6 x.S i (FE x.S i);have hno:=TG x.S i;have hg:m.Gens.getD i 0=(Sh.ce x.S i).Gen:=by
  rw[q.ge,zd,zB,List.getElem?_range hi];rfl
 have hsl:(Sh.nd σ x.S i).Slot.toNat=i:=by unfold Sh.nd;simp
 unfold Sh.Eg;rw[hsl,hg,q.la];refine⟨q.gd.up λk j a=>?_,?_,?_,?_,rfl,q.npl,q.se,q.ro,q.ce,q.p1,q.p2,q.tk⟩
 .have hne:j≠i:=λe=>by
   have:=a.2.1;change Th (Sh.ce (H5 x.S i (FE x.S i)) j) at this
   rw[hc,zb e] at this;exact hno this
  refine⟨(DM hi _ hne).1 a,?_⟩;change (Sh.ce (H5 x.S i (FE x.S i)) j).Val.Serial=_
  rw[hc,za hne]
 .exact q.nd.del (s':=H5 x.S i (FE x.S i)) hR hi hl (λj hj=>by rw[hc,za hj]) ht (by rw[hc,zb rfl];exact hno)
 .show _=List.map (λj=>DF (Sh.ce (H5 x.S i (FE x.S i)) j)) (List.range (H5 x.S i (FE x.S i)).S.b7.length);show m.Slots.set i _=_;rw[hl,q.sl,vm];refine T3 λj hj=>?_;rw[hc];by_cases c:j=i
  .rw[zb c,zb c];unfold DF;rw[za hno];unfold FE;split <;> rfl
  .rw[za c,za c]
 .show _=List.map (λj=>(Sh.ce (H5 x.S i (FE x.S i)) j).Gen) (List.range (H5 x.S i (FE x.S i)).S.b7.length);show (if (Sh.ce x.S i).Gen=x.S.S.Last then m.Gens else m.Gens.set i ((Sh.ce x.S i).Gen+1))=_;rw[hl,q.ge];unfold FE;split
  .rename_i c;refine T3 λj hj=>?_;rw[K6 hi];split;·rename_i e;rw[e]
   .rfl
  .rw[vm];refine T3 λj hj=>?_;rw[K6 hi];split <;> rfl
theorem p9.alike{s':b6}(hl:s'.S.b7.length=x.S.S.b7.length)(hla:s'.S.Last=x.S.S.Last)(hse:s'.Serial=x.S.Serial)
  (h:∀i,i<x.S.S.b7.length->(Sh.ce s' i).State=(Sh.ce x.S i).State/\(Sh.ce s' i).Gen=(Sh.ce x.S i).Gen/\(Sh.ce s' i).Val.Serial=(Sh.ce x.S i).Val.Serial/\(Sh.ce s' i).Val.Prog=(Sh.ce x.S i).Val.Prog/\(Sh.ce s' i).Val.Started=(Sh.ce x.S i).Val.Started/\(Sh.ce s' i).Val.Strong=(Sh.ce x.S i).Val.Strong/\(Sh.ce s' i).Val.Fields=(Sh.ce x.S i).Val.Fields):p9 σ (wS x s') m:=by
 have sT:∀i,i<x.S.S.b7.length->(Th (Sh.ce s' i)↔Th (Sh.ce x.S i)):=λi hi=>by unfold Th;rw[(h i hi).1]
 refine⟨q.gd.up λk i a=>?_,q.nd.same hR hl λi hi=>⟨sT i hi,λht=>?_⟩,?_,?_,by rw[q.la];exact hla.symm,q.npl,by rw[q.se];exact hse.symm,q.ro,q.ce,q.p1,q.p2,q.tk⟩
 .have hi:i<x.S.S.b7.length:=by have:=a.1;rw[<-hl];exact this
  refine⟨⟨hi,(sT i hi).1 a.2.1,?_⟩,(h i hi).2.2.1⟩;have:=a.2.2;change k=1+(i:Int)+32*(Sh.ce s' i).Gen at this
  rw[(h i hi).2.1] at this;exact this
 .obtain⟨a1,a2,a3,a4,a5,a6,a7⟩:=h i hi;unfold Sh.nd;rw[a1,a3,a4,a5,a6,a7]
 .show _=List.map _ (List.range s'.S.b7.length);rw[hl,q.sl];refine T3 λi hi=>?_;unfold DF;rw[(h i hi).2.2.1,(h i hi).1];by_cases c:Th (Sh.ce x.S i)
  .rw[zb c,zb ((sT i hi).2 c)]
  .rw[za c,za λd=>c ((sT i hi).1 d)]
 .show _=List.map _ (List.range s'.S.b7.length);rw[hl,q.ge];exact T3 λi hi=>(h i hi).2.1.symm
theorem p9.find{h:Int}{i:Nat}(p:T8 x.S h i):m.Nodes.find? (λn=>n.Serial==σ h)=some (Sh.nd σ x.S i):=by
 have hs:=q.gd.f h i p;rw[List.find?_eq_some_iff_getElem];obtain⟨j,hj,e⟩:=wt (q.nd.at hR p.1 p.2.1);refine⟨by rw[hs];exact ul _,j,hj,e,λk hk=>?_⟩;have:=zat.1 q.nd.up k j (by omega) hj hk;rw[e] at this;have:m.Nodes[k].Serial≠σ h:=by
  rw[hs];have:m.Nodes[k].Serial<(Sh.ce x.S i).Val.Serial:=this;omega
 simpa using this
theorem p9.VX:m.Nodes.find? (λn=>n.Serial==0)=none:=by
 rw[zci];intro n hn e;have:=(q.nd.pos hR hn).1;have:n.Serial=0:=by simpa using e
 omega
theorem p9.jg{l:List k7}{h:Int}(hl:∀c∈l,σ c.Target=σ h->c.Target=h)(h0:h≠0)(h1:σ h≠0):Sh.jg (l.map (wx σ)) (σ h)=Sh.jg l h:=by
 unfold Sh.jg;rw[List.countP_map];refine List.countP_congr λc hc=>?_;show ((σ h != 0)&&(σ c.Target==σ h))=true↔((h != 0)&&(c.Target==h))=true;have:σ c.Target=σ h↔c.Target=h:=⟨hl c hc,λe=>by rw[e]⟩;simp[h0,h1,this]
end
end Go.Sh
