/- A part. -/
import Derived.Test.YtmgbbnfgfmfgaaaGreatQ22gT
set_option linter.unusedVariables false
set_option linter.unusedSimpArgs false
set_option linter.unusedSectionVars false
namespace Go.Sh
noncomputable def zr(x:Hp):List Int:=(lv x.S).filter λh=>(ob x.S h).Strong==0
theorem dg{x:Hp}{h:Int}:h∈zr x↔h∈lv x.S/\(ob x.S h).Strong=0:=by
 unfold zr;rw[zi,ms]
theorem EE{x:Hp}(hx:K1 x){z:Int}(hz:z∈zr x):mb x z=0:=by
 obtain⟨a,b⟩:=dg.1 hz;have:=hx.fair z a (by omega);rw[J0] at this;omega
theorem GP{l:List Int}{h:Int}(h0:h≠0)(e:R4 l h=0):h∉l:=λq=>by
 have:=jt.2 ⟨h0,q⟩;omega
theorem Ot{α:Type}(f:α->Nat):∀ {l:List α} {a:α},a∈l->f a<=(l.map f).sum
 | b::l,a,h=>by
  rw[zQ,zbc];rcases zM.1 h with e | e
  .subst e;omega
  .have:=Ot f e;omega
theorem Dy{s:b6}{a y:Int}(ha:a∈lv s):R4 (outs s a) y<=kD s y:=Ot (λx=>R4 (outs s x) y) ha
theorem DN{t:Tb}{k v:Int}(h:Has t k v)(h0:v≠0):0<own t v:=zbw.2 ⟨⟨k,v⟩,cG.2 h,by simp[h0]⟩
def lF(t:Tb)(ks:List Int):Tb × List Int:=(bb t ks).getD (t,[])
theorem kp{t:Tb}(hT:HR t)(ks:List Int)(hks:ks.length<=1000):bb t ks=some (lF t ks)/\HR (lF t ks).1/\(lF t ks).2.length<=ks.length/\pK (t.map fk) ks=some ((lF t ks).1.map fk,(lF t ks).2) /\
  (∀k v,Has (lF t ks).1 k v↔k∉ks/\Has t k v)/\∀y,own (lF t ks).1 y+R4 (lF t ks).2 y=own t y:=by
 obtain⟨a,had,h1,h2,h3,h4,h5,h6,h7,h8,h9⟩:=xd hT ks hks;have:lF t ks=(a,had):=by unfold lF;rw[h1];rfl
 rw[this];exact⟨h1,h2,h4,h5,h6,h9⟩
noncomputable def gY(x:Hp)(ds:List Int):Hp:=(ds.flatMap (outs x.S)++(lF x.T ds).2).foldl aP (jH x ds (lF x.T ds).1)
theorem iw:∀(l:List Int) {x:Hp},SR x.S->wB x.S (l.foldl aP x).S/\l.foldl aP x=wS x (l.foldl aP x).S
 | [],x,h=>⟨wB.refl h,rfl⟩
 | v::l,x,h=>by
  have k1:=I9 h v (f:=lx) λc=>Q3;obtain⟨k2,e⟩:=iw l (x:=aP x v) k1.sr;refine⟨k1.trans k2,?_⟩;show l.foldl aP (aP x v)=wS x (l.foldl aP (aP x v)).S;rw[e,WY x v]
theorem BQ{x:Hp}(hx:K1 x){ds:List Int}(hn:ds.Nodup)(hm:∀d∈ds,d∈lv x.S)
  (ho:∀d∈ds,d∉oJ x)(hf:∀h∈lv x.S,h∉ds->∀v∈(ob x.S h).Fields,v∉ds)(hp:∀k v,Has x.T k v->k∉ds->v∉ds):K1 (gY x ds):=by
 have hl:ds.length<=24:=zN (ai hn hm) (N3 (A3.2 hx.sh.sr));obtain⟨_,w1,_,_,w2,w3⟩:=kp hx.sh.hr ds (by omega);obtain⟨a,b,c⟩:=Lp hx hn hm ho hf hp w1 w2 w3;exact As _ a b c
theorem Hx{x:Hp}(hR:SR x.S){ds:List Int}(hn:ds.Nodup)(hm:∀d∈ds,d∈lv x.S):lv (gY x ds).S=(lv x.S).filter λh=>decide (h∉ds):=by
 have g:=ff ds hR hn hm;exact (iw (ds.flatMap (outs x.S)++(lF x.T ds).2) (x:=jH x ds (lF x.T ds).1) g.sr).1.lv.trans g.lv
theorem Hy{x:Hp}(hR:SR x.S){ds:List Int}(hn:ds.Nodup)(hm:∀d∈ds,d∈lv x.S){k:Int}(hk:k∈lv x.S)(hd:k∉ds):∃n,ob (gY x ds).S k=BB (ob x.S k) n:=by
 have g:=ff ds hR hn hm;have hr:=I7 hR hk;obtain⟨n,e⟩:=(iw (ds.flatMap (outs x.S)++(lF x.T ds).2) (x:=jH x ds (lF x.T ds).1) g.sr).1.ob k (by omega);refine⟨n,?_⟩;have e':ob (gY x ds).S k=_:=e;have g':ob (jH x ds (lF x.T ds).1).S k=ob x.S k:=g.ob k hk hd;rw[e',g']
theorem tf{x:Hp}(hR:SR x.S){ds:List Int}(hn:ds.Nodup)(hm:∀d∈ds,d∈lv x.S):(gY x ds).Roots=x.Roots/\(gY x ds).b7=lJ x.b7 ds/\(gY x ds).T=(lF x.T ds).1/\(gY x ds).Q=⟨x.Q.L++jJ x.b7 ds,x.Q.Cap⟩:=by
 have g:=ff ds hR hn hm;have e:=(iw (ds.flatMap (outs x.S)++(lF x.T ds).2) (x:=jH x ds (lF x.T ds).1) g.sr).2;have e':gY x ds=wS (jH x ds (lF x.T ds).1) (gY x ds).S:=e;rw[e'];exact⟨rfl,rfl,rfl,rfl⟩
theorem Bb{x:Hp}(hx:K1 x){z:Int}(hz:z∈zr x):K1 (gY x [z]):=by
 obtain⟨a,b⟩:=dg.1 hz;have h0:z≠0:=λe=>fp hx.sh.sr (e▸a);have hn:=EE hx hz;unfold mb at hn;refine BQ hx (by simp) (by simpa using a) (λd hd=>?_) (λh hh hne v hv q=>?_) (λk v hkv _ q=>?_)
 .rw[zn] at hd;subst hd;exact GP h0 (by omega)
 .rw[zn] at q;subst q;have:=Dy (y:=v) hh;have h1:=jt.2 ⟨h0,show v∈outs x.S h from gx.2 ⟨hv,h0⟩⟩;omega
 .rw[zn] at q;subst q;have:=DN hkv h0;omega
def due(o:n8):Bool:=decide (0<=o.Prog) && !o.Started
noncomputable def He(x:Hp):Hp:=match zr x with
 | []=>x
 | z::_=>if due (ob x.S z) then gT x z else gY x [z]
noncomputable def oO:Nat->Hp->Hp
 | 0,x=>x
 | n+1,x=>oO n (He x)
theorem fS(n:Nat)(x:Hp):oO (n+1) x=He (oO n x):=by
 induction n generalizing x with
 | zero=>rfl
 | succ n ih=>exact ih (He x)
theorem nW{x:Hp}(h:zr x = []):He x=x:=by unfold He;rw[h]
theorem kl{x:Hp}{z:Int}{l:List Int}(h:zr x=z::l):He x=if due (ob x.S z) then gT x z else gY x [z]:=by unfold He;rw[h]
theorem Mx{x:Hp}(hx:K1 x):K1 (He x):=by
 cases h:zr x with
 | nil=>rw[nW h];exact hx
 | cons z l=>
  have hz:z∈zr x:=by rw[h];exact zg ..
  rw[kl h];split
  .rename_i q;unfold due at q;rw[zy,zC,zb8] at q;exact wb hx (dg.1 hz).1 q.1 q.2
  .exact Bb hx hz
theorem Q5{x:Hp}(hx:K1 x)(n:Nat):K1 (oO n x):=by
 induction n with
 | zero=>exact hx
 | succ n ih=>rw[fS];exact Mx ih
section
variable{x:Hp}(hR:SR x.S){h:Int}(hh:h∈lv x.S)
include hR hh
theorem nD:wB (dh x.S h (fR (ob x.S h))) (gT x h).S/\(gT x h).Roots=x.Roots/\(gT x h).b7=x.b7/\(gT x h).T=x.T/\(gT x h).Q=⟨x.Q.L ++ [Bf x h],x.Q.Cap⟩:=by
 have oko:=L1 hR hh;have r1:=cd (o:=fR (ob x.S h)) hR hh rfl ⟨oko.s1,oko.s2,oko.st,oko.wk,oko.p1,oko.p2,oko.fl⟩;refine⟨I9 (x:=⟨dh x.S h (fR (ob x.S h)),x.Roots,x.b7,x.T,⟨x.Q.L ++ [Bf x h],x.Q.Cap⟩⟩) r1 h λc=>F2,?_⟩;have e:gT x h=wS ⟨dh x.S h (fR (ob x.S h)),x.Roots,x.b7,x.T,⟨x.Q.L ++ [Bf x h],x.Q.Cap⟩⟩ (gT x h).S:=pR _ h;rw[e];exact⟨rfl,rfl,rfl,rfl⟩
theorem DS:lv (gT x h).S=lv x.S:=by
 have oko:=L1 hR hh;exact (nD hR hh).1.lv.trans (iV (o:=fR (ob x.S h)) hR hh rfl ⟨oko.s1,oko.s2,oko.st,oko.wk,oko.p1,oko.p2,oko.fl⟩)
theorem Al{k:Int}(hk:k∈lv x.S):∃n,ob (gT x h).S k=BB (if k=h then fR (ob x.S h) else ob x.S k) n:=by
 have oko:=L1 hR hh;have hr:=I7 hR hk;obtain⟨n,e⟩:=(nD hR hh).1.ob k (by omega);refine⟨n,?_⟩;rw[e,gB (o:=fR (ob x.S h)) hR hh rfl ⟨oko.s1,oko.s2,oko.st,oko.wk,oko.p1,oko.p2,oko.fl⟩ (by omega)]
end
noncomputable def mu(x:Hp):Nat:=(lv x.S).length+((lv x.S).filter λh => !(ob x.S h).Started).length
theorem YB{x:Hp}(hR:SR x.S):mu x<=48:=by
 have h1:(lv x.S).length<=24:=N3 (A3.2 hR);have h2:((lv x.S).filter λh => !(ob x.S h).Started).length<=(lv x.S).length:=zA ..;unfold mu;omega
theorem Xp{x:Hp}(hx:K1 x)(h:zr x ≠ []):mu (He x)<mu x:=by
 cases hz:zr x with
 | nil=>exact absurd hz h
 | cons z l=>
  have hzm:z∈zr x:=by rw[hz];exact zg ..
  have hzl:=(dg.1 hzm).1;have hR:=hx.sh.sr;rw[kl hz];split
  .rename_i q;unfold due at q;rw[zy,zC,zb8] at q;unfold mu;rw[DS hR hzl];have:=filter_lt (p:=λh => !(ob (gT x z).S h).Started) (q:=λh => !(ob x.S h).Started) (l:=lv x.S) (λk hk hp=>by
    obtain⟨n,e⟩:=Al hR hzl hk;rw[e] at hp;split at hp;·exact absurd hp (by simp)
    .exact hp) z hzl (by rw[q.2];rfl) (by
    obtain⟨n,e⟩:=Al hR hzl hzl;rw[e,zb rfl];rfl)
   omega
  .unfold mu;have hn:([z]:List Int).Nodup:=by simp
   have hm:∀d ∈ [z],d∈lv x.S:=by simpa using hzl
   rw[Hx hR hn hm,zap];have h1:((lv x.S).filter λh=>decide (h ∉ [z])).length<((lv x.S).filter λ_=>true).length:=filter_lt (λ_ _ _=>rfl) z hzl rfl (by simp);rw[zbi.2 (λ_ _=>rfl)] at h1;have h2:((lv x.S).filter λa=>(!(ob (gY x [z]).S a).Started)&&decide (a ∉ [z])).length<=((lv x.S).filter λh => !(ob x.S h).Started).length:=by
    rw[<-zbv,<-zbv];refine List.countP_mono_left λa ha hp=>?_;rw[zy,zC] at hp;obtain⟨n,e⟩:=Hy hR hn hm ha hp.2;rw[e] at hp;exact hp.1
   omega
noncomputable def bN(x:Hp):Hp:=oO 100 x
theorem wm{x:Hp}(hx:K1 x):∃n,n<=48/\zr (oO n x) = []/\(∀j,j<n->zr (oO j x) ≠ [])/\bN x=oO n x:=by
 have key:∀m,(∃n,n<=m/\zr (oO n x) = [])\/mu (oO m x)+m<=mu x:=by
  intro m;induction m with
  | zero=>exact .inr (zG _)
  | succ m ih=>
   rcases ih with ⟨n,h1,h2⟩ | ih;·exact .inl ⟨n,by omega,h2⟩
   .by_cases q:zr (oO m x) = []
    .exact .inl ⟨m,by omega,q⟩
    .have:=Xp (Q5 hx m) q;rw[<-fS] at this;exact .inr (by omega)
 have h48:=YB hx.sh.sr;have hex:∃n,n<=48/\zr (oO n x) = []:=by
  rcases key 49 with ⟨n,h1,h2⟩ | h
  .rcases zF n 49 with q | q
   .exact⟨n,by omega,h2⟩
   .rcases key 48 with h | h
    .exact h
    .have:mu (oO 48 x)=0:=by omega
     refine⟨48,zG _,?_⟩;have hl:(lv (oO 48 x).S).length=0:=by unfold mu at this;omega
     unfold zr;rw[wd hl];rfl
  .omega
 obtain⟨n,⟨hn,hz⟩,hmin⟩:=dT hex;refine⟨n,hn,hz,λj hj q=>?_,?_⟩
 .have:=hmin j ⟨by omega,q⟩;omega
 .have:∀k,oO (n+k) x=oO n x:=λk=>by
   induction k with
   | zero=>rfl
   | succ k ih=>rw[show n+(k+1)=(n+k)+1 by omega,fS,ih,nW hz]
  have h100:=this (100-n);rw[show n+(100-n)=100 by omega] at h100;exact h100
theorem nR{x:Hp}(hx:K1 x):K1 (bN x):=Q5 hx 100
theorem Cz{x:Hp}(hx:K1 x):zr (bN x) = []:=by
 obtain⟨n,_,h,_,e⟩:=wm hx;rw[e];exact h
theorem PY{x:Hp}(h:zr x = []):bN x=x:=by
 have:∀n,oO n x=x:=λn=>by
  induction n with
  | zero=>rfl
  | succ n ih=>rw[fS,ih,nW h]
 exact this 100
section
variable{x:Hp}(hR:SR x.S)
include hR
theorem rB{h:Int}(hh:h∈lv x.S):h<=9223372036854775807:=by have:=I7 hR hh;omega
theorem yJ{h:Int}(hh:h∈lv x.S):y5 x.S h=some (ob x.S h,0):=by
 obtain⟨e,h1,h2⟩:=iI (A3.2 hR) (rB hR hh);rw[h1,h2.2 hh]
theorem zero_eq:eQ x=some (zr x):=by
 have h24:(lv x.S).length<=24:=N3 (A3.2 hR);unfold eQ;simp only[jn];rw[gN (A3.2 hR),a0A];rw[V9 (lv x.S) (λb h=>if (ob x.S h).Strong==0 then b ++ [h] else b) id (λk b=>b.length<=k) (by omega) (zG _) (λk hk b hb=>?_) (λb hb=>by simp)]
 .rw[foldl_filter];rfl
 .simp only[wn,hk,ww,we,u4 hk,a0A,yJ hR (zh hk)];by_cases c:((ob x.S (lv x.S)[k]).Strong==0)=true
  .rw[zb c,zb c,I6 (by omega) (by simp;omega),a0A,n9];exact⟨rfl,by simp;omega⟩
  .rw[za c,za c,n9];exact⟨rfl,by omega⟩
end
noncomputable def Zv(x:Hp)(h:Int):Hp:=if h∈lv x.S/\due (ob x.S h)=true then gT x h else x
theorem KL{s:b6}(hR:SR s){h:Int}(hl:h∈lv s):Bc s (fR (ob s h)):=by
 have oko:=L1 hR hl;exact⟨oko.s1,oko.s2,oko.st,oko.wk,oko.p1,oko.p2,oko.fl⟩
theorem Ko(o:n8):P9 o=some (due o):=by
 unfold P9 due;congr 1
section
variable{x:Hp}(hx:K1 x)(hS:SL x){h:Int}(hh:h<=9223372036854775807)
include hx hS hh
theorem It(hl:h∈lv x.S)(hd:due (ob x.S h)=true):x.Q.L.length<30:=by
 have hb:0<=(ob x.S h).Prog/\(ob x.S h).Started=false:=by
  unfold due at hd;rw[zy,zC,zb8] at hd;exact hd
 have:=(wb hx hl hb.1 hb.2).sh.q30;rw[(nD hx.sh.sr hl).2.2.2.2] at this;simp at this;omega
theorem Ct:Y4 x h=some (Zv x h):=by
 have hR:=hx.sh.sr;have cap:=hx.sh.cap;obtain⟨e,h1,h2⟩:=iI (A3.2 hR) hh;unfold Y4 Zv;rw[h1,a0A];by_cases hl:h∈lv x.S
 .have e0:e=0:=h2.2 hl;subst e0;have e1:(((0:Int) != 0)==false)=true:=rfl;simp only[e1,bK,Ko,a0A];cases hd:due (ob x.S h);·rw[zb (by simp),za (by simp)]
  .rw[za (by simp),zb ⟨hl,rfl⟩];have hr:=It hx hS hh hl hd;have hok:=KL hR hl;have l1:=iV (o:=fR (ob x.S h)) hR hl rfl hok;have r1:=cd (o:=fR (ob x.S h)) hR hl rfl hok;rw[xU (o:=fR (ob x.S h)) hR hl rfl hok,a0A,UD _ (by omega),a0A];have et:XL x.Q ⟨1,h,(ob x.S h).Prog⟩=(⟨x.Q.L ++ [Bf x h],x.Q.Cap⟩,0):=by
    unfold XL;rw[za (by omega)]
   rw[et];dsimp only;rw[mr r1 hh (λk hk=>?_),a0A];·rfl
   .dsimp only at hk |-;rw[l1] at hk;rw[gB (o:=fR (ob x.S h)) hR hl rfl hok (rB hR hk)];split;·exact hS h hl
    .exact hS k hk
 .have e0:e≠0:=λq=>hl (h2.1 q);have e1:(e != 0)=true:=by simpa using e0
  rw[e1];simp only[show ((true==false)=true)=False by simp,A6,q9,a0A,Bool.true_or,we];rw[za (λq=>hl q.1)]
end
noncomputable def Zr(x:Hp)(l:List Int):List Int:=l.foldl (λb h=>if h∈lv x.S/\h∉b then b ++ [h] else b) []
theorem Ox{x:Hp}{z:Int}(hz:z∈lv x.S):Zr x [z] = [z]:=by
 unfold Zr;simp[hz]
section
variable{x:Hp}(hR:SR x.S)
include hR
theorem uf(l:List Int)(hl:l.length<=1000)(hb:∀h∈l,h<=9223372036854775807):al x l=some (Zr x l):=by
 unfold al;simp only[jn];have key:=V9 (f:=λ((s20,s21,s22):Int × (List (Int × Bool)) × (List Int))=>
   if (decide (s20<(l.length:Int))) then
     (ix l s20).bind λv32=>
     (y5 x.S v32).bind λv33=>
     if ((v33.2==0)==true) then
      if (!((A0 s21 v32).getD (false:Bool))) then
       (app 8 s22 [v32]).bind λv34=>
       some (Sum.inl (x4 (s20+1),(p6 s21 v32 true),v34))
      else
      some (.inl (x4 (s20+1),s21,s22))
     else
     some (.inl (x4 (s20+1),s21,s22))
   else
   some (.inr s22)) l (λ(b:List (Int × Bool) × List Int) h=>if h∈lv x.S/\h∉b.2 then (p6 b.1 h true,b.2 ++ [h]) else b) (λb=>b.2) (λk b=>b.2.length<=k/\∀d,(A0 b.1 d).getD false=decide (d∈b.2)) (b0:=([],[])) (by omega) ⟨zG _,λd=>by simp[A0]⟩ (λk hk b hb2=>?_) (λb hb2=>by simp)
 .rw[key,a0A];congr 1;have:∀(l:List Int) (m:List (Int × Bool)) (b:List Int),(l.foldl (λ(b:List (Int × Bool) × List Int) h=>if h∈lv x.S/\h∉b.2 then (p6 b.1 h true,b.2 ++ [h]) else b) (m,b)).2=l.foldl (λb h=>if h∈lv x.S/\h∉b then b ++ [h] else b) b:=λl=>by
   induction l with
   | nil=>intro m b;rfl
   | cons h l ih=>
    intro m b;rw[pm,pm];by_cases c:h∈lv x.S/\h∉b
    .rw[zb c,zb c,ih]
    .rw[za c,za c,ih]
  exact this l [] []
 .obtain⟨hb1,hb3⟩:=hb2;obtain⟨e,h1,h2⟩:=iI (A3.2 hR) (hb _ (zh hk));simp only[wn,hk,ww,we,u4 hk,a0A,h1,hb3];by_cases hl:l[k]∈lv x.S
  .have e0:e=0:=h2.2 hl;subst e0;by_cases hm:l[k]∈b.2
   .rw[zb (by rfl),za (by simp[hm]),za (λq=>q.2 hm),n9];exact⟨rfl,by omega,hb3⟩
   .rw[zb (by rfl),zb (by simp[hm]),zb ⟨hl,hm⟩,I6 (by omega) (by simp;omega),a0A,n9];refine⟨rfl,by simp;omega,λd=>?_⟩;rw[qx];by_cases q:d=l[k]
    .rw[zb q];simp[q]
    .rw[za q,hb3];simp[q]
  .have e0:e≠0:=λq=>hl (h2.1 q);rw[za (by simp[e0]),za (λq=>hl q.1),n9];exact⟨rfl,by omega,hb3⟩
end
theorem yC{α β:Type}(p:α->Bool)(f:α->β):∀(xs:List α) (acc:List β),xs.foldl (λb x=>if p x then b ++ [f x] else b) acc=acc++(xs.filter p).map f
 | [],acc=>by simp
 | x::xs,acc=>by
  rw[pm,yC p f xs];by_cases h:p x=true
  .simp[h]
  .simp[h]
theorem qu{α:Type}{l:List α}{i:Nat}(h:i<l.length)(d:α):l.getD i d=l[i]:=by
 rw[zd,zc h];rfl
theorem Lr(c:k8)(ds:List Int)(hl:ds.length<=1000):cR c ds=some (jd ds c):=by
 unfold cR jd;rw[contains_eq _ _ (by omega)];cases (c.Intact&&c.Target != 0);·rfl
 .simp[A6]
def oK(l:List k8)(ds:List Int):List Nat:=(List.range l.length).filter λw=>jd ds (l.getD w cz)
theorem WA{l:List k8}{ds:List Int}{w:Nat}(h:w∈oK l ds):w<l.length:=by
 unfold oK at h;rw[zi,za6] at h;exact h.1
theorem Te(l:List k8)(ds:List Int):(oK l ds).length<=l.length:=by
 unfold oK;exact zN (zA ..) (by simp)
theorem WB(l:List k8)(ds:List Int):(oK l ds).Nodup:=zb6 _ List.nodup_range
theorem RM(l:List k8)(ds:List Int):cls l ds=(oK l ds).filter λw=>decide (0<=(l.getD w cz).Call):=by
 unfold cls oK;rw[zap];refine or λw _=>?_;rw[Bool.and_comm]
def ua(l:List Nat):List Int:=l.map λ(n:Nat)=>(n:Int)
theorem JN{l:List Nat}{k:Nat}(h:k<l.length):ix (ua l) (k:Int)=some ((l[k]:Nat):Int):=by
 unfold ua;rw[ub,u4 h];rfl
theorem yP(l:List Nat):(ua l).length=l.length:=zl ..
theorem Md(l:List k8)(ds:List Int)(hl:l.length<=1000)(hd:ds.length<=1000):N5 l ds=some (ua (oK l ds)):=by
 unfold N5;simp only[jn];have hr:(List.range l.length).length=l.length:=by simp
 have key:=V9 (List.range l.length) (λ(b:List Int) (w:Nat)=>if jd ds (l.getD w cz) then b ++ [(w:Int)] else b) id (λk b=>b.length<=k) (b0:=[]) (f:=λ((s17,s18):Int × (List Int))=>
   if (decide (s17<(l.length:Int))) then
     (ix l s17).bind λv26=>
     (cR v26 ds).bind λv27=>
     if v27 then
      (app 8 s18 [s17]).bind λv28=>
      some (Sum.inl (x4 (s17+1),v28))
     else
     some (.inl (x4 (s17+1),s18))
   else
   some (.inr s18)) (by omega) (zG _) (λk hk b hb=>?_) (λb hb=>by simp)
 .rw[key,yC];rfl
 .rw[hr] at hk;simp only[wn,hk,ww,we,u4 hk,a0A,Lr _ _ hd,List.getElem_range,qu hk];by_cases c:jd ds l[k]=true
  .rw[zb c,zb c,I6 (by omega) (by simp;omega),a0A,n9];exact⟨rfl,by simp;omega⟩
  .rw[za c,za c,n9];exact⟨rfl,by omega⟩
theorem Lv(l:List k8)(hl:l.length<=1000):cp l=some l:=by
 unfold cp;rw[kW (by omega) (by omega),a0A];unfold xK;rw[zb (by simp),a0A];simp
def tp(l:List k8)(K:List Nat):List k8:=(List.range l.length).map λi=>if i∈K then ⟨(l.getD i cz).Target,false,(l.getD i cz).Call⟩ else l.getD i cz
theorem lK(l:List k8)(K:List Nat):(tp l K).length=l.length:=by simp[tp]
theorem tq{l:List k8}{K:List Nat}{i:Nat}(h:i<(tp l K).length):(tp l K)[i]=if i∈K then ⟨(l.getD i cz).Target,false,(l.getD i cz).Call⟩ else l.getD i cz:=by simp[tp]
theorem Ns(l:List k8):tp l []=l:=by
 refine zb1 (lK ..) λi h1 h2=>?_;rw[tq,za (by simp),qu h2]
theorem Lu{l:List k8}{K:List Nat}{w:Nat}(hw:w<l.length):tp l (K ++ [w])=(tp l K).set w ⟨(l.getD w cz).Target,false,(l.getD w cz).Call⟩:=by
 refine zb1 (by rw[zas,lK,lK]) λi h1 h2=>?_;rw[tq,zcr];by_cases e:w=i
 .subst e;rw[zb rfl,zb (by simp)]
 .rw[za e,tq];by_cases q:i∈K
  .rw[zb (t6 _ q),zb q]
  .rw[za,za q];rw[zu,zn];exact λq2=>q2.elim q λq3=>e q3.symm
theorem Nr(l:List k8)(ds:List Int):tp l (oK l ds)=lJ l ds:=by
 refine zb1 (by rw[lK];simp[lJ]) λi h1 h2=>?_;have hi:i<l.length:=by rw[lK] at h1;exact h1
 have ec:(lJ l ds)[i]=rQ ds l[i]:=t8 _;rw[tq,ec,qu hi];unfold rQ;by_cases c:jd ds l[i]=true
 .rw[zb c,zb];unfold oK;rw[zi,za6,qu hi];exact⟨hi,c⟩
 .rw[za c,za];unfold oK;rw[zi,za6,qu hi];exact λq=>c q.2
theorem O4{α:Type}{l:List α}{k:Nat}(h:k<l.length):l.take (k+1)=l.take k ++ [l[k]]:=zt h
theorem Fi(l:List k8)(ds:List Int)(hl:l.length<=1000)(hd:ds.length<=1000):gF l ds=some (lJ l ds,ua (cls l ds)):=by
 unfold gF;rw[Md l ds hl hd,a0A,Lv l hl,a0A];simp only[jn,yP];have hp:=Te l ds;refine Z0 (oK l ds).length (λk (b:List k8 × List Int)=>b.1=tp l ((oK l ds).take k)/\b.2=ua (((oK l ds).take k).filter λw=>decide (0<=(l.getD w cz).Call))) (by omega) ⟨by simp[Ns],by simp[ua]⟩ ?_ ?_
 .rintro k ⟨b1,b2⟩ hk ⟨rfl,rfl⟩;left;have hw:=WA (zh hk);have hnm:(oK l ds)[k]∉(oK l ds).take k:=λq=>by
   have hn:=WB l ds;rw[<-zb3 k (oK l ds),zbs] at hn;exact hn.2.2 _ q (oK l ds)[k] (by rw[List.drop_eq_getElem_cons hk];exact zg ..) rfl
  have h1:(oK l ds)[k]<(tp l ((oK l ds).take k)).length:=by rw[lK];exact hw
  have e1:ix (tp l ((oK l ds).take k)) (((oK l ds)[k]:Nat):Int)=some (l.getD (oK l ds)[k] cz):=by rw[u4 h1,tq,za hnm]
  have h2:(oK l ds)[k]<((tp l ((oK l ds).take k)).set (oK l ds)[k] ⟨(l.getD (oK l ds)[k] cz).Target,false,(l.getD (oK l ds)[k] cz).Call⟩).length:=by rw[zas];exact h1
  have e2:ix ((tp l ((oK l ds).take k)).set (oK l ds)[k] ⟨(l.getD (oK l ds)[k] cz).Target,false,(l.getD (oK l ds)[k] cz).Call⟩) (((oK l ds)[k]:Nat):Int)=some ⟨(l.getD (oK l ds)[k] cz).Target,false,(l.getD (oK l ds)[k] cz).Call⟩:=by rw[u4 h2,List.getElem_set_self]
  dsimp only;simp only[wn,hk,ww,we,JN hk,a0A,e1,zT,e2];have hle:(ua (((oK l ds).take k).filter λw=>decide (0<=(l.getD w cz).Call))).length<=1000:=by
   rw[yP];exact zN (zA ..) (by simp;omega)
  rw[O4 hk,Lu hw,zba];by_cases c:0<=(l.getD (oK l ds)[k] cz).Call
  .rw[zb (zE c),I6 (by omega) (by simp only[zH,zah];omega),a0A,n9];refine⟨_,rfl,rfl,?_⟩;rw[mt,zb (zE c)];simp[ua]
  .rw[za (λq=>c (zbg q)),n9];refine⟨_,rfl,rfl,?_⟩;rw[mt,za (λq=>c (zbg q))];simp[ua]
 .rintro⟨b1,b2⟩ ⟨rfl,rfl⟩;refine⟨_,za (by simp),?_⟩;dsimp only;rw[zR,Nr,<-RM]
def ME(x:Hp)(ds:List Int):Hp:=⟨x.S,x.Roots,lJ x.b7 ds,x.T,⟨x.Q.L++jJ x.b7 ds,x.Q.Cap⟩⟩
theorem nb(l:List k8)(ds:List Int):(jJ l ds).length=(cls l ds).length:=zl ..
theorem HE{l:List k8}{ds:List Int}{w:Nat}(h:w∈cls l ds):w<l.length:=by
 unfold cls at h;rw[zi,za6] at h;exact h.1
theorem Vm{l:List k8}{ds:List Int}{k:Nat}(h:k<(jJ l ds).length):(jJ l ds)[k]=⟨2,(((cls l ds)[k]'(by rw[<-nb];exact h):Nat):Int),(l.getD ((cls l ds)[k]'(by rw[<-nb];exact h)) cz).Call⟩:=t8 _
theorem Nt{l:List k8}{ds:List Int}{w:Nat}(h:w<l.length):ix (lJ l ds) (w:Int)=some (rQ ds l[w]):=by
 unfold lJ;rw[ub,u4 h];rfl
section
variable{x:Hp}{ds:List Int}(hc:x.b7.length<=6)(hd:ds.length<=1000)(hq:(x.Q.L++jJ x.b7 ds).length<=30)(hcap:x.Q.Cap=30)
include hc hd hq hcap
theorem Lm{k:Nat}(hk:k<(jJ x.b7 ds).length):XL ⟨x.Q.L++(jJ x.b7 ds).take k,x.Q.Cap⟩ (jJ x.b7 ds)[k]=(⟨x.Q.L++(jJ x.b7 ds).take (k+1),x.Q.Cap⟩,0):=by
 rw[zJ] at hq;unfold XL;rw[za (by dsimp only;rw[zJ,me,hcap];omega),O4 hk,zai]
theorem HD:fO x ds=some (ME x ds):=by
 unfold fO;rw[Fi _ _ (by omega) hd,a0A];dsimp only;simp only[jn,yP];have hq2:=hq;rw[zJ] at hq2;refine Z0 (cls x.b7 ds).length (λk (q:TQ)=>q=⟨x.Q.L++(jJ x.b7 ds).take k,x.Q.Cap⟩) (by rw[<-nb];omega) (by simp) ?_ ?_
 .rintro k q hk rfl;left;have hw:=HE (zh hk);have hk2:k<(jJ x.b7 ds).length:=by rw[nb];exact hk
  simp only[wn,hk,ww,we,JN hk,a0A,Nt hw];have et:(⟨2,(((cls x.b7 ds)[k]:Nat):Int),(rQ ds x.b7[(cls x.b7 ds)[k]]).Call⟩:g5)=(jJ x.b7 ds)[k]:=by
   rw[Vm,(oZ ds _).2.1,qu hw]
  rw[et,UD _ (by dsimp only;rw[zJ,me];omega),Lm hc hd hq hcap hk2,a0A,n9 (by rw[<-nb] at hk;omega)];exact⟨_,rfl,rfl⟩
 .rintro q rfl;refine⟨_,za (by simp),?_⟩;rw[<-nb,zR];rfl
end
theorem Cy(s:b6)(i:Nat)(c d:c9):I8 (I8 s i c) i d=I8 s i d:=by
 unfold I8;dsimp only;rw[List.set_set]
section
variable{s:b6}(hR:SR s){d:Int}(hd:d∈lv s)
include hR hd
def k1(s:b6)(d:Int):b6:=I8 s (E3 d) ⟨1,(ce s (E3 d)).Gen,Lw (ob s d)⟩
def k2(s:b6)(d:Int):b6:=I8 s (E3 d) ⟨2,(ce s (E3 d)).Gen,Lw (ob s d)⟩
theorem HG:Bc s (Lw (ob s d)):=by
 have ho:=L1 hR hd;exact⟨ho.s1,ho.s2,zag _,ho.wk,ho.p1,ho.p2,zX _⟩
theorem On:dh s d (Lw (ob s d))=k1 s d:=by
 have q:=o5 hR hd;unfold dh gh k1 I8;rw[q.2.1]
theorem Ym:At (k1 s d) d (E3 d):=by
 have q:=o5 hR hd;refine⟨by unfold k1;rw[W9];exact q.1,?_,?_⟩;·unfold k1;rw[L6 q.1,zb rfl]
 .unfold k1;rw[L6 q.1,zb rfl];exact q.2.2
theorem Yn:SR (k1 s d):=by rw[<-On hR hd];exact cd (o:=Lw (ob s d)) hR hd rfl (HG hR hd)
theorem Yq:SR (k2 s d):=by
 have q:=o5 hR hd;have hc:=hR.cell _ q.1;unfold k2;refine hR.I8 q.1 ⟨by simp,by simp,hc.2.2.1,hc.2.2.2⟩ (λq=>absurd (.inr rfl) q) (λ_=>⟨HG hR hd,.inl q.2.1,?_⟩);show (ob s d).Serial=_;rw[G2 hR q]
theorem Yo:U9 (k2 s d) d (E3 d):=by
 have q:=o5 hR hd;refine⟨by unfold k2;rw[W9];exact q.1,?_,?_⟩;·unfold k2;rw[L6 q.1,zb rfl];exact .inr rfl
 .unfold k2;rw[L6 q.1,zb rfl];exact q.2.2
theorem Sk:Z2 (k1 s d).S d=some ((k2 s d).S,0):=by
 have q:=o5 hR hd;have hR1:=Yn hR hd;have q1:=Ym hR hd;have hr:=I7 hR hd;have hlen:=hR1.len;have hH:CH d:=((sa hR1).2 q1.d).2.1;have hsl:(d-1) % 32=(E3 d:Nat):=((sa hR1).2 q1.d).2.2.1;have hg:(d-1) / 32=(ce s (E3 d)).Gen:=by
  have:=q.2.2;have h24:=hR.len;have:=q.1;omega
 unfold Z2 H9;rw[xH hR1 q1.d,a0A,za (by simp),JO q1.1,a0A,q1.2.1,za (by simp),a0A,za (by simp),pq (by omega),a0A,zb hH,hsl,rv (by omega),a0A,zb hH,hg,mK rfl q1.1 hlen,a0A];have e:(ce (k1 s d) (E3 d)).Val=Lw (ob s d):=by unfold k1;rw[L6 q.1,zb rfl]
 rw[e];congr 2;show (I8 (k1 s d) (E3 d) _).S=(k2 s d).S;unfold k1 k2;rw[Cy]
theorem Yi(hw:(ob s d).Weak=0):EG (k2 s d) (E3 d)=xl s d:=by
 have q:=o5 hR hd;have e:ce (k2 s d) (E3 d)=⟨2,(ce s (E3 d)).Gen,Lw (ob s d)⟩:=by unfold k2;rw[L6 q.1,zb rfl]
 unfold EG xl Ha;rw[e];rw[G2 hR q] at hw;rw[zb hw];unfold k2;rw[Cy];rfl
theorem Yp(hw:(ob s d).Weak≠0):k2 s d=xl s d:=by
 have q:=o5 hR hd;unfold k2 xl Ha;rw[G2 hR q] at hw |-;rw[za hw]
end
theorem LO{x:Hp}(hR:SR x.S){d:Int}(hd:d∈lv x.S):bm x d=some (wS x (xl x.S d)):=by
 unfold bm;rw[yJ hR hd,a0A];have e1:U0 x.S d (⟨(ob x.S d).Serial,0,(ob x.S d).Weak,(ob x.S d).Prog,(ob x.S d).Started,[]⟩:n8)=some (k1 x.S d,0):=by
  rw[<-On hR hd];exact xU (o:=Lw (ob x.S d)) hR hd rfl (HG hR hd)
 rw[e1,a0A,Sk hR hd,a0A];by_cases hw:(ob x.S d).Weak=0
 .rw[zb (by simpa using hw),JI (Yq hR hd) (Yo hR hd),a0A,Yi hR hd hw];rfl
 .rw[za (by simpa using hw)];show some (wS x (k2 x.S d))=_;rw[Yp hR hd hw]
theorem Ec:∀(l:List Int) {x:Hp},SR x.S->SL x->SL (l.foldl aP x)
 | [],x,_,h=>h
 | v::l,x,hR,h=>Ec l (x:=aP x v) (PH hR v) (h.QC hR v)
theorem DZ{y:Hp}(hR:SR y.S)(l:List Int)(hl:l.length<=1000000)(hb:∀v∈l,v<=9223372036854775807){K:Hp->Option Hp}:((lp (S:=Int × b9) (E:=b9) (λ((s35,s36):Int × b9)=>
     if (decide (s35<(l.length:Int))) then
      (ix l s35).bind λv39=>
      (E8 s36 v39).bind λv40=>
      some (.inl (x4 (s35+1),v40))
     else
     some (.inr s36)) (0,y)).bind K)=K (l.foldl aP y):=by
 have key:=V9 l aP id (λk z=>SR z.S) (b0:=y) (f:=λ((s35,s36):Int × b9)=>
     if (decide (s35<(l.length:Int))) then
      (ix l s35).bind λv39=>
      (E8 s36 v39).bind λv40=>
      some (Sum.inl (x4 (s35+1),v40))
     else
     some (.inr s36)) (by omega) hR (λk hk z hz=>?_) (λz hz=>by simp)
 .rw[key,a0A];rfl
 .simp only[wn,hk,ww,we,u4 hk,a0A,gA hz (hb _ (zh hk))];rw[n9];exact⟨rfl,PH hz _⟩
theorem NX(s:b6)(ds:List Int){k:Nat}(hk:k<ds.length):oR s (ds.take (k+1))=xl (oR s (ds.take k)) ds[k]:=by
 unfold oR;rw[O4 hk,zaj];rfl
section
variable{y:Hp}(hR:SR y.S){ds:List Int}(hn:ds.Nodup)(hm:∀d∈ds,d∈lv y.S)
include hR hn hm
theorem yU{k:Nat}(hk:k<ds.length):SR (oR y.S (ds.take k))/\ds[k]∈lv (oR y.S (ds.take k)):=by
 have g:=ff (ds.take k) hR ((zb9 k ds).nodup hn) λd hd=>hm d (zaf hd);refine⟨g.sr,?_⟩;rw[g.lv,zi,zC];refine⟨hm _ (zh hk),λq=>?_⟩;rw[<-zb3 k ds,zbs] at hn;exact hn.2.2 _ q ds[k] (by rw[List.drop_eq_getElem_cons hk];exact zg ..) rfl
theorem LN(hl:ds.length<=1000){K:Hp->Option Hp}:((lp (S:=Int × b9) (E:=b9) (λ((s42,s43):Int × b9)=>
    if (decide (s42<(ds.length:Int))) then
     (ix ds s42).bind λv46=>
     (bm s43 v46).bind λv47=>
     some (.inl (x4 (s42+1),v47))
    else
    some (.inr s43)) (0,y)).bind K)=K (wS y (oR y.S ds)):=by
 have key:=iM (f:=λ((s42,s43):Int × b9)=>
    if (decide (s42<(ds.length:Int))) then
     (ix ds s42).bind λv46=>
     (bm s43 v46).bind λv47=>
     some (Sum.inl (x4 (s42+1),v47))
    else
    some (.inr s43)) (t0:=y) ds.length (λk z=>z=wS y (oR y.S (ds.take k))) (λz=>z=wS y (oR y.S ds)) (by omega) rfl ?_ ?_
 .obtain⟨e,h1,h2⟩:=key;rw[h1,a0A,h2]
 .rintro k z hk rfl;left;obtain⟨h1,h2⟩:=yU hR hn hm hk;simp only[wn,hk,ww,we,u4 hk,a0A,LO (x:=wS y (oR y.S (ds.take k))) h1 h2];rw[n9,NX _ _ hk];exact⟨_,rfl,rfl⟩
 .rintro z rfl;exact⟨_,za (by simp),by rw[zR]⟩
end
section
variable{x:Hp}(hx:K1 x){ds:List Int}(hn:ds.Nodup)(hm:∀d∈ds,d∈lv x.S)
include hx hn hm
theorem HI:ds.length<=24:=zN (ai hn hm) (N3 (A3.2 hx.sh.sr))
theorem JD{d:Int}(hd:d∈lv x.S):(ob x.S d).Fields.length<=4:=(L1 hx.sh.sr hd).fl
theorem Kk{d:Int}(hd:d∈lv x.S):(outs x.S d).length<=4:=zN (OQ _) (JD hx hn hm hd)
theorem vB:∀(l:List Int),(∀d∈l,d∈lv x.S)->(l.flatMap (outs x.S)).length<=4*l.length
 | [],_=>by simp
 | d::l,h=>by
  rw[zbe,zJ,zH];have:=vB l λe he=>h e (zo _ he);have:=Kk hx hn hm (h d (zg ..));omega
theorem Ta:∀v∈ds.flatMap (outs x.S)++(lF x.T ds).2,v<=9223372036854775807:=λv hv=>by
 rcases zu.1 hv with q | q
 .obtain⟨d,hd,q⟩:=zab.1 q;obtain⟨q,_⟩:=gx.1 q;rcases hx.sh.fl d (hm d hd) v q with e | e
  .omega
  .exact rB hx.sh.sr e
 .by_cases h0:v=0
  .omega
  .have hl:=HI hx hn hm;have h3:=(kp hx.sh.hr ds (by omega)).2.2.2.2.2 v;have h4:=jt.2 ⟨h0,q⟩;have h5:0<own x.T v:=by omega
   obtain⟨p,hp,hq⟩:=zbw.1 h5;have hq:(v != 0&&p.Val==v)=true:=hq;rw[zy,ms] at hq;have:=(hx.sh.pr _ _ (cG.1 hp)).2;rw[hq.2] at this;exact rB hx.sh.sr this
theorem Pj:(ds.flatMap (outs x.S)++(lF x.T ds).2).length<=200:=by
 have hl:=HI hx hn hm;have h1:=vB hx hn hm ds hm;have h2:=(kp hx.sh.hr ds (by omega)).2.2.1;rw[zJ];omega
theorem Jt(hq:(x.Q.L++jJ x.b7 ds).length<=30){l:List Int}(h1:al x l=some ds):cg x l=some (gY x ds):=by
 have hl:=HI hx hn hm;have hR:=hx.sh.sr;obtain⟨w1,w2,w3,w4,w5,w6⟩:=kp hx.sh.hr ds (by omega);have ol:=Pj hx hn hm;have fl:=vB hx hn hm ds hm;unfold cg;rw[h1,a0A,HD (by have:=hx.sh.c6;omega) (by omega) hq hx.sh.cap,a0A];simp only[jn];have key:=V9 ds (λb d=>b++outs x.S d) id (λk b=>b.length<=4*k) (b0:=[]) (f:=λ((s49,s50):Int × (List Int))=>
   if (decide (s49<(ds.length:Int))) then
    (ix ds s49).bind λv53=>
    (y5 (ME x ds).S v53).bind λv54=>
    (jF v54.1.Fields).bind λv55=>
    (app 8 s50 v55).bind λv56=>
    some (Sum.inl (x4 (s49+1),v56))
   else
   some (.inr s50)) (by omega) (by simp) (λk hk b hb=>?_) (λb hb=>by simp)
 .rw[key,a0A,sf,zcj];dsimp only[id];rw[show (ME x ds).T=x.T from rfl,w1,a0A];have ol2:=ol;rw[zJ] at ol2;rw[I6 (by omega) (by omega),a0A];have k1:=LN (y:=⟨(ME x ds).S,(ME x ds).Roots,(ME x ds).b7,(lF x.T ds).1,(ME x ds).Q⟩) hR hn hm (by omega) (K:=λe=>(lp (S:=Int × b9) (E:=b9) (λ((s35,s36):Int × b9)=>
     if (decide (s35<((ds.flatMap (outs x.S)++(lF x.T ds).2).length:Int))) then
      (ix (ds.flatMap (outs x.S)++(lF x.T ds).2) s35).bind λv39=>
      (E8 s36 v39).bind λv40=>
      some (.inl (x4 (s35+1),v40))
     else
     some (.inr s36)) (0,e)).bind λe34=>some e34)
  refine zcw k1 ?_;have g:=ff ds hR hn hm;have k2:=DZ (y:=wS (⟨(ME x ds).S,(ME x ds).Roots,(ME x ds).b7,(lF x.T ds).1,(ME x ds).Q⟩:Hp) (oR x.S ds)) g.sr _ (by omega) (Ta hx hn hm) (K:=λe34=>some e34);refine zcw k2 ?_;rfl
 .have hd:=hm _ (zh hk);have f4:=JD hx hn hm hd;have o4:=Kk hx hn hm hd;simp only[wn,hk,ww,we,u4 hk,a0A,show (ME x ds).S=x.S from rfl,yJ hR hd,Gc _ (by omega:(ob x.S ds[k]).Fields.length<=1000000)];have e:nz (ob x.S ds[k]).Fields=outs x.S ds[k]:=rfl;rw[e,I6 (by omega) (by omega),a0A,n9];exact⟨rfl,by rw[zJ];omega⟩
end
theorem RG{x:Hp}(hR:SR x.S)(hS:SL x){ds:List Int}(hn:ds.Nodup)(hm:∀d∈ds,d∈lv x.S)(t:Tb):SL (jH x ds t):=λk hk=>by
 have g:=ff ds hR hn hm;have hk:k∈lv (oR x.S ds):=hk;rw[g.lv,zi,zC] at hk;have e:ob (jH x ds t).S k=ob x.S k:=g.ob k hk.1 hk.2;rw[e];exact hS k hk.1
theorem Nl{x:Hp}(hR:SR x.S)(hS:SL x){ds:List Int}(hn:ds.Nodup)(hm:∀d∈ds,d∈lv x.S):SL (gY x ds):=
 Ec _ (x:=jH x ds (lF x.T ds).1) (ff ds hR hn hm).sr (RG hR hS hn hm _)
theorem PB{x:Hp}(hR:SR x.S)(hS:SL x){h:Int}(hh:h∈lv x.S):SL (gT x h):=by
 have hok:=KL hR hh;have r1:=cd (o:=fR (ob x.S h)) hR hh rfl hok;refine SL.F3 (x:=⟨dh x.S h (fR (ob x.S h)),x.Roots,x.b7,x.T,⟨x.Q.L ++ [Bf x h],x.Q.Cap⟩⟩) (λk hk=>?_) r1 h;dsimp only at hk |-;rw[iV (o:=fR (ob x.S h)) hR hh rfl hok] at hk;rw[gB (o:=fR (ob x.S h)) hR hh rfl hok (rB hR hk)];split;·exact hS h hh
 .exact hS k hk
theorem Xq{x:Hp}(hx:K1 x)(hS:SL x):SL (He x):=by
 cases h:zr x with
 | nil=>rw[nW h];exact hS
 | cons z l=>
  have hz:=(dg.1 (show z∈zr x by rw[h];exact zg ..)).1;rw[kl h];split;·exact PB hx.sh.sr hS hz
  .exact Nl hx.sh.sr hS (by simp) (by simpa using hz)
theorem IF{x:Hp}(hx:K1 x)(hS:SL x)(n:Nat):SL (oO n x):=by
 induction n with
 | zero=>exact hS
 | succ n ih=>rw[fS];exact Xq (Q5 hx n) ih
theorem KJ{x:Hp}(hx:K1 x)(hS:SL x):SL (bN x):=IF hx hS 100
section
variable{x:Hp}(hx:K1 x)(hS:SL x)
include hx hS
theorem MD{z:Int}(hz:z∈zr x):(x.Q.L++jJ x.b7 [z]).length<=30:=by
 have h1:=(Bb hx hz).sh.q30;have hzl:=(dg.1 hz).1;rw[(tf hx.sh.sr (ds:=[z]) (by simp) (by simpa using hzl)).2.2.2] at h1;exact h1
theorem Mm(h:zr x = []):((eQ x).bind λv4=>
  if ((v4.length:Int)==0) then
   some (Sum.inr x)
  else
  (ix v4 0).bind λv5=>
  (y5 x.S v5).bind λv6=>
  (P9 v6.1).bind λv7=>
  if v7 then
   (Y4 x v5).bind λv8=>
   some (.inl v8)
  else
  (cut v4 0 1).bind λv9=>
  (cg x v9).bind λv10=>
  some (Sum.inl (α:=Hp) (β:=Hp) v10))=some (.inr x):=by
 rw[zero_eq hx.sh.sr,a0A,h];rfl
theorem ZE(z:Int)(l:List Int):cut (z::l) 0 1=some [z]:=by
 unfold cut;rw[zb (by simp;omega)];simp
theorem Ix(h:zr x ≠ []):((eQ x).bind λv4=>
  if ((v4.length:Int)==0) then
   some (Sum.inr x)
  else
  (ix v4 0).bind λv5=>
  (y5 x.S v5).bind λv6=>
  (P9 v6.1).bind λv7=>
  if v7 then
   (Y4 x v5).bind λv8=>
   some (.inl v8)
  else
  (cut v4 0 1).bind λv9=>
  (cg x v9).bind λv10=>
  some (Sum.inl (α:=Hp) (β:=Hp) v10))=some (.inl (He x)):=by
 cases hz:zr x with
 | nil=>exact absurd hz h
 | cons z l=>
  have hzm:z∈zr x:=by rw[hz];exact zg ..
  have hzl:=(dg.1 hzm).1;have hR:=hx.sh.sr;rw[zero_eq hR,a0A,hz,za (by simp;omega),show ix (z::l) 0=some z from rfl,a0A,yJ hR hzl,a0A,Ko,a0A,kl hz];by_cases hd:due (ob x.S z)=true
  .rw[zb hd,zb hd,Ct hx hS (rB hR hzl),a0A];unfold Zv;rw[zb ⟨hzl,hd⟩]
  .rw[za hd,za hd,ZE hx hS,a0A,Jt hx (ds:=[z]) (by simp) (by simpa using hzl) (MD hx hS hzm) (by rw[uf hR [z] (by simp) (by simpa using rB hR hzl),Ox hzl]),a0A]
theorem jC:T4 x=some (bN x):=by
 obtain⟨n,hn,h1,h2,h3⟩:=wm hx;unfold T4;refine lS (λj=>oO j x) rfl n (λ_=>True) (by omega) trivial (λk hk _=>.inl ⟨?_,trivial⟩) (λ_=>⟨oO n x,?_,by rw[h3]⟩)
 .have:=Ix (Q5 hx k) (IF hx hS k) (h2 k hk);rw[<-fS] at this;exact this
 .exact Mm (Q5 hx n) (IF hx hS n) h1
end
def Q1(n l m e:Int):Int:=if n<l\/n > m then e else 0
def cT(a b c:Int):Int:=if a≠0 then a else if b≠0 then b else c
def y6(k a b c:Int):Int:=
 if k=1 then cT (Q1 a 0 5 6) (Q1 b 0 4 1) (Q1 c (-1) 5 13)
 else if k=2\/k=9\/k=10 then cT (Q1 a 0 5 6) (Q1 b 0 5 6) 0
 else if k=3 then Q1 a 0 5 6
 else if k=4 then cT (Q1 a 0 5 6) (Q1 b 0 5 6) (Q1 c 0 3 5)
 else if k=5 then cT (Q1 a 0 5 6) (Q1 b 0 3 5) (Q1 c (-1) 5 6)
 else if k=6 then cT (Q1 a 0 5 7) (Q1 b (-1) 5 6) (Q1 c (-1) 5 13)
 else if k=7 then cT (Q1 a 0 5 6) (Q1 b 0 5 7) 0
 else if k=8 then cT (Q1 a 0 5 6) (Q1 b (-1) 5 6) 0
 else if k=11 then 0
 else if k=12 then Q1 a 0 200 12
 else 14
def DX:l5:=⟨some 251,0,5,6⟩
def To:l5:=⟨some 252,0,5,6⟩
def YC:l5:=⟨some 252,-1,5,6⟩
def YI:l5:=⟨some 254,-1,5,13⟩
def wE:List (Int × List l5):=[(1,[DX,⟨some 252,0,4,1⟩,YI]),(2,[DX,To]),(3,[DX]),(4,[DX,To,⟨some 254,0,3,5⟩]),
 (5,[DX,⟨some 252,0,3,5⟩,⟨some 254,-1,5,6⟩]),(6,[⟨some 251,0,5,7⟩,YC,YI]),(7,[DX,⟨some 252,0,5,7⟩]),(8,[DX,YC]),(9,[DX,To]),(10,[DX,To]),(11,[]),(12,[⟨some 251,0,200,12⟩])]
theorem HH:nc=some wE:=by kernel_rfl
def iu(o:g9)(d:l5):Int:=if d.part=some 251 then o.A else if d.part=some 252 then o.B else o.C
def re(o:g9)(d:l5):Bool:=decide (iu o d<d.least)||decide (iu o d > d.most)
def tN(o:g9):List l5->Int ⊕ Unit
 | []=>.inr ()
 | d::ds=>if re o d then .inl d.e else tN o ds
theorem FD(o:g9)(d:l5)(ds:List l5):tN o (d::ds)=if re o d then .inl d.e else tN o ds:=rfl
def IN(d:l5):Prop:=d.part=some 251\/d.part=some 252\/d.part=some 254
theorem WD(o:g9){d:l5}(h:IN d):tP d.part o=some (iu o d):=by
 unfold iu;rcases h with h | h | h
 .rw[h];rfl
 .rw[h];rfl
 .rw[h];rfl
theorem VX(o:g9)(ds:List l5)(hl:ds.length<=10)(hp:∀d∈ds,IN d):lp (S:=Int) (E:=Int ⊕ Unit) (λ(s11:Int)=>
   if (decide (s11<(ds.length:Int))) then
    (ix ds s11).bind λv13=>
    (tP v13.part o).bind λv14=>
    if ((decide (v14<v13.least))||(decide (v14 > v13.most))) then
     some (.inr (.inl v13.e))
    else
    some (.inl (x4 (s11+1)))
   else
   some (.inr (.inr ()))) 0=some (tN o ds):=by
 refine qG (Ci ds.length (λk=>tN o ds=tN o (ds.drop k)) (λe=>e=tN o ds) (by omega) rfl (λk hk hP=>?_) (λhP=>?_))
 .rw[zb (by simpa using hk),u4 hk,a0A,WD o (hp _ (zh hk)),a0A];rw[List.drop_eq_getElem_cons hk,FD] at hP;by_cases c:re o ds[k]=true
  .rw[zb (show ((decide (iu o ds[k]<ds[k].least))||(decide (iu o ds[k] > ds[k].most)))=true from c)];rw[zb c] at hP;exact .inr ⟨_,rfl,hP.symm⟩
  .rw[za (show ¬((decide (iu o ds[k]<ds[k].least))||(decide (iu o ds[k] > ds[k].most)))=true from c),n9];rw[za c] at hP;exact .inl ⟨rfl,hP⟩
 .rw[List.drop_length] at hP;exact⟨_,za (by simp),hP.symm⟩
theorem RR:∀p∈wE,p.2.length<=10/\∀d∈p.2,IN d:=by
 have:wE.all (λp=>decide (p.2.length<=10)&&p.2.all λd=>(d.part==some 251)||(d.part==some 252)||(d.part==some 254))=true:=by kernel_rfl
 intro p hp;have:=zf.1 this p hp;rw[zy,zC,zf] at this;refine⟨this.1,λd hd=>?_⟩;have:=this.2 d hd;simp only[zbu,ms] at this;unfold IN;rcases this with (h | h) | h
 .exact .inl h
 .exact .inr (.inl h)
 .exact .inr (.inr h)
theorem Ka{m:List (Int × List l5)}{k:Int}{v:List l5}(h:A0 m k=some v):(k,v)∈m:=by
 induction m with
 | nil=>cases h
 | cons p m ih=>
  unfold A0 at h;split at h
  .rename_i c;have:k=p.1:=by simpa using c
   cases h;subst this;exact zg ..
  .exact zo _ (ih h)
def va(o:g9)(ds:List l5):Int:=match tN o ds with
 | .inl e=>e
 | .inr _=>0
theorem TV(o:g9):va o []=0:=rfl
theorem vb(o:g9)(d:l5)(ds:List l5):va o (d::ds)=if re o d then d.e else va o ds:=by
 unfold va;rw[FD];cases re o d <;> rfl
theorem Dw(o:g9)(d:l5):Q1 (iu o d) d.least d.most d.e=if re o d then d.e else 0:=by
 unfold Q1 re;by_cases h:iu o d<d.least\/iu o d > d.most
 .rw[zb h,zb (by simpa using h)]
 .rw[za h,za (by simpa using h)]
theorem TT(o:g9)(d:l5):va o [d]=Q1 (iu o d) d.least d.most d.e:=by rw[vb,TV,Dw]
theorem Ql(o:g9)(d e:l5)(h1:d.e≠0):va o [d,e]=cT (Q1 (iu o d) d.least d.most d.e) (Q1 (iu o e) e.least e.most e.e) 0:=by
 rw[vb,TT,Dw o d];unfold cT;cases re o d
 .simp only[zD,q9,ne_eq,not_true_eq_false];split;·rfl
  .rename_i h;simpa using h
 .simp[h1]
theorem TU(o:g9)(d e f:l5)(h1:d.e≠0)(h2:e.e≠0):va o [d,e,f]=cT (Q1 (iu o d) d.least d.most d.e) (Q1 (iu o e) e.least e.most e.e) (Q1 (iu o f) f.least f.most f.e):=by
 rw[vb,vb,TT,Dw o d,Dw o e];unfold cT;cases re o d <;> cases re o e <;> simp[h1,h2]
theorem Oq(o:g9):(match A0 wE o.Kind with
  | none=>14
  | some ds=>va o ds)=y6 o.Kind o.A o.B o.C:=by
 obtain⟨k,a,b,c⟩:=o;dsimp only;by_cases h:1<=k/\k<=12
 .have:k=1\/k=2\/k=3\/k=4\/k=5\/k=6\/k=7\/k=8\/k=9\/k=10\/k=11\/k=12:=by omega
  rcases this with rfl | rfl | rfl | rfl | rfl | rfl | rfl | rfl | rfl | rfl | rfl | rfl
  .exact TU _ _ _ _ (by decide) (by decide)
  .exact Ql _ _ _ (by decide)
  .exact TT _ _
  .exact TU _ _ _ _ (by decide) (by decide)
  .exact TU _ _ _ _ (by decide) (by decide)
  .exact TU _ _ _ _ (by decide) (by decide)
  .exact Ql _ _ _ (by decide)
  .exact Ql _ _ _ (by decide)
  .exact Ql _ _ _ (by decide)
  .exact Ql _ _ _ (by decide)
  .rfl
  .exact TT _ _
 .have e:A0 wE k=none:=by
   cases hm:A0 wE k with
   | none=>rfl
   | some v=>
    have:=Ka hm;simp only[wE,zM,Prod.mk.injEq,zcn,or_false] at this;omega
  rw[e];unfold y6;repeat rw[za (by omega)]
theorem oY(o:g9):X7 o=some (y6 o.Kind o.A o.B o.C):=by
 rw[<-Oq];unfold X7;rw[HH,a0A];cases h:A0 wE o.Kind with
 | none=>rfl
 | some ds=>
  obtain⟨h1,h2⟩:=RR _ (Ka h);rw[za (by simp)];simp only[jn,ul];rw[VX o ds h1 h2,a0A];unfold va;cases tN o ds <;> rfl
theorem Sf(n l m e:Int):ef n l m e=some (Q1 n l m e):=by
 unfold ef Q1;by_cases h:n<l\/n > m
 .rw[zb h,zb (by simpa using h)]
 .rw[za h,za (by simpa using h)]
theorem NP(a b c:Int):cL a b c=some (cT a b c):=by
 unfold cL cT;by_cases h:a=0
 .by_cases g:b=0
  .rw[za (by simpa using h),za (by simpa using g),za (by simpa using h),za (by simpa using g)]
  .rw[za (by simpa using h),zb (by simpa using g),za (by simpa using h),zb (by simpa using g)]
 .rw[zb (by simpa using h),zb (by simpa using h)]
theorem Jw(o:B1):gz o=some (y6 o.Kind o.A o.B o.C):=by
 unfold gz y6;simp only[Sf,NP,a0A,jn];by_cases h:1<=o.Kind/\o.Kind<=12
 .have:o.Kind=1\/o.Kind=2\/o.Kind=3\/o.Kind=4\/o.Kind=5\/o.Kind=6\/o.Kind=7\/o.Kind=8\/o.Kind=9\/o.Kind=10\/o.Kind=11\/o.Kind=12:=by omega
  rcases this with h | h | h | h | h | h | h | h | h | h | h | h <;> rw[h] <;> rfl
 .have n:∀j:Int,1<=j->j<=12->(o.Kind==j)=false:=λj h1 h2=>by
   rw[beq_eq_false_iff_ne];omega
  simp only[n 1 (by omega) (by omega),n 2 (by omega) (by omega),n 3 (by omega) (by omega),n 4 (by omega) (by omega),n 5 (by omega) (by omega),n 6 (by omega) (by omega),n 7 (by omega) (by omega),n 8 (by omega) (by omega),n 9 (by omega) (by omega),n 10 (by omega) (by omega),n 11 (by omega) (by omega),n 12 (by omega) (by omega),zD,q9];repeat rw[za (by omega)]
theorem Tw{x:Hp}(hx:K1 x){ds:List Int}:(x.Q.L++jJ x.b7 ds).length<=30:=by
 have hS:=hx.sh;have c6:=hS.c6;have h24:(lv x.S).length<=24:=N3 (A3.2 hS.sr);have htd:(x.Q.L++jJ x.b7 ds).Pairwise λa b=>¬(a.Kind=b.Kind/\a.At=b.At):=by
  rw[zav];refine⟨hS.td,BS ..,λa ha b hb q=>?_⟩;obtain⟨w,hw,rfl,hh,_⟩:=gP.1 hb;have hi:x.b7[w].Intact=true:=by
   unfold jd at hh;rw[zy,zy] at hh;exact hh.1.1
  have:=((hS.cl w hw).2.2.2.2 hi).2;rw[zbh] at this;exact this (gX.2 ⟨a,ha,q.1,q.2⟩)
 have:=AM (m:=lv x.S) htd λt ht=>by
  rcases zu.1 ht with q | q
  .rcases (hS.tk t q).2.2 with c | c
   .exact .inl ⟨c.1,c.2.1⟩
   .exact .inr c
  .obtain⟨w,hw,rfl,_,_⟩:=gP.1 q;exact .inr ⟨rfl,by dsimp only;omega,by dsimp only;omega⟩
 omega
section
variable{x:Hp}(hB:HB x)
include hB
end
structure EM (x y:Hp):Prop where
 lv:∀h∈lv y.S,h∈lv x.S
 bC:y.S.Serial=x.S.Serial
 len:y.S.S.b7.length=x.S.S.b7.length
 ob:∀h∈Sh.lv y.S,(ob y.S h).Serial=(ob x.S h).Serial/\(Sh.ob y.S h).Prog=(Sh.ob x.S h).Prog/\(Sh.ob y.S h).Fields=(Sh.ob x.S h).Fields/\((Sh.ob x.S h).Started=true->(Sh.ob y.S h).Started=true)
 rt:y.Roots=x.Roots
 cn:y.b7.length=x.b7.length
 cl:∀i (h:i<y.b7.length) (h':i<x.b7.length),y.b7[i]=⟨x.b7[i].Target,x.b7[i].Intact&&decide (x.b7[i].Target∈Sh.lv y.S),x.b7[i].Call⟩
 q:∃l,y.Q=⟨x.Q.L++l,x.Q.Cap⟩/\(∀t∈l,t.Kind=1->t.At∈Sh.lv x.S/\(Sh.ob x.S t.At).Started=false)/\∀h∈Sh.lv y.S,(Sh.ob y.S h).Started=true->(Sh.ob x.S h).Started=false->∃t∈l,t.Kind=1/\t.At=h
 rc:∀h,bp x.S x.T (oJ x) h->bp y.S y.T (oJ y) h
 has:∀k v,Has y.T k v->Has x.T k v
theorem EM.refl{x:Hp}(hx:kH x):EM x x:=by
 refine⟨λ_ h=>h,rfl,rfl,λh _=>⟨rfl,rfl,rfl,id⟩,rfl,rfl,λi h h'=>?_,⟨[],by simp,by simp,λh _ a b=>?_⟩,λ_ h=>h,λ_ _ h=>h⟩
 .have:=(hx.cl i h).2.2.2.2;cases hI:x.b7[i].Intact;·rw[Bool.false_and,<-hI]
  .rw[zE (this hI).1,zcs,<-hI]
 .rw[a] at b;cases b
theorem EM.trans{x y z:Hp}(a:EM x y)(b:EM y z):EM x z:=by
 obtain⟨l1,q1,q2,q3⟩:=a.q;obtain⟨l2,r1,r2,r3⟩:=b.q;refine⟨λh hh=>a.lv h (b.lv h hh),b.bC.trans a.bC,b.len.trans a.len,λh hh=>?_,b.rt.trans a.rt,b.cn.trans a.cn,λi h h'=>?_,⟨l1++l2,?_,λt ht hk=>?_,λh hh s1 s2=>?_⟩,λh hh=>b.rc h (a.rc h hh),λk v hh=>a.has k v (b.has k v hh)⟩
 .obtain⟨b1,b2,b3,b4⟩:=b.ob h hh;obtain⟨a1,a2,a3,a4⟩:=a.ob h (b.lv h hh);exact⟨b1.trans a1,b2.trans a2,b3.trans a3,λq=>b4 (a4 q)⟩
 .have hy:i<y.b7.length:=by rw[a.cn];exact h'
  rw[b.cl i h hy,a.cl i hy h'];dsimp only;congr 1;rw[Bool.and_assoc];congr 1;by_cases q:x.b7[i].Target∈Sh.lv z.S
  .rw[zE q,zE (b.lv _ q)];rfl
  .rw[zZ q,Bool.and_false]
 .rw[r1,q1,zai]
 .rcases zu.1 ht with q | q
  .exact q2 t q hk
  .obtain⟨e1,e2⟩:=r2 t q hk;refine⟨a.lv _ e1,?_⟩;cases hs:(Sh.ob x.S t.At).Started;·rfl
   .rw[(a.ob _ e1).2.2.2 hs] at e2;cases e2
 .cases hs:(Sh.ob y.S h).Started
  .obtain⟨t,ht,e⟩:=r3 h hh s1 hs;exact⟨t,t7 _ ht,e⟩
  .obtain⟨t,ht,e⟩:=q3 h (b.lv h hh) hs s2;exact⟨t,t6 _ ht,e⟩
theorem KH(s:b6)(h:Int)(o:n8):(dh s h o).S.b7.length=s.S.b7.length:=K6 ..
theorem Tk{x:Hp}(hx:K1 x){z:Int}(hz:z∈lv x.S)(hs:(ob x.S z).Started=false):EM x (gT x z):=by
 have hR:=hx.sh.sr;obtain⟨k,e1,e2,e3,e4⟩:=nD hR hz;have l1:=DS hR hz;have hob:∀h∈lv x.S,(ob (gT x z).S h).Serial=(ob x.S h).Serial/\(ob (gT x z).S h).Prog=(ob x.S h).Prog/\(ob (gT x z).S h).Fields=(ob x.S h).Fields/\((ob (gT x z).S h).Started=true↔(ob x.S h).Started=true\/h=z):=λh hh=>by
  obtain⟨n,e⟩:=Al hR hz hh;rw[e];by_cases q:h=z
  .subst q;rw[zb rfl];exact⟨rfl,rfl,rfl,by simp⟩
  .rw[za q];exact⟨rfl,rfl,rfl,by simp[q]⟩
 have hot:∀h∈oJ x,h∈oJ (gT x z):=λh hh=>by
  unfold oJ at hh |-;rw[e1,e4];rcases zu.1 hh with q | q
  .exact t6 _ q
  .refine t7 _ ?_;obtain⟨t,ht,a,b⟩:=lU.1 q;exact lU.2 ⟨t,t6 _ ht,a,b⟩
 have rf:=EM.refl hx.sh;refine⟨λh hh=>by rw[l1] at hh;exact hh,k.bC,k.len.trans (KH ..),λh hh=>?_,e1,by rw[e2],λi h h'=>?_,⟨[Bf x z],by rw[e4],λt ht hk=>?_,λh hh s1 s2=>?_⟩,λh hh=>?_,λk v hh=>by rw[e3] at hh;exact hh⟩
 .rw[l1] at hh;obtain⟨a,b,c,d⟩:=hob h hh;exact⟨a,b,c,λq=>d.2 (.inl q)⟩
 .have e5:(gT x z).b7[i]=x.b7[i]:=by simp only[e2]
  rw[e5,l1];exact rf.cl i h' h'
 .rw[zn] at ht;subst ht;exact⟨hz,hs⟩
 .rw[l1] at hh;rcases (hob h hh).2.2.2.1 s1 with q | q
  .rw[q] at s2;cases s2
  .exact⟨Bf x z,List.mem_singleton_self _,rfl,q.symm⟩
 .induction hh with
  | base h1 h2=>exact .base (hot _ h1) (by rw[l1];exact h2)
  | step h0 h1 h2 ih=>
   refine .step ih ?_ (by rw[l1];exact h2);unfold outs at h1 |-;rw[(hob _ h0.live).2.2.1];exact h1
  | pair h1 h0 h2 ih=>exact .pair (by rw[e3];exact h1) ih (by rw[l1];exact h2)
theorem RH{x:Hp}(hx:K1 x){z:Int}(hz:z∈zr x):EM x (gY x [z]):=by
 have hR:=hx.sh.sr;have hzl:=(dg.1 hz).1;have h0:z≠0:=λe=>fp hR (e▸hzl);have hfree:=EE hx hz;have hn:([z]:List Int).Nodup:=by simp
 have hm:∀d ∈ [z],d∈lv x.S:=by simpa using hzl
 have g:=ff [z] hR hn hm;have k:=(iw ([z].flatMap (outs x.S)++(lF x.T [z]).2) (x:=jH x [z] (lF x.T [z]).1) g.sr).1;obtain⟨e1,e2,e3,e4⟩:=tf hR hn hm;obtain⟨_,w2,_,_,w5,w6⟩:=kp hx.sh.hr [z] (by simp);have l1:∀h,h∈lv (gY x [z]).S↔h∈lv x.S/\h≠z:=λh=>by
  rw[Hx hR hn hm,zi,zC,zn]
 have hob:∀h∈lv (gY x [z]).S,(ob (gY x [z]).S h).Serial=(ob x.S h).Serial/\(ob (gY x [z]).S h).Prog=(ob x.S h).Prog/\(ob (gY x [z]).S h).Fields=(ob x.S h).Fields/\(ob (gY x [z]).S h).Started=(ob x.S h).Started:=λh hh=>by
  obtain⟨a,b⟩:=(l1 h).1 hh;obtain⟨n,e⟩:=Hy hR hn hm a (by simpa using b);rw[e];exact⟨rfl,rfl,rfl,rfl⟩
 refine⟨λh hh=>((l1 h).1 hh).1,k.bC.trans g.bC,k.len.trans g.len,λh hh=>?_,e1,by rw[e2];simp[lJ],λi h h'=>?_,⟨jJ x.b7 [z],by rw[e4],λt ht hk=>?_,λh hh s1 s2=>?_⟩,λh hh=>?_,λk v hh=>?_⟩
 .obtain⟨a,b,c,d⟩:=hob h hh;exact⟨a,b,c,λq=>d.trans q⟩
 .have e5:(gY x [z]).b7[i]=rQ [z] x.b7[i]:=by
   simp only[e2];exact t8 _
  rw[e5];have hc:=(hx.sh.cl i h').2.2.2.2;unfold rQ jd;cases hI:x.b7[i].Intact;·rw[za (by simp),Bool.false_and,<-hI]
  .have ht:=(hc hI).1;have ht0:x.b7[i].Target≠0:=λe=>fp hR (e▸ht);by_cases q:x.b7[i].Target=z
   .rw[zb (by simp[q,h0]),zZ (λr=>((l1 _).1 r).2 q)];rfl
   .rw[za (by simp[q]),zE ((l1 _).2 ⟨ht,q⟩),zcs,<-hI]
 .obtain⟨w,hw,rfl,_,_⟩:=gP.1 ht;simp at hk
 .rw[(hob h hh).2.2.2,s2] at s1;cases s1
 .unfold mb at hfree;have key:bp (gY x [z]).S (gY x [z]).T (oJ (gY x [z])) h/\h≠z:=by
   induction hh with
   | base h1 h2=>
    rename_i a;have hne:a≠z:=λe=>by
     subst e;exact GP h0 (by omega:R4 (oJ x) a=0) h1
    refine⟨.base ?_ ((l1 _).2 ⟨h2,hne⟩),hne⟩;unfold oJ at h1 |-;rw[e1,e4,yM _ _ _ λt ht=>by
     obtain⟨w,_,rfl,_⟩:=gP.1 ht;simp]
    exact h1
   | step q0 q1 q2 ih=>
    rename_i a b;have hne:b≠z:=λe=>by
     subst e;have:=Dy (y:=b) q0.live;have h1:=jt.2 ⟨h0,q1⟩;omega
    refine⟨.step ih.1 ?_ ((l1 _).2 ⟨q2,hne⟩),hne⟩;unfold outs at q1 |-;rw[(hob _ ((l1 _).2 ⟨q0.live,ih.2⟩)).2.2.1];exact q1
   | pair q1 q0 q2 ih=>
    rename_i a b;have hne:b≠z:=λe=>by
     subst e;have:=DN q1 h0;omega
    exact⟨.pair (by rw[e3];exact (w5 _ _).2 ⟨by simpa using ih.2,q1⟩) ih.1 ((l1 _).2 ⟨q2,hne⟩),hne⟩
  exact key.1
 .rw[e3] at hh;exact ((w5 _ _).1 hh).2
theorem TI{x:Hp}(hx:K1 x):EM x (He x):=by
 cases h:zr x with
 | nil=>rw[nW h];exact EM.refl hx.sh
 | cons z l=>
  have hz:z∈zr x:=by rw[h];exact zg ..
  rw[kl h];split
  .rename_i q;unfold due at q;rw[zy,zC,zb8] at q;exact Tk hx (dg.1 hz).1 q.2
  .exact RH hx hz
theorem TG{x:Hp}(hx:K1 x)(n:Nat):EM x (oO n x):=by
 induction n with
 | zero=>exact EM.refl hx.sh
 | succ n ih=>rw[fS];exact ih.trans (TI (Q5 hx n))
theorem mB{x:Hp}(hx:K1 x):EM x (bN x):=TG hx 100
theorem Sx{T E R:Type}{f:T × Int->Option ((T × Int) ⊕ E)}{t0:T}{κ:E->Option R}{r:R}(n:Nat)(P:Nat->T->Prop)(hn:n<4611686018427387904)(h0:P 0 t0)
  (hs:∀k t,k<n->P k t->∃t',f (t,(k:Int))=some (.inl (t',((k+1:Nat):Int)))/\P (k+1) t')(he:∀t,P n t->∃e,f (t,(n:Int))=some (.inr e)/\κ e=some r):(lp f (t0,0)).bind κ=some r:=by
 refine Sw (λ(s:T × Int)=>∃k:Nat,s.2=(k:Int)/\k<=n/\P k s.1) (λs=>n-s.2.toNat) ⟨0,rfl,zX _,h0⟩ (by show n-_<_;omega) ?_;rintro⟨t,_⟩ ⟨k,rfl,hk,hP⟩;rcases zF k n with h1 | h1
 .obtain⟨t',k1,k2⟩:=hs k t h1 hP;exact .inl ⟨_,k1,⟨k+1,rfl,h1,k2⟩,by show n-_<n-_;simp;omega⟩
 .have:k=n:=by omega
  subst this;exact .inr (he t hP)
section
variable{x:Hp}(hB:HB x)
include hB
end
structure Ks (s s':b6):Prop where
 sr:SR s'
 bC:s'.Serial=s.Serial
 lv:lv s'=lv s
 ob:∀h∈Sh.lv s,(ob s' h).Serial=(ob s h).Serial
theorem Ks.refl{s:b6}(hR:SR s):Ks s s:=⟨hR,rfl,rfl,λ_ _=>rfl⟩
theorem Ks.trans{a b c:b6}(h:Ks a b)(q:Ks b c):Ks a c:=⟨q.sr,q.bC.trans h.bC,q.lv.trans h.lv,λk hk=>(q.ob k (by rw[h.lv];exact hk)).trans (h.ob k hk)⟩
theorem wB.ks{s s':b6}(hR:SR s)(k:wB s s'):Ks s s':=⟨k.sr,k.bC,k.lv,λh hh=>by
 obtain⟨n,e⟩:=k.ob h (by have:=I7 hR hh;omega);rw[e]⟩
theorem Kn.ks{s s':b6}(k:Kn s s')(e:s'.Serial=s.Serial):Ks s s':=⟨k.sr,e,k.lv,λh hh=>by
 obtain⟨n,m,e⟩:=k.ob h hh;rw[e]⟩
theorem Xg{s:b6}(hR:SR s){h:Int}(hh:h∈lv s){o:n8}(hs:o.Serial=(ob s h).Serial)(ho:Bc s o):Ks s (dh s h o):=⟨cd hR hh hs ho,rfl,iV hR hh hs ho,λk hk=>by
 rw[gB hR hh hs ho (by have:=I7 hR hk;omega)];split;·rename_i e;subst e;exact hs
 .rfl⟩
theorem Eg{x:Hp}(hR:SR x.S)(h:Int):Ks x.S (F3 x h).S:=(I9 hR h λc=>F2).ks hR
theorem Ed{x:Hp}(hR:SR x.S)(h:Int):Ks x.S (aP x h).S:=(I9 hR h λc=>Q3).ks hR
theorem Av(x:Hp)(h:Int):(aP x h).Roots=x.Roots/\(aP x h).b7=x.b7/\(aP x h).T=x.T/\(aP x h).Q=x.Q:=AH x h lx
theorem dx{x:Hp}(hR:SR x.S)(r:Nat)(h:Int):Ks x.S (G9 x r h).S:=
 (Eg hR h).trans (Ed (x:=wR (F3 x h) (x.Roots.set r h)) (kg hR h) _)
theorem BV{x:Hp}(hR:SR x.S){h:Int}(hh:h∈lv x.S){n:Nat}(hn:n<(ob x.S h).Fields.length)(v:Int):Ks x.S (bS x h n v).S:=by
 have k1:=Eg hR v;have hh1:h∈lv (F3 x v).S:=by rw[k1.lv];exact hh
 have hof:(ob (F3 x v).S h).Fields=(ob x.S h).Fields:=by
  obtain⟨n,e⟩:=(I9 hR v (f:=ab) λc=>F2).ob h (by have:=I7 hR hh;omega);show (ob (uV x v ab).S h).Fields=_;rw[e]
 have ho:Bc (F3 x v).S (rZ (ob (F3 x v).S h) ((ob x.S h).Fields.set n v)):=by
  have:=L1 k1.sr hh1;refine⟨this.s1,this.s2,this.st,this.wk,this.p1,this.p2,?_⟩;have h4:=this.fl;rw[hof] at h4;simpa using h4
 have k2:=Xg (o:=rZ (ob (F3 x v).S h) ((ob x.S h).Fields.set n v)) k1.sr hh1 rfl ho;exact (k1.trans k2).trans (Ed (x:=wS (F3 x v) (dh (F3 x v).S h (rZ (ob (F3 x v).S h) ((ob x.S h).Fields.set n v)))) k2.sr _)
theorem ph(x:Hp)(h:Int)(n:Nat)(v:Int):(bS x h n v).Roots=x.Roots/\(bS x h n v).b7=x.b7/\(bS x h n v).T=x.T/\(bS x h n v).Q=x.Q:=by
 obtain⟨a,b,c,d⟩:=Av (wS (F3 x v) (dh (F3 x v).S h (rZ (ob (F3 x v).S h) ((ob x.S h).Fields.set n v)))) ((ob x.S h).Fields.getD n 0);obtain⟨a',b',c',d'⟩:=uP x v;exact⟨a.trans a',b.trans b',c.trans c',d.trans d'⟩
theorem Gi{x:Hp}(hR:SR x.S)(v:Int)(t:Tb)(old:Int):Ks x.S (ja x v t old).S:=
 (Eg hR v).trans (Ed (x:=wT (F3 x v) t) (kg hR v) old)
theorem sz(x:Hp)(v:Int)(t:Tb)(old:Int):(ja x v t old).Roots=x.Roots/\(ja x v t old).b7=x.b7/\(ja x v t old).T=t/\(ja x v t old).Q=x.Q:=by
 obtain⟨a,b,c,d⟩:=Av (wT (F3 x v) t) old;obtain⟨a',b',c',d'⟩:=uP x v;exact⟨a.trans a',b.trans b',c,d.trans d'⟩
theorem VF{s:b6}(hR:SR s){i:Nat}(hi:i<s.S.b7.length)(h2:(ce s i).State=2):Ks s (EG s i):=⟨Ds hR hi,rfl,Dq hR hi h2,λh hh=>by rw[Dr hR hi h2 hh]⟩
theorem Wf{x:Hp}(hR:SR x.S)(h:Int){d:Int}(hd:U9 x.S h (E3 h)->0<=(ce x.S (E3 h)).Val.Weak+d):Ks x.S (iN x h d).S:=by
 unfold iN;split
 .rename_i q;exact (nw hR q.1 q.2.1 (hd q)).ks rfl
 .exact Ks.refl hR
theorem OI(x:Hp)(h d:Int):(iN x h d).Roots=x.Roots/\(iN x h d).b7=x.b7/\(iN x h d).T=x.T/\(iN x h d).Q=x.Q:=by
 unfold iN;split <;> exact⟨rfl,rfl,rfl,rfl⟩
theorem Mz(x:Hp)(h:Int):(qh x h).Roots=x.Roots/\(qh x h).b7=x.b7/\(qh x h).T=x.T/\(qh x h).Q=x.Q:=by
 unfold qh;split;·split <;> exact⟨rfl,rfl,rfl,rfl⟩
 .exact⟨rfl,rfl,rfl,rfl⟩
theorem KQ{x:Hp}(hR:SR x.S)(h:Int)(hd:U9 x.S h (E3 h)->1<=(ce x.S (E3 h)).Val.Weak):Ks x.S (qh x h).S:=by
 unfold qh;split
 .rename_i q;have hd:=hd q;have kn:=nw (d:=-1) hR q.1 q.2.1 (by omega);split
  .rename_i c;have hi1:E3 h<(lV x.S (E3 h) (-1)).S.b7.length:=by rw[kn.len];exact q.1
   have hce:ce (lV x.S (E3 h) (-1)) (E3 h)=⟨(ce x.S (E3 h)).State,(ce x.S (E3 h)).Gen,Zz (ce x.S (E3 h)).Val ((ce x.S (E3 h)).Val.Weak + -1)⟩:=by
    rw[fw hR q.1 q.2.1,zb rfl]
   have h2:(ce (lV x.S (E3 h) (-1)) (E3 h)).State=2:=by rw[hce];exact c.1
   exact (kn.ks rfl).trans (VF kn.sr hi1 h2)
  .exact kn.ks rfl
 .exact Ks.refl hR
theorem GU{x:Hp}(hx:K1 x){n:Nat}(hn:n<6)(h call:Int):Ks x.S (cW x n h call).S:=by
 have hR:=hx.sh.sr;have hnl:n<x.b7.length:=by have:=hx.sh.c6;omega
 have ok:∀k i,U9 x.S k i->0<=(ce x.S i).Val.Weak:=λk i q=>(hR.ok i q.1 q.2.1).wk;have tw:∀i,U9 x.S (mD x n) i->1<=(ce x.S i).Val.Weak:=λi q=>by
  have htg:mD x n=x.b7[n].Target:=by
   unfold mD;rw[zd,zc hnl];rfl
  have r:=q.Ml hR;have p:=uz hnl (by rw[<-htg];omega);rw[<-htg,q.2.2] at p;have:=(hx.wk i q.1 q.2.1).1;omega
 unfold cW;have s1:Ks x.S (iN (wC x (x.b7.set n (fV h call))) h 1).S:=Wf (x:=wC x (x.b7.set n (fV h call))) hR h λq=>by
  have:=ok _ _ q;dsimp only;omega
 by_cases q:U9 x.S h (E3 h)
 .have e:iN (wC x (x.b7.set n (fV h call))) h 1=wS (wC x (x.b7.set n (fV h call))) (lV x.S (E3 h) 1):=by
   unfold iN;rw[zb q]
  have hd:=ok _ _ q;have kn:=nw (d:=1) hR q.1 q.2.1 (by omega);rw[e] at s1 |-;refine s1.trans (KQ (x:=wS (wC x (x.b7.set n (fV h call))) (lV x.S (E3 h) 1)) kn.sr _ λq2=>?_);dsimp only at q2 |-;have q3:=(kn.ad _ _).1 q2;have:=tw _ q3;rw[fw hR q.1 q.2.1];split
  .rename_i e2;rw[e2] at this;show 1<=(ce x.S (E3 h)).Val.Weak+1;omega
  .exact this
 .have e:iN (wC x (x.b7.set n (fV h call))) h 1=wC x (x.b7.set n (fV h call)):=by
   unfold iN;rw[za q]
  rw[e] at s1 |-;exact s1.trans (KQ (x:=wC x (x.b7.set n (fV h call))) hR _ λq2=>tw _ q2)
theorem AU(x:Hp)(n:Nat)(h call:Int):(cW x n h call).Roots=x.Roots/\(cW x n h call).b7=x.b7.set n (fV h call)/\(cW x n h call).T=x.T/\(cW x n h call).Q=x.Q:=by
 obtain⟨a,b,c,d⟩:=Mz (iN (wC x (x.b7.set n (fV h call))) h 1) (mD x n);obtain⟨a',b',c',d'⟩:=OI (wC x (x.b7.set n (fV h call))) h 1;exact⟨a.trans a',b.trans b',c.trans c',d.trans d'⟩
abbrev Zt(s:b6)(n:Nat)(p:Int):n8:=⟨s.Serial+1,0,0,p,false,List.replicate n 0⟩
def dI(s:b6)(i n:Nat)(p:Int):b6:=⟨⟨s.S.b7.set i ⟨1,(ce s i).Gen,Zt s n p⟩,s.S.Last⟩,s.Serial+1⟩
section
variable{s:b6}(hR:SR s){i:Nat}(hi:i<s.S.b7.length)(h0:(ce s i).State=0){n:Nat}(hn:n<=4){p:Int}(hp : -1<=p/\p<=5)
include hR hi h0 hn hp
theorem jT:(dI s i n p).S.b7.length=s.S.b7.length:=by simp[dI]
theorem lW(j:Nat):ce (dI s i n p) j=if j=i then ⟨1,(ce s i).Gen,Zt s n p⟩ else ce s j:=yH hi _ _ j
theorem Ga:SR (dI s i n p):=by
 have hser:=hR.bC;have hc:=hR.cell i hi;have hnt:¬Th (ce s i):=λh=>by
  rcases h with h | h <;> omega
 refine⟨by rw[jT hR hi h0 hn hp];exact hR.len,hR.l0,hR.l9,by show 0<=s.Serial+1;omega,λj hj=>?_,λj hj ht=>?_,λj hj ht=>?_,λj k hj hk a b e=>?_⟩
 .rw[jT hR hi h0 hn hp] at hj;rw[lW hR hi h0 hn hp];split;·exact⟨show (0:Int)<=1 by decide,show (1:Int)<=3 by decide,hc.2.2.1,hc.2.2.2⟩
  .exact hR.cell j hj
 .rw[jT hR hi h0 hn hp] at hj;rw[lW hR hi h0 hn hp] at ht |-;split at ht;·exact absurd (.inl rfl) ht
  .rename_i e;rw[za e];exact hR.no j hj ht
 .rw[jT hR hi h0 hn hp] at hj;rw[lW hR hi h0 hn hp] at ht |-;split at ht
  .rename_i e;rw[zb e];exact⟨by show 1<=s.Serial+1;omega,zag _,zag 0,zag 0,hp.1,hp.2,by simpa using hn⟩
  .rename_i e;rw[za e];have:=hR.ok j hj ht;exact⟨this.s1,by show _<=s.Serial+1;have:=this.s2;omega,this.st,this.wk,this.p1,this.p2,this.fl⟩
 .rw[jT hR hi h0 hn hp] at hj hk;rw[lW hR hi h0 hn hp] at a e;rw[lW hR hi h0 hn hp] at b e;have old:∀m,m<s.S.b7.length->Th (ce s m)->(ce s m).Val.Serial≠s.Serial+1:=λm hm t q=>by
   have:=(hR.ok m hm t).s2;omega
  by_cases ej:j=i <;> by_cases ek:k=i
  .rw[ej,ek]
  .rw[za ek] at b e;rw[zb ej] at e;exact absurd e.symm (old k hk b)
  .rw[za ej] at a e;rw[zb ek] at e;exact absurd e (old j hj a)
  .rw[za ej] at a e;rw[za ek] at b e;exact hR.dif j k hj hk a b e
theorem Ac{k:Int}{j:Nat}(q:U9 s k j):j≠i:=λe=>by
 subst e;rcases q.2.1 with h | h <;> omega
theorem OG{k:Int}{j:Nat}:U9 (dI s i n p) k j↔U9 s k j\/(j=i/\k=cy s i):=by
 unfold U9;rw[jT hR hi h0 hn hp,lW hR hi h0 hn hp];by_cases e:j=i
 .rw[zb e];subst e;constructor
  .rintro⟨a,b,c⟩;exact .inr ⟨rfl,c⟩
  .rintro (⟨a,b,c⟩ | ⟨_,c⟩);·exact absurd rfl (Ac hR hi h0 hn hp ⟨a,b,c⟩)
   .exact⟨hi,.inl rfl,c⟩
 .rw[za e];constructor;·exact .inl
  .rintro (h | ⟨h,_⟩);·exact h
   .exact absurd h e
theorem Co:lv (dI s i n p)=lv s ++ [cy s i]:=by
 have e:=Ia (s:=s) (A3.2 hR) hi (by rw[<-P4 hi];exact h0) (Zt s n p) rfl (gN (A3.2 hR));unfold dI;rw[show (ce s i).Gen=s.S.b7[i].Gen by rw[P4 hi]];have e2:cy s i=1+(i:Int)+32*s.S.b7[i].Gen:=by unfold cy;rw[P4 hi]
 rw[e2];have:=gN (A3.2 (by have:=Ga hR hi h0 hn hp;unfold dI at this;rw[show (ce s i).Gen=s.S.b7[i].Gen by rw[P4 hi]] at this;exact this));rw[e] at this;exact (zK this).symm
theorem OH:cy s i∉lv s:=λh=>by
 obtain⟨j,q⟩:=(ig hR).1 h;have:i=j:=by
  have a:=q.2.2;have b:=q.1;unfold cy at a;have:=hR.len;omega
 subst this;have:=q.2.1;omega
theorem Cp{k:Int}(hk:k∈lv s):ob (dI s i n p) k=ob s k:=by
 obtain⟨j,q⟩:=(ig hR).1 hk;have hj:=Ac hR hi h0 hn hp q.d;have q2:At (dI s i n p) k j:=by
  refine⟨by rw[jT hR hi h0 hn hp];exact q.1,?_,?_⟩ <;> rw[lW hR hi h0 hn hp,za hj]
  .exact q.2.1
  .exact q.2.2
 rw[G2 (Ga hR hi h0 hn hp) q2,G2 hR q,lW hR hi h0 hn hp,za hj]
theorem vM:ob (dI s i n p) (cy s i)=Zt s n p:=by
 have q2:At (dI s i n p) (cy s i) i:=by
  refine⟨by rw[jT hR hi h0 hn hp];exact hi,?_,?_⟩ <;> rw[lW hR hi h0 hn hp,zb rfl]
  rfl
 rw[G2 (Ga hR hi h0 hn hp) q2,lW hR hi h0 hn hp,zb rfl]
end
theorem KO{l:List Int}{h:Int}(e:h∉l):R4 l h=0:=Nat.eq_zero_of_not_pos λq=>e (jt.1 q).2
theorem Ad{x:Hp}(hx:K1 x){i:Nat}(hi:i<x.S.S.b7.length)(h0:(ce x.S i).State=0){n:Nat}(hn:n<=4){p:Int}(hp : -1<=p/\p<=5):K1 (wS x (dI x.S i n p)):=by
 have hR:=hx.sh.sr;have hS:=Ga hR hi h0 hn hp;have hl:=Co hR hi h0 hn hp;have hnew:=OH hR hi h0 hn hp;have mem:∀ {k},k∈lv x.S->k∈lv (dI x.S i n p):=λhk=>by rw[hl];exact t6 _ hk
 have mem0:∀ {k},k=0\/k∈lv x.S->k=0\/k∈lv (dI x.S i n p):=λhk=>hk.imp id mem;have hpos:=tV hR hi;have split:∀ {k},k∈lv (dI x.S i n p)->k∈lv x.S\/k=cy x.S i:=λhk=>by
  rw[hl] at hk;rcases zu.1 hk with q | q
  .exact .inl q
  .exact .inr (zn.1 q)
 have rep:∀v∈List.replicate n (0:Int),v=0:=λv hv=>(za8.1 hv).2;have ntgt:∀j (hj:j<x.b7.length),x.b7[j].Target≠cy x.S i:=λj hj e=>by
  obtain⟨q,hq⟩:=(hx.sh.cl j hj).2.2.2.1 (by rw[e];omega);rw[e] at hq;have:q=i:=by
   have a:=hq.2.2;have b:=hq.1;unfold cy at a;have:=hR.len;omega
  exact Ac hR hi h0 hn hp hq this
 refine⟨⟨hS,hx.sh.hr,hx.sh.r6,hx.sh.c6,hx.sh.cap,hx.sh.q30,λt ht=>?_,hx.sh.td,λh hh=>mem0 (hx.sh.rt h hh),λh hh v hv=>?_,λk v hk=>?_,λj hj=>?_⟩,λj hj ht=>?_,λh hh hs=>?_⟩
 .obtain⟨a,b,c⟩:=hx.sh.tk t ht;refine⟨a,b,c.imp (λ⟨d,e,f⟩=>⟨d,mem e,?_⟩) id⟩;show (ob (dI x.S i n p) t.At).Started=true;rw[Cp hR hi h0 hn hp e];exact f
 .rcases split hh with q | q
  .have hv':v∈(ob (dI x.S i n p) h).Fields:=hv;rw[Cp hR hi h0 hn hp q] at hv';exact mem0 (hx.sh.fl h q v hv')
  .subst q;have hv':v∈(ob (dI x.S i n p) (cy x.S i)).Fields:=hv;rw[vM hR hi h0 hn hp] at hv';exact .inl (rep v hv')
 .obtain⟨a,b⟩:=hx.sh.pr k v hk;exact⟨mem a,mem b⟩
 .obtain⟨a,b,c,d,e⟩:=hx.sh.cl j hj;refine⟨a,b,c,λq=>?_,λq=>⟨mem (e q).1,(e q).2⟩⟩;obtain⟨m,hm⟩:=d q;exact⟨m,(OG hR hi h0 hn hp).2 (.inl hm)⟩
 .have hj':j<x.S.S.b7.length:=by have:j<(dI x.S i n p).S.b7.length:=hj;rwa [jT hR hi h0 hn hp] at this
  show (ce (dI x.S i n p) j).Val.Weak=(jy x.b7 (1+(j:Int)+32*(ce (dI x.S i n p) j).Gen):Int)/\_;have ht':Th (ce (dI x.S i n p) j):=ht;rw[lW hR hi h0 hn hp] at ht' |-;by_cases e:j=i
  .subst e;rw[zb rfl];refine⟨?_,λq=>absurd (show (1:Int)=2 from q) (by decide)⟩;show (0:Int)=(jy x.b7 (cy x.S j):Int);have:jy x.b7 (cy x.S j)=0:=by
    unfold jy;rw[List.countP_eq_zero];intro c hc;obtain⟨m,hm,rfl⟩:=un hc;have:=ntgt m hm;simp[this]
   rw[this];rfl
  .rw[za e] at ht' |-;exact hx.wk j hj' ht'
 .have hinn:∀y,kD (dI x.S i n p) y=kD x.S y:=λy=>by
   unfold kD;rw[hl,qr,List.sum_append];have e1:(lv x.S).map (λk=>R4 (outs (dI x.S i n p) k) y)=(lv x.S).map λk=>R4 (outs x.S k) y:=zw λk hk=>by
    unfold outs;rw[Cp hR hi h0 hn hp hk]
   rw[e1];have e2:outs (dI x.S i n p) (cy x.S i) = []:=by
    refine za3.2 λv hv=>?_;have h1:=gx.1 hv;rw[vM hR hi h0 hn hp] at h1;exact h1.2 (rep v h1.1)
   simp[e2,J0]
  have hnm:∀y,mb (wS x (dI x.S i n p)) y=mb x y:=λy=>by
   unfold mb;show kD (dI x.S i n p) y+own x.T y+R4 (oJ x) y=_;rw[hinn]
  rw[hnm];have hs':(ob (dI x.S i n p) h).Strong<12:=hs;show (ob (dI x.S i n p) h).Strong=_;rcases split hh with q | q
  .rw[Cp hR hi h0 hn hp q] at hs' |-;exact hx.fair h q hs'
  .subst q;rw[vM hR hi h0 hn hp];have h1:mb x (cy x.S i)=0:=by
    unfold mb;have a1:kD x.S (cy x.S i)=0:=by
     unfold kD;have:=IG (λk=>R4 (outs x.S k) (cy x.S i)) 0 (lv x.S) λk hk=>Nat.le_of_eq<|KO λq=>by
      have q2:=gx.1 q;rcases hx.sh.fl k hk _ q2.1 with e | e
      .exact q2.2 e
      .exact hnew e
     omega
    have a2:own x.T (cy x.S i)=0:=by
     unfold own;rw[List.countP_eq_zero];intro c hc;have:=(hx.sh.pr _ _ (cG.1 hc)).2;have hne:c.Val≠cy x.S i:=λe=>hnew (e▸this);simp[hne]
    have a3:R4 (oJ x) (cy x.S i)=0:=KO λq=>by
     unfold oJ at q;rcases zu.1 q with q | q
     .have q2:=gx.1 q;rcases hx.sh.rt _ q2.1 with e | e
      .exact q2.2 e
      .exact hnew e
     .obtain⟨t,ht,k1,k2⟩:=lU.1 q;rcases (hx.sh.tk t ht).2.2 with ⟨_,b,_⟩ | ⟨b,_⟩;·exact hnew (k2▸b)
      .omega
    omega
   rw[h1,J0];rfl
structure Ev (x y:Hp):Prop where
 lv:∀h∈lv y.S,(h∈Sh.lv x.S/\(ob y.S h).Serial=(ob x.S h).Serial)\/(h∉Sh.lv x.S/\(ob y.S h).Serial=x.S.Serial+1)
 s1:x.S.Serial<=y.S.Serial
 s2:y.S.Serial<=x.S.Serial+1
theorem Ev.refl(x:Hp):Ev x x:=⟨λh hh=>.inl ⟨hh,rfl⟩,by omega,by omega⟩
theorem Ks.ev{x y:Hp}(k:Ks x.S y.S):Ev x y:=⟨λh hh=>by
 rw[k.lv] at hh;exact .inl ⟨hh,k.ob h hh⟩,by rw[k.bC];omega,by rw[k.bC];omega⟩
theorem Ev.ks{x y z:Hp}(e:Ev x y)(k:Ks y.S z.S):Ev x z:=⟨λh hh=>by
 rw[k.lv] at hh;rw[k.ob h hh];exact e.lv h hh,by rw[k.bC];exact e.s1,by rw[k.bC];exact e.s2⟩
theorem Ev.stl{x y z:Hp}(e:Ev x y)(s:EM y z):Ev x z:=⟨λh hh=>by
 rw[(s.ob h hh).1];exact e.lv h (s.lv h hh),by rw[s.bC];exact e.s1,by rw[s.bC];exact e.s2⟩
theorem Yx{x:Hp}(hx:K1 x){i:Nat}(hi:i<x.S.S.b7.length)(h0:(ce x.S i).State=0){n:Nat}(hn:n<=4){p:Int}(hp : -1<=p/\p<=5):Ev x (wS x (dI x.S i n p)):=⟨λh hh=>by
 have hR:=hx.sh.sr;have hh':h∈lv (dI x.S i n p):=hh;show (_/\(ob (dI x.S i n p) h).Serial=_)\/_/\(ob (dI x.S i n p) h).Serial=_;rw[Co hR hi h0 hn hp] at hh';rcases zu.1 hh' with q | q
 .exact .inl ⟨q,by rw[Cp hR hi h0 hn hp q]⟩
 .rw[zn.1 q];exact .inr ⟨OH hR hi h0 hn hp,by rw[vM hR hi h0 hn hp]⟩,by show _<=x.S.Serial+1;omega,zag _⟩
def Cw(x y:Hp)(w:Int):Prop:=∀i:Nat,(i:Int)≠w->(y.b7.getD i cz).Target=(x.b7.getD i cz).Target/\((y.b7.getD i cz).Intact=true->(x.b7.getD i cz).Intact=true)
theorem Cw.refl(x:Hp)(w:Int):Cw x x w:=λi _=>⟨rfl,id⟩
theorem Cw.same{x y:Hp}(h:y.b7=x.b7)(w:Int):Cw x y w:=λi _=>by rw[h];exact⟨rfl,id⟩
theorem Cw.trans{x y z:Hp}{w:Int}(a:Cw x y w)(b:Cw y z w):Cw x z w:=λi hi=>⟨(b i hi).1.trans (a i hi).1,λq=>(a i hi).2 ((b i hi).2 q)⟩
theorem EM.cw{x y:Hp}(s:EM x y)(w:Int):Cw x y w:=λi _=>by
 by_cases h:i<x.b7.length
 .have h':i<y.b7.length:=by rw[s.cn];exact h
  rw[JG h,JG h',s.cl i h' h];exact⟨rfl,λq=>(zy _ _▸q).1⟩
 .have h':¬i<y.b7.length:=by rw[s.cn];exact h
  rw[zd,zd,pu (by omega),pu (by omega)];exact⟨rfl,id⟩
theorem Cw.set{x y:Hp}{w:Nat}{c:k8}(h:y.b7=x.b7.set w c):Cw x y w:=λi hi=>by
 rw[h,zd,zd,List.getElem?_set_ne (by omega)];exact⟨rfl,id⟩
def XO(s:b6)(i:Nat):Prop:=i<s.S.b7.length/\(ce s i).State=0/\∀j,j<i->(ce s j).State≠0
theorem OB{s:b6}(hR:SR s)(hb:s.Serial<9223372036854775807)(a p:Int) :
  (¬(0<=a/\a<=4)/\Y5 s a p=some (s,0,1)) \/
  ((0<=a/\a<=4)/\¬(-1<=p/\p<=5)/\Y5 s a p=some (s,0,13)) \/
  ((0<=a/\a<=4)/\(-1<=p/\p<=5)/\(∀i,i<s.S.b7.length->(ce s i).State≠0)/\Y5 s a p=some (s,0,4)) \/
  ((0<=a/\a<=4)/\(-1<=p/\p<=5)/\∃i,XO s i/\Y5 s a p=some (dI s i a.toNat p,cy s i,0)):=by
 have hs':=hR.bC;have hR':=A3.2 hR;unfold Y5 qL;by_cases ha:0<=a/\a<=4
 .right;obtain⟨ha1,ha2⟩:=ha;obtain⟨n,rfl⟩:∃n:Nat,a=n:=⟨a.toNat,by omega⟩;rw[za (by simp;omega),kW (by omega) (by omega)];simp only[a0A];by_cases hp : -1<=p/\p<=5
  .right;unfold X0;simp only[a0A];have e1:(decide (p >= -1)&&decide (p<6))=true:=by simp;omega
   rw[e1];have hl:SlO s.S:=⟨pQ hR',hR'.l0,hR'.l9,λi hi=>Ef hR' i hi⟩;rcases Eo hl ⟨s.Serial+1,0,0,p,false,List.replicate n 0⟩ with ⟨i,hi,h0,hf,e⟩ | ⟨hf,e⟩
   .right;refine⟨⟨ha1,ha2⟩,hp,i,⟨hi,by rw[P4 hi];exact h0,λj hj=>by rw[P4 (by omega)];exact hf j hj⟩,?_⟩;simp only[zb7,zD,q9,zbn];rw[show x4 (s.Serial+1)=s.Serial+1 from V3 (by omega) (by omega),e];unfold dI cy;rw[P4 hi];simp
   .left;refine⟨⟨ha1,ha2⟩,hp,λi hi=>by rw[P4 hi];exact hf i hi,?_⟩;simp only[zb7,zD,q9,zbn];rw[show x4 (s.Serial+1)=s.Serial+1 from V3 (by omega) (by omega),e];simp
  .left;refine⟨⟨ha1,ha2⟩,hp,?_⟩;unfold X0;simp only[a0A];have e1:(decide (p >= -1)&&decide (p<6))=false:=by rw[zbh];simp;omega
   rw[e1];simp
 .left;refine⟨ha,?_⟩;rw[zb (by simp;omega)];simp
def sd(x:Hp)(r:Int):Int:=if r<0 then 0 else x.Roots.getD r.toNat 0
def Bd(x:Hp)(r:Int):Int × Int:=if sd x r=0 then (0,2) else (sd x r,0)
def bC(x:Hp)(h:Int):Int:=(ob x.S h).Serial
theorem Cd{n l m e:Int}(he:e≠0)(h:Q1 n l m e=0):l<=n/\n<=m:=by
 unfold Q1 at h;split at h;·exact absurd h he
 .omega
theorem HS{a b c:Int}(h:cT a b c=0):a=0/\b=0/\c=0:=by
 unfold cT at h;split at h;·contradiction
 .split at h;·contradiction
  .omega
theorem ud{k a b c:Int}(h:y6 k a b c=0):1<=k/\k<=12:=by
 refine Decidable.byContradiction λq=>?_;have:y6 k a b c=14:=by
  unfold y6;repeat rw[za (by omega)]
 omega
theorem Vg{a b c:Int}(h:y6 1 a b c=0):(0<=a/\a<=5)/\(0<=b/\b<=4) /\ -1<=c/\c<=5:=by
 obtain⟨h1,h2,h3⟩:=HS (show cT (Q1 a 0 5 6) (Q1 b 0 4 1) (Q1 c (-1) 5 13)=0 from h);exact⟨Cd (by decide) h1,Cd (by decide) h2,Cd (by decide) h3⟩
theorem Nq{a b c:Int}(h:y6 2 a b c=0):(0<=a/\a<=5)/\(0<=b/\b<=5):=by
 obtain⟨h1,h2,_⟩:=HS (show cT (Q1 a 0 5 6) (Q1 b 0 5 6) 0=0 from h);exact⟨Cd (by decide) h1,Cd (by decide) h2⟩
theorem XT{a b c:Int}(h:y6 3 a b c=0):0<=a/\a<=5:=Cd (by decide) (show Q1 a 0 5 6=0 from h)
theorem Vh{a b c:Int}(h:y6 4 a b c=0):(0<=a/\a<=5)/\(0<=b/\b<=5)/\0<=c/\c<=3:=by
 obtain⟨h1,h2,h3⟩:=HS (show cT (Q1 a 0 5 6) (Q1 b 0 5 6) (Q1 c 0 3 5)=0 from h);exact⟨Cd (by decide) h1,Cd (by decide) h2,Cd (by decide) h3⟩
theorem Vi{a b c:Int}(h:y6 5 a b c=0):(0<=a/\a<=5)/\(0<=b/\b<=3) /\ -1<=c/\c<=5:=by
 obtain⟨h1,h2,h3⟩:=HS (show cT (Q1 a 0 5 6) (Q1 b 0 3 5) (Q1 c (-1) 5 6)=0 from h);exact⟨Cd (by decide) h1,Cd (by decide) h2,Cd (by decide) h3⟩
theorem RK{a b c:Int}(h:y6 6 a b c=0):(0<=a/\a<=5)/\(-1<=b/\b<=5) /\ -1<=c/\c<=5:=by
 obtain⟨h1,h2,h3⟩:=HS (show cT (Q1 a 0 5 7) (Q1 b (-1) 5 6) (Q1 c (-1) 5 13)=0 from h);exact⟨Cd (by decide) h1,Cd (by decide) h2,Cd (by decide) h3⟩
theorem Vj{a b c:Int}(h:y6 7 a b c=0):(0<=a/\a<=5)/\(0<=b/\b<=5):=by
 obtain⟨h1,h2,_⟩:=HS (show cT (Q1 a 0 5 6) (Q1 b 0 5 7) 0=0 from h);exact⟨Cd (by decide) h1,Cd (by decide) h2⟩
theorem Vk{a b c:Int}(h:y6 8 a b c=0):(0<=a/\a<=5)/\(-1<=b/\b<=5):=by
 obtain⟨h1,h2,_⟩:=HS (show cT (Q1 a 0 5 6) (Q1 b (-1) 5 6) 0=0 from h);exact⟨Cd (by decide) h1,Cd (by decide) h2⟩
theorem Vl{a b c:Int}(h:y6 9 a b c=0):(0<=a/\a<=5)/\(0<=b/\b<=5):=Nq (show y6 2 a b c=0 from h)
theorem Uk{a b c:Int}(h:y6 10 a b c=0):(0<=a/\a<=5)/\(0<=b/\b<=5):=Nq (show y6 2 a b c=0 from h)
section
variable{x:Hp}(hx:kH x)
include hx
theorem UC{r:Int}(h:0<=r/\r<=5):ix x.Roots r=some (sd x r):=by
 have:=hx.r6;obtain⟨n,rfl⟩:∃n:Nat,r=n:=⟨r.toNat,by omega⟩;have hn:n<x.Roots.length:=by omega
 rw[u4 hn];unfold sd;rw[za (by omega),zT,zd,zc hn];rfl
theorem ID{r:Int}(h:¬(0<=r/\r<=5)):sd x r=0:=by
 have:=hx.r6;unfold sd;split;·rfl
 .rw[zd,pu (by omega)];rfl
theorem eP(r:Int):sd x r=0\/sd x r∈lv x.S:=by
 by_cases h:0<=r/\r<=5
 .have e:=UC hx h;unfold ix at e;rw[zb h.1] at e;exact hx.rt _ (zj e)
 .exact .inl (ID hx h)
theorem ki(r:Int):sd x r<=9223372036854775807:=by
 rcases eP hx r with h | h
 .omega
 .have:=I7 hx.sr h;omega
theorem nP(r:Int):P1 x r=some (sd x r):=by
 have h6:=hx.r6;unfold P1;by_cases h:0<=r/\r<=5
 .rw[za (by simp;omega),UC hx h];rfl
 .rw[zb (by simp;omega),ID hx h]
theorem jz(r:Int):P5 x r=some (Bd x r):=by
 unfold P5 Bd;rw[nP hx,a0A];by_cases h:sd x r=0
 .rw[zb (by simpa using h),zb h]
 .rw[za (by simpa using h),za h]
theorem Xi{h:Int}(hh:h<=9223372036854775807):fq x h=some (bC x h):=by
 obtain⟨e,h1,_⟩:=iI (A3.2 hx.sr) hh;unfold fq;rw[h1];rfl
theorem Jo(r:Int):dX x r=some (bC x (sd x r)):=by
 unfold dX;rw[nP hx,a0A,Xi hx (ki hx r)];rfl
theorem GH:bC x 0=0:=by
 unfold bC;rw[wK (A3.2 hx.sr) (by omega) (fp hx.sr)]
end
theorem Xj{x z:Hp}(hx:kH x)(k:Ks x.S z.S){h:Int}(hh:h=0\/h∈lv x.S):bC z h=bC x h:=by
 rcases hh with e | e
 .subst e;unfold bC;rw[wK (A3.2 hx.sr) (by omega) (fp hx.sr),wK (A3.2 k.sr) (by omega) (fp k.sr)]
 .exact k.ob h e
theorem TA{x z:Hp}(h:z.Roots=x.Roots)(r:Int):sd z r=sd x r:=by unfold sd;rw[h]
noncomputable def Bo(x:Hp)(o:g9)(v:Hp × Int):Option (Hp × Int × Int):=
 if (v.2 != 0) then some (x,0,v.2) else (T4 v.1).bind λv5=>(ae v.1 v5 o).bind λv6=>some (v5,v6,0)
theorem rn{x:Hp}{o:g9}{n:Option Nat}(hc:y6 o.Kind o.A o.B o.C=0)(hk:∃l,gO=some l/\A0 l o.Kind=some n):u6 x o=(xN n ⟨x,o⟩).bind (Bo x o):=by
 obtain⟨l,h1,h2⟩:=hk;unfold u6;rw[oY,hc,a0A,za (by simp),h1,a0A,h2,za (by simp)];rfl
theorem Nz{x:Hp}{o:g9}(hc:y6 o.Kind o.A o.B o.C≠0):u6 x o=some (x,0,y6 o.Kind o.A o.B o.C)/\True:=by
 constructor
 .unfold u6;rw[oY,a0A,zb (by simpa using hc)]
 .trivial
section
variable{x:Hp}{a b c:Int}
theorem ZF(hc:y6 1 a b c=0):u6 x ⟨1,a,b,c⟩=(Z1 ⟨x,⟨1,a,b,c⟩⟩).bind (Bo x ⟨1,a,b,c⟩):=rn (o:=⟨1,a,b,c⟩) (n:=some 203) hc ⟨_,rfl,rfl⟩
theorem ZG(hc:y6 2 a b c=0):u6 x ⟨2,a,b,c⟩=(L9 ⟨x,⟨2,a,b,c⟩⟩).bind (Bo x ⟨2,a,b,c⟩):=rn (o:=⟨2,a,b,c⟩) (n:=some 204) hc ⟨_,rfl,rfl⟩
theorem ZH(hc:y6 3 a b c=0):u6 x ⟨3,a,b,c⟩=(bG ⟨x,⟨3,a,b,c⟩⟩).bind (Bo x ⟨3,a,b,c⟩):=rn (o:=⟨3,a,b,c⟩) (n:=some 205) hc ⟨_,rfl,rfl⟩
theorem ZI(hc:y6 4 a b c=0):u6 x ⟨4,a,b,c⟩=(bH ⟨x,⟨4,a,b,c⟩⟩).bind (Bo x ⟨4,a,b,c⟩):=rn (o:=⟨4,a,b,c⟩) (n:=some 206) hc ⟨_,rfl,rfl⟩
theorem ZJ(hc:y6 5 a b c=0):u6 x ⟨5,a,b,c⟩=(aL ⟨x,⟨5,a,b,c⟩⟩).bind (Bo x ⟨5,a,b,c⟩):=rn (o:=⟨5,a,b,c⟩) (n:=some 207) hc ⟨_,rfl,rfl⟩
theorem Vr(hc:y6 6 a b c=0):u6 x ⟨6,a,b,c⟩=(M4 ⟨x,⟨6,a,b,c⟩⟩).bind (Bo x ⟨6,a,b,c⟩):=rn (o:=⟨6,a,b,c⟩) (n:=some 208) hc ⟨_,rfl,rfl⟩
theorem ZK(hc:y6 7 a b c=0):u6 x ⟨7,a,b,c⟩=(aX ⟨x,⟨7,a,b,c⟩⟩).bind (Bo x ⟨7,a,b,c⟩):=rn (o:=⟨7,a,b,c⟩) (n:=some 209) hc ⟨_,rfl,rfl⟩
theorem ZL(hc:y6 8 a b c=0):u6 x ⟨8,a,b,c⟩=(bI ⟨x,⟨8,a,b,c⟩⟩).bind (Bo x ⟨8,a,b,c⟩):=rn (o:=⟨8,a,b,c⟩) (n:=some 210) hc ⟨_,rfl,rfl⟩
theorem ZM(hc:y6 9 a b c=0):u6 x ⟨9,a,b,c⟩=(cE ⟨x,⟨9,a,b,c⟩⟩).bind (Bo x ⟨9,a,b,c⟩):=rn (o:=⟨9,a,b,c⟩) (n:=some 211) hc ⟨_,rfl,rfl⟩
theorem XY(hc:y6 10 a b c=0):u6 x ⟨10,a,b,c⟩=(U3 ⟨x,⟨10,a,b,c⟩⟩).bind (Bo x ⟨10,a,b,c⟩):=rn (o:=⟨10,a,b,c⟩) (n:=some 212) hc ⟨_,rfl,rfl⟩
theorem Dc{k:Int}(hk:k=11\/k=12)(hc:y6 k a b c=0):u6 x ⟨k,a,b,c⟩=some (x,0,14)/\True:=by
 constructor
 .unfold u6;rw[oY,hc,a0A,za (by simp)];rcases hk with rfl | rfl <;> rfl
 .trivial
variable{y:mo}
end
section
variable{s:b6}(hR:SR s){i:Nat}(hi:i<s.S.b7.length)
include hR hi
end
theorem Yv{s:b6}(hR:SR s)(hb:s.Serial<9223372036854775807)(a p:Int) :
  (∃e,e≠0/\Y5 s a p=some (s,0,e)/\True) \/
  ((0<=a/\a<=4)/\(-1<=p/\p<=5)/\∃i,XO s i/\Y5 s a p=some (dI s i a.toNat p,cy s i,0)/\True):=by
 rcases OB hR hb a p with ⟨h1,e⟩ | ⟨h1,h2,e⟩ | ⟨h1,h2,h3,e⟩ | ⟨h1,h2,i,h3,e⟩;·exact .inl ⟨1,by decide,e,trivial⟩
 .exact .inl ⟨13,by decide,e,trivial⟩
 .exact .inl ⟨4,by decide,e,trivial⟩
 .exact .inr ⟨h1,h2,i,h3,e,trivial⟩
abbrev Zu(o:g9):B1:=⟨o.Kind,o.A,o.B,o.C⟩
structure Dn (x:Hp) (o:g9) (z:Hp) (v:Int):Prop where
 rt:K1 z
 sl:SL z
 ev:Ev x z
 cw:Cw x z (if o.Kind=6 then o.A else -1)
 mc:u6 x o=some (bN z,v,0)
 rf:True
def Er(x:Hp)(o:g9)(e:Int):Prop:=e≠0/\u6 x o=some (x,0,e)/\True
theorem Yy{x:Hp}(hx:K1 x)(hS:SL x){i:Nat}(hi:i<x.S.S.b7.length)(h0:(ce x.S i).State=0){n:Nat}(hn:n<=4){p:Int}(hp : -1<=p/\p<=5):SL (wS x (dI x.S i n p)):=λk hk=>by
 have hR:=hx.sh.sr;have hk':k∈lv (dI x.S i n p):=hk;show (ob (dI x.S i n p) k).Strong<=_;rw[Co hR hi h0 hn hp] at hk';rcases zu.1 hk' with q | q
 .rw[Cp hR hi h0 hn hp q];exact hS k q
 .rw[zn.1 q,vM hR hi h0 hn hp];show (0:Int)<=_;decide
theorem wg{y:Hp}(hy:K1 y){a:Int}(ha:0<=a/\a<=5){h:Int}(hh:h=0\/h∈lv y.S):sd (bN (G9 y a.toNat h)) a=h/\bC (bN (G9 y a.toNat h)) h=bC y h:=by
 have hz:=bZ hy (r:=a.toNat) (by omega) hh;have st:=mB hz;have w:=nR hz;have e1:(bN (G9 y a.toNat h)).Roots=y.Roots.set a.toNat h:=st.rt.trans (kf y a.toNat h).1;have h6:=hy.sh.r6;have e2:sd (bN (G9 y a.toNat h)) a=h:=by
  unfold sd;rw[za (by omega),e1,zd,List.getElem?_set_self (by omega)];rfl
 refine⟨e2,?_⟩;have k:=dx hy.sh.sr a.toNat h;rcases eP w.sh a with q | q
 .rw[e2] at q;subst q;rw[GH w.sh,GH hy.sh]
 .rw[e2] at q;have h1:=(st.ob h q).1;have h2:=st.lv h q;rw[k.lv] at h2;exact h1.trans (k.ob h h2)
section
variable{x:Hp}{a b c:Int}
theorem kN{o:g9}{y:Hp}{e:Int}(he:e≠0):Bo x o (y,e)=some (x,0,e):=by
 unfold Bo;rw[zb (by simpa using he)]
theorem Un{z:Hp}(hz:K1 z)(hS:SL z){k:Int}(hk:k≠5/\k≠6/\k≠8/\k≠10):Bo x ⟨k,a,b,c⟩ (z,0)=some (bN z,bC (bN z) (sd (bN z) a),0):=by
 unfold Bo ae;rw[za (by simp),jC hz hS,a0A];simp only[jn];rw[za (by simp;omega),za (by simp;omega)];have:(k==8)=false:=by simp;omega
 rw[this,za (by simp),za (by simp;omega),Jo (nR hz).sh];rfl
theorem II{o:g9}{v e:Int}(he:e≠0):C6 ⟨x,o⟩ v e=some (x,e):=by
 unfold C6;rw[zb (by simpa using he)]
variable(hx:K1 x)(hS:SL x)
include hx hS
theorem qJ{k:Int}(ha:0<=a/\a<=5){h:Int}(hh:h=0\/h∈lv x.S):C6 ⟨x,⟨k,a,b,c⟩⟩ h 0=some (G9 x a.toNat h,0):=by
 unfold C6;rw[za (by simp),KE hx hS a (ug hx hS hh),za (by omega),zb hh];rfl
theorem mF{k:Int}(hk:k=2\/k=3\/k=4\/k=7\/k=9)(hc:y6 k a b c=0)(ha:0<=a/\a<=5){h:Int}(hh:h=0\/h∈lv x.S)
  (h1:u6 x ⟨k,a,b,c⟩=Bo x ⟨k,a,b,c⟩ (G9 x a.toNat h,0))(h2:True):Dn x ⟨k,a,b,c⟩ (G9 x a.toNat h) (bC x h):=by
 have hz:=bZ hx (r:=a.toNat) (by omega) hh;have zS:=pP hx.sh.sr hS a.toNat h;obtain⟨e1,e2⟩:=wg hx ha hh;refine⟨hz,zS,(dx hx.sh.sr a.toNat h).ev,Cw.same (kf x a.toNat h).2.1 _,?_,?_⟩;·rw[h1,Un hz zS (by omega),e1,e2]
 .trivial
theorem d2(hc:y6 2 a b c=0):Dn x ⟨2,a,b,c⟩ (G9 x a.toNat (sd x b)) (bC x (sd x b)):=by
 obtain⟨ha,hb⟩:=Nq hc;refine mF hx hS (.inl rfl) hc ha (eP hx.sh b) ?_ ?_
 .rw[ZG hc];unfold L9;rw[nP hx.sh,a0A,qJ hx hS ha (eP hx.sh b)];rfl
 .trivial
theorem d3(hc:y6 3 a b c=0):Dn x ⟨3,a,b,c⟩ (G9 x a.toNat 0) 0:=by
 have ha:=XT hc;have:=mF (b:=b) (c:=c) hx hS (.inr (.inl rfl)) hc ha (h:=0) (.inl rfl) ?_ ?_;·rwa [GH hx.sh] at this
 .rw[ZH hc];unfold bG;rw[qJ hx hS ha (.inl rfl)];rfl
 .trivial
theorem d4(hc:y6 4 a b c=0):(sd x b=0/\Er x ⟨4,a,b,c⟩ 2)\/(∃e,K7 x.S (sd x b) c=some (0,e)/\Er x ⟨4,a,b,c⟩ e) \/
  (sd x b∈lv x.S/\∃n:Nat,c=n/\∃hn:n<(ob x.S (sd x b)).Fields.length,Dn x ⟨4,a,b,c⟩ (G9 x a.toNat (ob x.S (sd x b)).Fields[n]) (bC x (ob x.S (sd x b)).Fields[n])):=by
 obtain⟨ha,hb,_⟩:=Vh hc;have hm:u6 x ⟨4,a,b,c⟩=_:=ZI hc;unfold bH at hm;rw[jz hx.sh,a0A] at hm;by_cases h0:sd x b=0
 .refine .inl ⟨h0,by decide,?_,?_⟩
  .rw[hm];unfold Bd;rw[zb h0,zb (by simp),a0A,kN (by decide)]
  .trivial
 .have has:Bd x b=(sd x b,0):=by unfold Bd;rw[za h0]
  rw[has,za (by simp)] at hm;right;rcases wF hx hS (sd x b) c (ki hx.sh b) with ⟨e,he,f1,f2⟩ | ⟨hl,n,hn0,hn,f1,f2⟩
  .refine .inl ⟨e,f1,he,?_,?_⟩
   .rw[hm];dsimp only;rw[f1,a0A,II he,a0A,a0A,kN he]
   .trivial
  .refine .inr ⟨hl,n,hn0,hn,?_⟩;have hv:=hx.sh.fl _ hl _ (zh hn);refine mF hx hS (by omega) hc ha hv ?_ ?_
   .rw[hm];dsimp only;rw[f1,a0A,qJ hx hS ha hv];rfl
   .trivial
theorem So{n:Nat}(hn:n<6):∃h:n<x.b7.length,cS x.b7 n=some (if x.b7[n].Target=0\/x.b7[n].Intact=false then (0,9) else (x.b7[n].Target,0))/\True:=by
 have c6:=hx.sh.c6;have hl:n<x.b7.length:=by omega
 refine⟨hl,?_,?_⟩
 .unfold cS ko;have:(decide ((n:Int)>=0)&&decide ((n:Int)<(x.b7.length:Int)))=true:=by simp;omega
  rw[this,a0A,za (by simp),u4 hl,a0A];by_cases q:x.b7[n].Target=0\/x.b7[n].Intact=false
  .rw[zb q,zb (by rcases q with q | q <;> simp[q])]
  .rw[za q,za (by simpa using q)]
 .trivial
theorem d7(hc:y6 7 a b c=0):∃h:b.toNat<x.b7.length,((x.b7[b.toNat].Intact=false/\Er x ⟨7,a,b,c⟩ 9) \/
  (x.b7[b.toNat].Intact=true/\Dn x ⟨7,a,b,c⟩ (G9 x a.toNat x.b7[b.toNat].Target) (bC x x.b7[b.toNat].Target))):=by
 obtain⟨ha,hb⟩:=Vj hc;obtain⟨n,rfl⟩:∃n:Nat,b=n:=⟨b.toNat,by omega⟩;obtain⟨hl,l1,l2⟩:=So hx hS (n:=n) (by omega);rw[zT];refine⟨hl,?_⟩;have hm:u6 x ⟨7,a,n,c⟩=_:=ZK hc;unfold aX at hm;rw[show cS (r8.mk x ⟨7,a,n,c⟩).x.b7 (r8.mk x ⟨7,a,n,c⟩).o.B=_ from l1,a0A] at hm;have cl:=hx.sh.cl n hl;cases hI:x.b7[n].Intact
 .left;rw[zb (.inr hI)] at hm;refine⟨rfl,by decide,?_,?_⟩
  .rw[hm];dsimp only;rw[II (by decide),a0A,a0A];exact kN (e:=9) (by decide)
  .trivial
 .right;have ht:=(cl.2.2.2.2 hI).1;have ht0:x.b7[n].Target≠0:=λe=>fp hx.sh.sr (e▸ht);rw[za (by simp[ht0,hI])] at hm;refine⟨rfl,mF hx hS (by omega) hc ha (.inr ht) ?_ trivial⟩;rw[hm];dsimp only;rw[qJ hx hS ha (.inr ht)];rfl
theorem d9(hc:y6 9 a b c=0):(sd x b=0/\Er x ⟨9,a,b,c⟩ 2)\/(sd x b∈lv x.S/\(∀v,¬Has x.T (sd x b) v)/\Er x ⟨9,a,b,c⟩ 9) \/
  (sd x b∈lv x.S/\∃v,Has x.T (sd x b) v/\Dn x ⟨9,a,b,c⟩ (G9 x a.toNat v) (bC x v)):=by
 obtain⟨ha,hb⟩:=Vl hc;have hT:=hx.sh.hr;have hm:u6 x ⟨9,a,b,c⟩=_:=ZM hc;unfold cE at hm;rw[jz hx.sh,a0A] at hm;by_cases h0:sd x b=0
 .refine .inl ⟨h0,by decide,?_,?_⟩
  .rw[hm];unfold Bd;rw[zb h0,zb (by simp),a0A,kN (by decide)]
  .trivial
 .have has:Bd x b=(sd x b,0):=by unfold Bd;rw[za h0]
  have hl:=(eP hx.sh b).resolve_left h0;rw[has,za (by simp)] at hm;dsimp only at hm;unfold vt at hm;right;by_cases hv:∃v,Has x.T (sd x b) v
  .obtain⟨v,hv⟩:=hv;rw[JH hT hv] at hm;refine .inr ⟨hl,v,hv,mF hx hS (by omega) hc ha (.inr (hx.sh.pr _ _ hv).2) ?_ trivial⟩;rw[hm,a0A,a0A];dsimp only;rw[qJ hx hS ha (.inr (hx.sh.pr _ _ hv).2)];rfl
  .have hv':∀v,¬Has x.T (sd x b) v:=λv q=>hv ⟨v,q⟩;rw[LJ hT hv'] at hm;refine .inl ⟨hl,hv',by decide,?_,?_⟩
   .rw[hm,a0A,a0A];dsimp only;rw[II (by decide),a0A,a0A];exact kN (e:=9) (by decide)
   .trivial
end
section
variable{x:Hp}{a b c:Int}
theorem Ul{z:Hp}(hz:K1 z)(hS:SL z){k:Int}{r:Int}(hk:k=5/\r=c\/(k=6\/k=8)/\r=b):Bo x ⟨k,a,b,c⟩ (z,0)=some (bN z,bC z (sd z r),0):=by
 unfold Bo ae;rw[za (by simp),jC hz hS,a0A];simp only[jn];rcases hk with ⟨rfl,rfl⟩ | ⟨rfl | rfl,rfl⟩
 .rw[zb (by rfl),Jo hz.sh];rfl
 .rw[za (by decide),zb (by rfl),zb (by rfl),Jo hz.sh];rfl
 .rw[za (by decide),za (by decide),zb (by rfl),Jo hz.sh];rfl
variable(hx:K1 x)(hS:SL x)
include hx hS
theorem sy{z:Hp}(hz:K1 z)(zS:SL z)(k:Ks x.S z.S)(er:z.Roots=x.Roots){kd r:Int}(hk:kd=5/\r=c\/(kd=6\/kd=8)/\r=b)(hc:y6 kd a b c=0)(cw:Cw x z (if kd=6 then a else -1))
  (h1:u6 x ⟨kd,a,b,c⟩=Bo x ⟨kd,a,b,c⟩ (z,0))(h2:True):Dn x ⟨kd,a,b,c⟩ z (bC x (sd x r)):=by
 refine⟨hz,zS,k.ev,cw,?_,?_⟩;·rw[h1,Ul hz zS hk,TA er,Xj hx.sh k (eP hx.sh r)]
 .trivial
theorem d5(hc:y6 5 a b c=0):(sd x a=0/\Er x ⟨5,a,b,c⟩ 2)\/(∃e,aI x (sd x a) b (sd x c)=some (x,e)/\Er x ⟨5,a,b,c⟩ e) \/
  (sd x a∈lv x.S/\∃n:Nat,b=n/\n<(ob x.S (sd x a)).Fields.length/\Dn x ⟨5,a,b,c⟩ (bS x (sd x a) n (sd x c)) (bC x (sd x c))):=by
 obtain⟨ha,hb,hcc⟩:=Vi hc;have hm:u6 x ⟨5,a,b,c⟩=_:=ZJ hc;unfold aL at hm;rw[jz hx.sh,a0A] at hm;by_cases h0:sd x a=0
 .have has:Bd x a=(0,2):=by unfold Bd;rw[zb h0]
  rw[has,zb (by simp)] at hm;refine .inl ⟨h0,by decide,?_,?_⟩
  .rw[hm,a0A];exact kN (e:=2) (by decide)
  .trivial
 .have has:Bd x a=(sd x a,0):=by unfold Bd;rw[za h0]
  rw[has,za (by simp)] at hm;dsimp only at hm;rw[nP hx.sh,a0A] at hm;right;rcases yx hx hS (sd x a) b (sd x c) (ki hx.sh a) (ki hx.sh c) with ⟨e,he,f1,f2⟩ | ⟨hl,hv,n,hn0,hn,f1,f2⟩
  .refine .inl ⟨e,f1,he,?_,?_⟩;·rw[hm,f1,a0A,a0A,kN he]
   .trivial
  .refine .inr ⟨hl,n,hn0,hn,sy hx hS (Dh hx hl hn hv) (LA hx.sh.sr hS hl _ _) (BV hx.sh.sr hl hn _) (ph _ _ _ _).1 (.inl ⟨rfl,rfl⟩) hc (Cw.same (ph _ _ _ _).2.1 _) ?_ ?_⟩
   .rw[hm,f1];rfl
   .trivial
theorem d6(hc:y6 6 a b c=0):(sd x b=0/\Er x ⟨6,a,b,c⟩ 2)\/(∃e,T7 x a (sd x b) c=some (x,e)/\Er x ⟨6,a,b,c⟩ e) \/
  (xe x.Q a=false/\Dn x ⟨6,a,b,c⟩ (cW x a.toNat (sd x b) c) (bC x (sd x b))):=by
 obtain⟨ha,hb,hcc⟩:=RK hc;have hm:u6 x ⟨6,a,b,c⟩=_:=Vr hc;unfold M4 at hm;have key:(u6 x ⟨6,a,b,c⟩=(((T7 x a (sd x b) c).bind λv1=>some (v1.1,v1.2)).bind (Bo x ⟨6,a,b,c⟩))/\True)\/(sd x b=0/\Er x ⟨6,a,b,c⟩ 2):=by
  by_cases h1:b = -1
  .subst h1;left;rw[ID hx.sh (r:=-1) (by omega)];refine⟨?_,trivial⟩;rw[hm,zb (by rfl)]
  .rw[za (by simpa using h1),jz hx.sh,a0A] at hm;by_cases h0:sd x b=0
   .have has:Bd x b=(0,2):=by unfold Bd;rw[zb h0]
    rw[has,zb (by simp)] at hm;refine .inr ⟨h0,by decide,?_,?_⟩
    .rw[hm,a0A];exact kN (e:=2) (by decide)
    .trivial
   .have has:Bd x b=(sd x b,0):=by unfold Bd;rw[za h0]
    rw[has,za (by simp)] at hm;exact .inl ⟨hm,trivial⟩
 rcases key with ⟨hm,hnm⟩ | key
 .right;rcases EB hx a (sd x b) c (ki hx.sh b) hcc with ⟨e,he,f1,f2⟩ | ⟨hh,n,rfl,hn,hw,f1,f2⟩
  .refine .inl ⟨e,f1,he,?_,?_⟩;·rw[hm,f1,a0A,a0A,kN he]
   .trivial
  .rw[zT];obtain⟨r1,r2,_,_⟩:=AU x n (sd x b) c;refine .inr ⟨hw,sy hx hS (wZ hx hn hh hcc hw) (GV hx hS hn _ _) (GU hx hn _ _) r1 (.inr ⟨.inl rfl,rfl⟩) hc (by rw[zb rfl];exact Cw.set r2) ?_ ?_⟩
   .rw[hm,f1];rfl
   .trivial
 .exact .inl key
theorem d8(hc:y6 8 a b c=0):(sd x a=0/\Er x ⟨8,a,b,c⟩ 2)\/(sd x a∈lv x.S/\∃e,cC x (sd x a) (sd x b)=some (x,e)/\Er x ⟨8,a,b,c⟩ e) \/
  (sd x a∈lv x.S/\∃r,V5 x.T (sd x a) (sd x b)=some r/\r.2.2=0/\Dn x ⟨8,a,b,c⟩ (ja x (sd x b) r.1 r.2.1) (bC x (sd x b))):=by
 obtain⟨ha,hb⟩:=Vk hc;have hm:u6 x ⟨8,a,b,c⟩=_:=ZL hc;unfold bI at hm;rw[jz hx.sh,a0A] at hm;by_cases h0:sd x a=0
 .have has:Bd x a=(0,2):=by unfold Bd;rw[zb h0]
  rw[has,zb (by simp)] at hm;refine .inl ⟨h0,by decide,?_,?_⟩
  .rw[hm,a0A];exact kN (e:=2) (by decide)
  .trivial
 .have has:Bd x a=(sd x a,0):=by unfold Bd;rw[za h0]
  have hl:=(eP hx.sh a).resolve_left h0;rw[has,za (by simp)] at hm;dsimp only at hm;rw[nP hx.sh,a0A] at hm;right;rcases Td hx hS (sd x a) (sd x b) (ki hx.sh a) (ki hx.sh b) with ⟨e,he,f1,f2⟩ | ⟨hl,hv,r,r1,r2,f1,f2⟩
  .refine .inl ⟨hl,e,f1,he,?_,?_⟩;·rw[hm,f1,a0A,a0A,kN he]
   .trivial
  .refine .inr ⟨hl,r,r1,r2,sy hx hS (Gj hx hl hv r1 r2) (Po hx.sh.sr hS _ _ _) (Gi hx.sh.sr _ _ _) (sz _ _ _ _).1 (.inr ⟨.inr rfl,rfl⟩) hc (Cw.same (sz _ _ _ _).2.1 _) ?_ ?_⟩
   .rw[hm,f1];rfl
   .trivial
theorem d10(hz:zr x = [])(hc:y6 10 a b c=0):Dn x ⟨10,a,b,c⟩ x (if sd x a=sd x b then 1 else 0):=by
 obtain⟨ha,hb⟩:=Uk hc;refine⟨hx,hS,Ev.refl x,Cw.refl x _,?_,?_⟩
 .rw[XY hc];unfold U3 Bo ae;rw[a0A,za (by simp),jC hx hS,a0A];simp only[jn];rw[za (by decide),za (by decide),za (by decide),zb (by rfl),nP hx.sh,a0A,nP hx.sh,a0A];by_cases q:sd x a=sd x b
  .rw[zb (by simpa using q),zb q];rfl
  .rw[za (by simpa using q),za q];rfl
 .trivial
theorem d1(hb:x.S.Serial<9223372036854775807)(hc:y6 1 a b c=0):(∃e,Y5 x.S b c=some (x.S,0,e)/\Er x ⟨1,a,b,c⟩ e) \/
  (b.toNat<=4/\(-1<=c/\c<=5)/\∃i,XO x.S i/\Dn x ⟨1,a,b,c⟩ (G9 (wS x (dI x.S i b.toNat c)) a.toNat (cy x.S i)) (x.S.Serial+1)):=by
 obtain⟨ha,hbb,hcc⟩:=Vg hc;have hR:=hx.sh.sr;have hm:u6 x ⟨1,a,b,c⟩=_:=ZF hc;unfold Z1 at hm;dsimp only at hm;rcases Yv hR hb b c with ⟨e,he,f1,f2⟩ | ⟨_,_,i,hF,f1,f2⟩
 .refine .inl ⟨e,f1,he,?_,?_⟩;·rw[hm,f1,a0A,zb (by simpa using he),a0A,kN he]
  .trivial
 .refine .inr ⟨by omega,hcc,i,hF,?_⟩;obtain⟨hi,h0,_⟩:=hF;have hn:b.toNat<=4:=by omega
  have hy:=Ad hx hi h0 hn hcc;have yS:=Yy hx hS hi h0 hn hcc;have hh:cy x.S i=0\/cy x.S i∈lv (wS x (dI x.S i b.toNat c)).S:=.inr (by
   show _∈lv (dI x.S i b.toNat c);rw[Co hR hi h0 hn hcc];exact t7 _ (zn.2 rfl))
  have hz:=bZ hy (r:=a.toNat) (by omega) hh;have zS:=pP hy.sh.sr yS a.toNat (cy x.S i);obtain⟨e1,e2⟩:=wg hy ha hh;have e3:bC (wS x (dI x.S i b.toNat c)) (cy x.S i)=x.S.Serial+1:=by
   show (ob (dI x.S i b.toNat c) (cy x.S i)).Serial=_;rw[vM hR hi h0 hn hcc]
  refine⟨hz,zS,(Yx hx hi h0 hn hcc).ks (dx hy.sh.sr a.toNat _),Cw.same (kf (wS x (dI x.S i b.toNat c)) a.toNat _).2.1 _,?_,?_⟩
  .rw[hm,f1,a0A,za (by simp)];dsimp only;rw[show C6 ⟨⟨dI x.S i b.toNat c,x.Roots,x.b7,x.T,x.Q⟩,⟨1,a,b,c⟩⟩ (cy x.S i) 0=_ from qJ hy yS ha hh,a0A,a0A,Un hz zS (by omega),e1,e2,e3]
  .trivial
end
theorem Vs{x:Hp}(hx:K1 x)(hS:SL x)(hz:zr x = [])(hb:x.S.Serial<9223372036854775807)(o:g9):(∃e,Er x o e)\/∃z v,Dn x o z v:=by
 obtain⟨k,a,b,c⟩:=o;by_cases hc:y6 k a b c=0
 .have:=ud hc;have hk:k=1\/k=2\/k=3\/k=4\/k=5\/k=6\/k=7\/k=8\/k=9\/k=10\/k=11\/k=12:=by omega
  rcases hk with rfl | rfl | rfl | rfl | rfl | rfl | rfl | rfl | rfl | rfl | rfl | rfl
  .rcases d1 hx hS hb hc with ⟨e,_,h⟩ | ⟨_,_,i,_,h⟩;·exact .inl ⟨e,h⟩
   .exact .inr ⟨_,_,h⟩
  .exact .inr ⟨_,_,d2 hx hS hc⟩
  .exact .inr ⟨_,_,d3 hx hS hc⟩
  .rcases d4 hx hS hc with ⟨_,h⟩ | ⟨e,_,h⟩ | ⟨_,n,_,_,h⟩;·exact .inl ⟨_,h⟩
   .exact .inl ⟨_,h⟩
   .exact .inr ⟨_,_,h⟩
  .rcases d5 hx hS hc with ⟨_,h⟩ | ⟨e,_,h⟩ | ⟨_,n,_,_,h⟩;·exact .inl ⟨_,h⟩
   .exact .inl ⟨_,h⟩
   .exact .inr ⟨_,_,h⟩
  .rcases d6 hx hS hc with ⟨_,h⟩ | ⟨e,_,h⟩ | ⟨_,h⟩;·exact .inl ⟨_,h⟩
   .exact .inl ⟨_,h⟩
   .exact .inr ⟨_,_,h⟩
  .obtain⟨_,⟨_,h⟩ | ⟨_,h⟩⟩:=d7 hx hS hc;·exact .inl ⟨_,h⟩
   .exact .inr ⟨_,_,h⟩
  .rcases d8 hx hS hc with ⟨_,h⟩ | ⟨_,e,_,h⟩ | ⟨_,r,_,_,h⟩;·exact .inl ⟨_,h⟩
   .exact .inl ⟨_,h⟩
   .exact .inr ⟨_,_,h⟩
  .rcases d9 hx hS hc with ⟨_,h⟩ | ⟨_,_,h⟩ | ⟨_,v,_,h⟩;·exact .inl ⟨_,h⟩
   .exact .inl ⟨_,h⟩
   .exact .inr ⟨_,_,h⟩
  .exact .inr ⟨_,_,d10 hx hS hz hc⟩
  .obtain⟨h1,h2⟩:=Dc (x:=x) (a:=a) (b:=b) (c:=c) (.inl rfl) hc;exact .inl ⟨14,by decide,h1,h2⟩
  .obtain⟨h1,h2⟩:=Dc (x:=x) (a:=a) (b:=b) (c:=c) (.inr rfl) hc;exact .inl ⟨14,by decide,h1,h2⟩
 .obtain⟨h1,h2⟩:=Nz (x:=x) (o:=⟨k,a,b,c⟩) hc;exact .inl ⟨_,hc,h1,h2⟩
noncomputable def jv(x:Hp)(o:g9):Hp × Int × Int:=(u6 x o).getD (x,0,0)
structure XC (x:Hp) (o:g9) (y:Hp) (v e:Int):Prop where
 rt:K1 y
 sl:SL y
 zr:zr y = []
 ev:Ev x y
 cw:Cw x y (if o.Kind=6 then o.A else -1)
 er:e≠0->y=x/\v=0
 mc:u6 x o=some (y,v,e)
 rf:True
theorem Dn.nxt{x z:Hp}{o:g9}{v:Int}(d:Dn x o z v):XC x o (bN z) v 0:=by
 have st:=mB d.rt;exact⟨nR d.rt,KJ d.rt d.sl,Cz d.rt,d.ev.stl st,d.cw.trans (st.cw _),λh=>absurd rfl h,d.mc,d.rf⟩
theorem SI{x:Hp}(hx:K1 x)(hS:SL x)(hz:zr x = [])(hb:x.S.Serial<9223372036854775807)(o:g9):∃y v e,XC x o y v e:=by
 rcases Vs hx hS hz hb o with ⟨e,h1,h2,h3⟩ | ⟨z,v,d⟩;·exact⟨x,0,e,hx,hS,hz,Ev.refl x,Cw.refl x _,λ_=>⟨rfl,rfl⟩,h2,h3⟩
 .exact⟨_,_,_,d.nxt⟩
theorem uA{x:Hp}(hx:K1 x)(hS:SL x)(hz:zr x = [])(hb:x.S.Serial<9223372036854775807)(o:g9):XC x o (jv x o).1 (jv x o).2.1 (jv x o).2.2:=by
 obtain⟨y,v,e,h⟩:=SI hx hS hz hb o;have:jv x o=(y,v,e):=by unfold jv;rw[h.mc];rfl
 rw[this];exact h
noncomputable def runs(x:Hp)(l:List g9):Hp × List Int:=l.foldl (λp o=>((jv p.1 o).1,p.2 ++ [(jv p.1 o).2.1])) (x,[])
theorem qF(x:Hp)(l:List g9)(o:g9):runs x (l ++ [o])=((jv (runs x l).1 o).1,(runs x l).2 ++ [(jv (runs x l).1 o).2.1]):=by
 unfold runs;rw[zaj];rfl
theorem AA{x:Hp}(hx:K1 x)(hS:SL x)(hz:zr x = [])(l:List g9)(hb:x.S.Serial+l.length<9223372036854775807)(P:Hp->Prop)(h0:P x)
  (hs:∀(y:Hp) (o:g9),o∈l->K1 y->XC y o (jv y o).1 (jv y o).2.1 (jv y o).2.2->P y->P (jv y o).1):∀k,k<=l.length ->
  K1 (runs x (l.take k)).1/\SL (runs x (l.take k)).1/\zr (runs x (l.take k)).1 = []/\(runs x (l.take k)).1.S.Serial<=x.S.Serial+k/\(runs x (l.take k)).2.length=k/\P (runs x (l.take k)).1
 | 0,_=>⟨hx,hS,hz,by show x.S.Serial<=_;omega,rfl,h0⟩
 | k+1,hk=>by
  obtain⟨a1,a2,a3,a4,a5,a6⟩:=AA hx hS hz l hb P h0 hs k (by omega);have hk':k<l.length:=by omega
  have n:=uA a1 a2 a3 (by omega) l[k];rw[O4 hk',qF];exact⟨n.rt,n.sl,n.zr,by have:=n.ev.s2;show (jv _ _).1.S.Serial<=_;omega,by simp[a5],hs _ _ (zh hk') a1 n a6⟩
theorem run_eq{x:Hp}(hx:K1 x)(hS:SL x)(hz:zr x = [])(l:List g9)(hl:l.length<=1000)(hb:x.S.Serial+l.length<9223372036854775807) :
  ij x l=some (runs x l)/\True:=by
 have all:=AA hx hS hz l hb (λ_=>True) trivial (λ_ _ _ _ _ _=>trivial);constructor
 .unfold ij;simp only[jn];refine Z0 (T:=Hp × List Int) l.length (λk acc=>acc=runs x (l.take k)) (by omega) rfl (λk acc hk hP=>?_) (λacc hP=>?_)
  .subst hP;obtain⟨a1,a2,a3,a4,a5,_⟩:=all k (by omega);have n:=uA a1 a2 a3 (by omega) l[k];refine .inl ⟨_,?_,rfl⟩;rw[O4 hk,qF];show (if _ then _ else _)=_;rw[zb (by simpa using hk),u4 hk,a0A,n.mc,a0A,I6 (by omega) (by rw[a5];simp;omega),a0A,n9]
  .subst hP;refine⟨runs x (l.take l.length),?_,?_⟩
   .show (if _ then _ else _)=_;rw[za (by simp)]
   .rw[zR]
 .trivial
section
variable{x:Hp}(hB:HB x)
include hB
end
def rE(k:Nat)(l:Int)(p:Nat):Hp:=⟨⟨⟨List.replicate k ⟨0,0,z0⟩,l⟩,0⟩,List.replicate 6 0,List.replicate 6 ⟨0,false,-1⟩,List.replicate p ⟨0,0,0⟩,⟨[],30⟩⟩
theorem Oc{k p:Nat}{l:Int}(hk:1<=k/\k<=24)(hl:0<=l/\l<=9)(hp:1<=p/\p<=8) :
  lR k l p=some (rE k l p)/\uH k l p=some (hO (rE k l p))/\K1 (rE k l p)/\SL (rE k l p)/\zr (rE k l p) = []:=by
 have e1:jE k l=some (rE k l p).S:=by
  unfold jE aQ;rw[za (by simp;omega),kW (by omega) (by omega)];rfl
 obtain⟨a,h1,h2,h3,_⟩:=YE k l;rw[e1] at h1;have ha:=zK h1;subst ha;have hR:SR (rE k l p).S:=A3.1 h3;have hce:∀i,ce (rE k l p).S i=⟨0,0,z0⟩:=λi=>by
  unfold ce rE;dsimp only;rw[zd,List.getElem?_replicate];split <;> rfl
 have hlv:lv (rE k l p).S = []:=za3.2 λh hh=>by
  obtain⟨i,q⟩:=(ig hR).1 hh;have:=q.2.1;rw[hce] at this;cases this
 refine⟨?_,?_,⟨⟨hR,(Xt (V:=Int) (λ_ _=>True) hp.1 hp.2).1,rfl,rfl,rfl,zX _,(λt ht=>nomatch ht),List.Pairwise.nil,(λh hh=>.inl (za8.1 hh).2),λh hh=>?_,λa v hv=>?_,λi hi=>?_⟩,λi hi ht=>?_,λh hh=>?_⟩,λh hh=>?_,?_⟩
 .unfold lR;rw[za (by simp;omega),e1,a0A,show mk 8 6 (0:Int)=some (List.replicate 6 0) from rfl,a0A];refine sQ (a:=List.replicate 6 ⟨0,false,-1⟩) (by kernel_rfl) ?_;rw[Wj hp.1 hp.2,a0A];refine sQ (a:=⟨[],30⟩) (by kernel_rfl) ?_;rfl
 .unfold uH;rw[za (by simp;omega),h2,a0A,show mk 8 6 (0:Int)=some (List.replicate 6 0) from rfl,a0A];refine sQ (a:=List.replicate 6 ⟨0,false,-1⟩) (by kernel_rfl) ?_;unfold Kw;rw[za (by simp;omega),kW (by omega) (by omega),a0A,a0A];refine sQ (a:=⟨[],30⟩) (by kernel_rfl) ?_;unfold hO rE;dsimp only;rw[zcg,zcg];rfl
 .rw[hlv] at hh;cases hh
 .obtain⟨i,hi,_⟩:=hv;have:=hi.2.1;rw[show (rE k l p).T=List.replicate p ⟨0,0,0⟩ from rfl,wa] at this;cases this
 .have:(rE k l p).b7[i]=⟨0,false,-1⟩:=List.getElem_replicate ..;rw[this];exact⟨by decide,by decide,λ_=>rfl,λh=>absurd rfl h,λh=>by cases h⟩
 .rw[hce] at ht;rcases ht with h | h <;> cases h
 .rw[hlv] at hh;cases hh
 .rw[hlv] at hh;cases hh
 .unfold zr;rw[hlv];rfl
section
variable{x:Hp}(hB:HB x)
include hB
end
def Gx(o:g9):B1:=⟨o.Kind,o.A,o.B,o.C⟩
abbrev CV(o:g9):Int:=y6 o.Kind o.A o.B o.C
theorem Jz(k a b c:Int):V7 [k,a,b,c]=some (if y6 k a b c≠0 then (⟨0,0,0,0⟩,y6 k a b c) else (⟨k,a,b,c⟩,0)):=by
 unfold V7;rw[za (by simp)];show (X7 ⟨k,a,b,c⟩).bind _=_;rw[oY,a0A];by_cases h:y6 k a b c=0
 .rw[za (by simpa using h),za (by simpa using h)]
 .rw[zb (by simpa using h),zb h]
theorem Nx(k a b c:Int):jY [k,a,b,c]=some (if y6 k a b c≠0 then (⟨0,0,0,0⟩,y6 k a b c) else (⟨k,a,b,c⟩,0)):=by
 unfold jY;rw[za (by simp)];show (gz ⟨k,a,b,c⟩).bind _=_;rw[Jw,a0A];by_cases h:y6 k a b c=0
 .rw[za (by simpa using h),za (by simpa using h)]
 .rw[zb (by simpa using h),zb h]
theorem four(l:List Int):(∃k a b c,l = [k,a,b,c])\/l.length≠4:=by
 match l with
 | []=>exact .inr (by simp)
 | [_]=>exact .inr (by simp)
 | [_,_]=>exact .inr (by simp)
 | [_,_,_]=>exact .inr (by simp)
 | [k,a,b,c]=>exact .inl ⟨k,a,b,c,rfl⟩
 | _::_::_::_::_::l=>exact .inr (by simp)
theorem Db{l:List Int}(h:l.length≠4):V7 l=some (⟨0,0,0,0⟩,14)/\jY l=some (⟨0,0,0,0⟩,14):=by
 unfold V7 jY;have:(((l.length:Int) != 4))=true:=by simp;omega
 rw[zb this,zb this];exact⟨rfl,rfl⟩
def bQ(l:List Int):g9 × Int:=(V7 l).getD (⟨0,0,0,0⟩,0)
theorem Fo(l:List Int):V7 l=some (bQ l)/\jY l=some (Gx (bQ l).1,(bQ l).2):=by
 unfold bQ;rcases four l with ⟨k,a,b,c,rfl⟩ | h
 .rw[Jz,Nx];refine⟨rfl,?_⟩;rw[ul];by_cases h:y6 k a b c≠0
  .rw[zb h,zb h];rfl
  .rw[za h,za h];rfl
 .rw[(Db h).1,(Db h).2];exact⟨rfl,rfl⟩
def pJ(o:g9):Bool:=((decide (o.Kind>=1))&&(decide (o.Kind<=10)))&&(CV o==0)
def uD(p:List g9):Bool:=decide (p.length<=6)&&p.all pJ
def fJ(l:List (List g9)):Bool:=decide (l.length<=6)&&l.all uD
section
variable{l:List (List g9)}(hl:l.length<=12)(hp:∀p∈l,p.length<=12)
include hl hp
theorem Gm:gm l=some (fJ l):=by
 unfold gm fJ;by_cases h6:l.length > 6
 .rw[zb (by simp;omega),zZ (by omega)];rfl
 .rw[za (by simp;omega),zE (by omega),zbb];simp only[jn];have key:=Dz (f:=λ(s23:Int)=>
   if (decide (s23<(l.length:Int))) then
     (ix l s23).bind λv34=>
     if (decide ((v34.length:Int) > 6)) then
      some (.inr (.inl false))
     else
     (lp (S:=Int) (E:=Bool ⊕ Unit) (λ(s36:Int)=>
      if (decide (s36<(v34.length:Int))) then
       (ix v34 s36).bind λv38=>
       (gk v38).bind λv39=>
       (A6 ((!v39)==false) 0 (X7 v38)).bind λv40=>
       if ((!v39)||(v40 != 0)) then
        some (.inr (.inl false))
       else
       some (.inl (x4 (s36+1)))
      else
      some (.inr (.inr ()))) 0).bind λe35=>
     match e35 with
     | .inl w=>some (.inr (.inl w))
     | .inr w=>some (Sum.inl (x4 (s23+1)))
   else
   some (.inr (.inr ()))) l uD (.inr ()) (Sum.inl (β:=Unit) false) (by omega) (λk hk=>?_) (by simp)
  .refine sQ key ?_;cases l.all uD <;> rfl
  .rw[zb (by simpa using hk),u4 hk,a0A];unfold uD;have hm:=hp _ (zh hk);generalize l[k]=p at hm |-;by_cases hq:p.length > 6
   .rw[zb (by simp;omega),zZ (by omega)];rfl
   .rw[za (by simp;omega),zE (by omega),zbb];have k2:=Dz (f:=λ(s36:Int)=>
      if (decide (s36<(p.length:Int))) then
       (ix p s36).bind λv38=>
       (gk v38).bind λv39=>
       (A6 ((!v39)==false) 0 (X7 v38)).bind λv40=>
       if ((!v39)||(v40 != 0)) then
        some (.inr (.inl false))
       else
       some (Sum.inl (x4 (s36+1)))
      else
      some (.inr (.inr ()))) p pJ (.inr ()) (Sum.inl (β:=Unit) false) (by omega) (λj hj=>?_) (by simp)
    .refine zcw (sQ k2 (r:=if p.all pJ=true then some (.inl (x4 ((k:Int)+1))) else some (.inr (.inl false))) ?_) ?_;·cases p.all pJ <;> rfl
     .rw[n9]
    .rw[zb (by simpa using hj),u4 hj,a0A,oY];unfold pJ gk;rw[a0A,n9];cases ((decide (p[j].Kind>=1))&&(decide (p[j].Kind<=10)));·rfl
     .by_cases h:CV p[j]=0
      .have e:y6 p[j].Kind p[j].A p[j].B p[j].C=0:=h;rw[e,h];rfl
      .have e1:(y6 p[j].Kind p[j].A p[j].B p[j].C != 0)=true:=by simpa using h
       have e2:(CV p[j]==0)=false:=by simpa using h
       rw[e2];refine sQ (a:=CV p[j]) rfl ?_;rw[show (CV p[j] != 0)=true from e1];rfl
theorem Iq:qz (l.map (List.map Gx))=some (fJ l):=by
 unfold qz fJ;rw[zl];by_cases h6:l.length > 6
 .rw[zb (by simp;omega),zZ (by omega)];rfl
 .rw[za (by simp;omega),zE (by omega),zbb];simp only[jn];have key:=Dz (f:=λ(s23:Int)=>
   if (decide (s23<(l.length:Int))) then
     (ix (l.map (List.map Gx)) s23).bind λv34=>
     if (decide ((v34.length:Int) > 6)) then
      some (.inr (.inl false))
     else
     (lp (S:=Int) (E:=Bool ⊕ Unit) (λ(s36:Int)=>
      if (decide (s36<(v34.length:Int))) then
       (ix v34 s36).bind λv38=>
       (qy v38).bind λv39=>
       (A6 ((!v39)==false) 0 (gz v38)).bind λv40=>
       if ((!v39)||(v40 != 0)) then
        some (.inr (.inl false))
       else
       some (.inl (x4 (s36+1)))
      else
      some (.inr (.inr ()))) 0).bind λe35=>
     match e35 with
     | .inl w=>some (.inr (.inl w))
     | .inr w=>some (Sum.inl (x4 (s23+1)))
   else
   some (.inr (.inr ()))) l uD (.inr ()) (Sum.inl (β:=Unit) false) (by omega) (λk hk=>?_) (by simp)
  .refine sQ key ?_;cases l.all uD <;> rfl
  .rw[zb (by simpa using hk),ub,u4 hk,ut,a0A,zl];unfold uD;have hm:=hp _ (zh hk);generalize l[k]=p at hm |-;by_cases hq:p.length > 6
   .rw[zb (by simp;omega),zZ (by omega)];rfl
   .rw[za (by simp;omega),zE (by omega),zbb];have k2:=Dz (f:=λ(s36:Int)=>
      if (decide (s36<(p.length:Int))) then
       (ix (p.map Gx) s36).bind λv38=>
       (qy v38).bind λv39=>
       (A6 ((!v39)==false) 0 (gz v38)).bind λv40=>
       if ((!v39)||(v40 != 0)) then
        some (.inr (.inl false))
       else
       some (Sum.inl (x4 (s36+1)))
      else
      some (.inr (.inr ()))) p pJ (.inr ()) (Sum.inl (β:=Unit) false) (by omega) (λj hj=>?_) (by simp)
    .refine zcw (sQ k2 (r:=if p.all pJ=true then some (.inl (x4 ((k:Int)+1))) else some (.inr (.inl false))) ?_) ?_;·cases p.all pJ <;> rfl
     .rw[n9]
    .rw[zb (by simpa using hj),ub,u4 hj,ut,a0A,Jw];unfold pJ qy;rw[a0A,n9];rw[show (Gx p[j]).Kind=p[j].Kind from rfl];cases ((decide (p[j].Kind>=1))&&(decide (p[j].Kind<=10)));·rfl
     .by_cases h:CV p[j]=0
      .have e:y6 p[j].Kind (Gx p[j]).A (Gx p[j]).B (Gx p[j]).C=0:=h;rw[e,h];rfl
      .have e1:(y6 p[j].Kind p[j].A p[j].B p[j].C != 0)=true:=by simpa using h
       have e2:(CV p[j]==0)=false:=by simpa using h
       rw[e2];refine sQ (a:=CV p[j]) rfl ?_;rw[show (CV p[j] != 0)=true from e1];rfl
end
noncomputable def Hc(x:Hp):List Int:=LK x.S x.T
noncomputable def dH(x:Hp):List Int:=XG x.S x.T (Hc x)
theorem bF{x:Hp}{h:Int}:h∈dH x↔h∈lv x.S/\¬bp x.S x.T (Hc x) h:=by
 classical
 unfold dH XG;rw[zi,zC]
section
variable{x:Hp}(hx:K1 x)
include hx
theorem fe:(dH x).Nodup:=zb6 _ (uh (A3.2 hx.sh.sr))
theorem cZ:∀d∈dH x,d∈lv x.S:=λd hd=>(bF.1 hd).1
theorem KF{h:Int}(hl:h∈lv x.S)(hs:(ob x.S h).Strong<12):Mo x.S x.T h=(R4 (oJ x) h:Int):=NF.2 hx.fair h hl hs
theorem Du{h:Int}(hl:h∈lv x.S)(ho:h∈oJ x):h∈Hc x:=by
 refine qv.2 ⟨hl,?_⟩;by_cases hs:(ob x.S h).Strong<12
 .left;rw[KF hx hl hs];have:=jt.2 ⟨λe=>fp hx.sh.sr (e▸hl),ho⟩;omega
 .exact .inr (by omega)
theorem HX{h:Int}(hh:h∈Hc x):h∈lv x.S/\(h∈oJ x\/12<=(ob x.S h).Strong):=by
 obtain⟨hl,hs⟩:=qv.1 hh;refine⟨hl,?_⟩;by_cases q:(ob x.S h).Strong<12
 .rcases hs with hs | hs
  .rw[KF hx hl q] at hs;exact .inl (jt.1 (by omega)).2
  .omega
 .exact .inr (by omega)
theorem RW:∀d∈dH x,d∉oJ x:=λd hd q=>by
 obtain⟨a,b⟩:=bF.1 hd;exact b (.base (Du hx a q) a)
theorem RV:∀h∈lv x.S,h∉dH x->∀v∈(ob x.S h).Fields,v∉dH x:=λh hh hn v hv q=>by
 obtain⟨a,b⟩:=bF.1 q;have hr:bp x.S x.T (Hc x) h:=pi λr=>hn (bF.2 ⟨hh,r⟩);exact b (.step hr (gx.2 ⟨hv,λe=>fp hx.sh.sr (e▸a)⟩) a)
theorem RX:∀k v,Has x.T k v->k∉dH x->v∉dH x:=λk v hk hn q=>by
 obtain⟨a,b⟩:=bF.1 q;have hr:bp x.S x.T (Hc x) k:=pi λr=>hn (bF.2 ⟨(hx.sh.pr k v hk).1,r⟩);exact b (.pair hk hr a)
theorem eF:K1 (gY x (dH x)):=BQ hx (fe hx) (cZ hx) (RW hx) (RV hx) (RX hx)
end
theorem Au:∀(l:List Int) {x:Hp} (hR:SR x.S) {h:Int} (hh:h∈lv x.S) (hs:12<=(ob x.S h).Strong),12<=(ob (l.foldl aP x).S h).Strong
 | [],_,_,_,_,hs=>hs
 | v::l,x,hR,h,hh,hs=>by
  have k1:=I9 hR v (f:=lx) λc=>Q3;refine Au l (x:=aP x v) k1.sr (by
   show h∈lv (uV x v lx).S;rw[k1.lv];exact hh) ?_
  show 12<=(ob (uV x v lx).S h).Strong;rw[wu (x:=x) hR (h:=v) (f:=lx) (λc=>Q3) hh];split
  .unfold lx;rw[zb hs];omega
  .exact hs
section
variable{x:Hp}(hx:K1 x)
include hx
theorem yF{h:Int}:h∈lv (gY x (dH x)).S↔bp x.S x.T (Hc x) h:=by
 rw[Hx hx.sh.sr (fe hx) (cZ hx),zi,zC,bF];constructor
 .rintro⟨a,b⟩;exact pi λr=>b ⟨a,r⟩
 .intro r;exact⟨r.live,λq=>q.2 r⟩
theorem Yg{h:Int}(hh:h∈lv (gY x (dH x)).S):(ob (gY x (dH x)).S h).Serial=(ob x.S h).Serial/\(ob (gY x (dH x)).S h).Prog=(ob x.S h).Prog/\(ob (gY x (dH x)).S h).Fields=(ob x.S h).Fields/\(ob (gY x (dH x)).S h).Started=(ob x.S h).Started:=by
 have r:=(yF hx).1 hh;obtain⟨n,e⟩:=Hy hx.sh.sr (fe hx) (cZ hx) r.live (λq=>(bF.1 q).2 r);rw[e];exact⟨rfl,rfl,rfl,rfl⟩
theorem NQ{h:Int}(hh:h∈lv (gY x (dH x)).S)(hs:12<=(ob x.S h).Strong):12<=(ob (gY x (dH x)).S h).Strong:=by
 have r:=(yF hx).1 hh;have g:=ff (dH x) hx.sh.sr (fe hx) (cZ hx);have hn:h∉dH x:=λq=>(bF.1 q).2 r;refine Au _ (x:=jH x (dH x) (lF x.T (dH x)).1) g.sr ?_ ?_
 .show h∈lv (oR x.S (dH x));rw[g.lv,zi];exact⟨r.live,by simpa using hn⟩
 .show 12<=(ob (oR x.S (dH x)) h).Strong;rw[g.ob h r.live hn];exact hs
theorem VB:oJ (gY x (dH x))=oJ x:=by
 obtain⟨e1,_,_,e4⟩:=tf hx.sh.sr (fe hx) (cZ hx);unfold oJ;rw[e1,e4,yM _ _ _ λt ht=>by
  obtain⟨w,_,rfl,_⟩:=gP.1 ht;simp]
theorem RU{h:Int}(hh:bp x.S x.T (Hc x) h):bp (gY x (dH x)).S (gY x (dH x)).T (Hc (gY x (dH x))) h:=by
 have w:=eF hx;obtain⟨_,_,e3,_⟩:=tf hx.sh.sr (fe hx) (cZ hx);have hlen:(dH x).length<=1000:=by
  have:=ai (fe hx) (cZ hx);have:=N3 (A3.2 hx.sh.sr);omega
 obtain⟨_,_,_,_,w5,_⟩:=kp hx.sh.hr (dH x) hlen;induction hh with
 | base h1 h2=>
  have hl:=(yF hx).2 (.base h1 h2);refine .base ?_ hl;rcases (HX hx h1).2 with q | q
  .exact Du w hl (by rw[VB hx];exact q)
  .exact qv.2 ⟨hl,.inr (NQ hx hl q)⟩
 | step q0 q1 q2 ih=>
  refine .step ih ?_ ((yF hx).2 (.step q0 q1 q2));unfold outs at q1 |-;rw[(Yg hx ((yF hx).2 q0)).2.2.1];exact q1
 | pair q1 q0 q2 ih=>
  refine .pair ?_ ih ((yF hx).2 (.pair q1 q0 q2));rw[e3];exact (w5 _ _).2 ⟨λq=>(bF.1 q).2 q0,q1⟩
theorem FE:dH (gY x (dH x)) = []:=za3.2 λh hh=>by
 obtain⟨a,b⟩:=bF.1 hh;exact b (RU hx ((yF hx).1 a))
end
theorem Fh{x:Hp}(hx:K1 x)(hg:dH x = []):zr x = []:=za3.2 λh hh=>by
 have hl:=(dg.1 hh).1;have hs:=(dg.1 hh).2;have hf:=EE hx hh;have h0:h≠0:=λe=>fp hx.sh.sr (e▸hl);have r:bp x.S x.T (Hc x) h:=pi λr=>by
  have:h∈dH x:=bF.2 ⟨hl,r⟩;rw[hg] at this;cases this
 unfold mb at hf;cases r with
 | base h1 h2=>
  rcases (HX hx h1).2 with q | q
  .have:=jt.2 ⟨h0,q⟩;omega
  .omega
 | step q0 q1 q2=>
  have:=Dy (y:=h) q0.live;have h1:=jt.2 ⟨h0,q1⟩;omega
 | pair q1 q0 q2=>
  have:=DN q1 h0;omega
theorem yG{x:Hp}(hx:K1 x):bN (gY x (dH x))=gY x (dH x):=PY (Fh (eF hx) (FE hx))
theorem Oe{c:Int}(h:0<=c):1<=ab c:=by unfold ab;split <;> (try split) <;> omega
theorem Ir{x:Hp}(hR:SR x.S){h:Int}(hh:h∈lv x.S){k:Int}(hk:k∈lv x.S):(ob (gT x h).S k).Strong=if k=h then ab (ob x.S k).Strong else (ob x.S k).Strong:=by
 have oko:=L1 hR hh;have ho:Bc x.S (fR (ob x.S h)):=⟨oko.s1,oko.s2,oko.st,oko.wk,oko.p1,oko.p2,oko.fl⟩;have r1:=cd (o:=fR (ob x.S h)) hR hh rfl ho;have l1:lv (dh x.S h (fR (ob x.S h)))=lv x.S:=iV (o:=fR (ob x.S h)) hR hh rfl ho;have hr:=I7 hR hk;have e1:(ob (dh x.S h (fR (ob x.S h))) k).Strong=(ob x.S k).Strong:=by
  rw[gB (o:=fR (ob x.S h)) hR hh rfl ho (by omega)];split;·rename_i e;subst e;rfl
  .rfl
 have:=wu (x:=⟨dh x.S h (fR (ob x.S h)),x.Roots,x.b7,x.T,⟨x.Q.L ++ [Bf x h],x.Q.Cap⟩⟩) r1 (h:=h) (f:=ab) (λc=>F2) (k:=k) (by
  show k∈lv (dh x.S h (fR (ob x.S h)));rw[l1];exact hk)
 rw[show (ob (gT x h).S k).Strong=_ from this];show (if k=h then ab (ob (dh x.S h (fR (ob x.S h))) k).Strong else (ob (dh x.S h (fR (ob x.S h))) k).Strong)=_;rw[e1]
theorem WO{x:Hp}(hx:K1 x)(hz:zr x = []){h:Int}(hh:h∈lv x.S):zr (gT x h) = []:=za3.2 λk hk=>by
 obtain⟨a,b⟩:=dg.1 hk;rw[DS hx.sh.sr hh] at a;rw[Ir hx.sh.sr hh a] at b;have h0:=(L1 hx.sh.sr a).st;have hn:(ob x.S k).Strong≠0:=λq=>by
  have:k∈zr x:=dg.2 ⟨a,q⟩;rw[hz] at this;cases this
 split at b;·have:=Oe h0;omega
 .exact hn b
structure Qd (x y:Hp) (l:List Int):Prop where
 rt:K1 y
 sl:SL y
 zr:zr y = []
 lv:lv y.S=lv x.S
 ob:∀k∈Sh.lv x.S,∃n,Sh.ob y.S k=BB (if k∈l then fR (Sh.ob x.S k) else Sh.ob x.S k) n
 ro:y.Roots=x.Roots
 ce:y.b7=x.b7
 t:y.T=x.T
 q:y.Q=⟨x.Q.L++l.map (Bf x),x.Q.Cap⟩
 bC:y.S.Serial=x.S.Serial
theorem Tj{x:Hp}(hR:SR x.S){h:Int}(hh:h∈lv x.S):(gT x h).S.Serial=x.S.Serial:=(nD hR hh).1.bC
theorem Am:∀(l:List Int) {x:Hp},K1 x->SL x->Sh.zr x = []->l.Nodup->(∀h∈l,h∈Sh.lv x.S/\due (Sh.ob x.S h)=true)->Qd x (l.foldl gT x) l
 | [],x,hx,hS,hz,_,_=>⟨hx,hS,hz,rfl,λk hk=>⟨(Sh.ob x.S k).Strong,by rw[za (by simp)];rfl⟩,rfl,rfl,rfl,by simp,rfl⟩
 | h::l,x,hx,hS,hz,hn,hd=>by
  obtain⟨hl,hdu⟩:=hd h (zg ..);have hR:=hx.sh.sr;rw[zaa] at hn;have q2:=hdu;unfold due at q2;rw[zy,zC,zb8] at q2;have h1:=wb hx hl q2.1 q2.2;have h2:=PB hR hS hl;have h3:=WO hx hz hl;have lq:=DS hR hl;have oq:∀k∈Sh.lv x.S,k≠h->∃n,Sh.ob (gT x h).S k=BB (Sh.ob x.S k) n:=λk hk hne=>by
   obtain⟨n,e⟩:=Al hR hl hk;rw[za hne] at e;exact⟨n,e⟩
  have ih:=Am l h1 h2 h3 hn.2 λk hk=>by
   obtain⟨a,b⟩:=hd k (zo _ hk);obtain⟨n,e⟩:=oq k a λe=>hn.1 (e▸hk);refine⟨by rw[lq];exact a,?_⟩;rw[e];exact b
  obtain⟨_,k1,k2,k3,k4⟩:=nD hR hl;refine⟨ih.rt,ih.sl,ih.zr,ih.lv.trans lq,λk hk=>?_,ih.ro.trans k1,ih.ce.trans k2,ih.t.trans k3,?_,ih.bC.trans (Tj hR hl)⟩
  .obtain⟨n,e⟩:=ih.ob k (by rw[lq];exact hk);obtain⟨m,e2⟩:=Al hR hl hk;refine⟨n,?_⟩;show Sh.ob (l.foldl gT (gT x h)).S k=_;rw[e];by_cases c:k=h
   .subst c;rw[za hn.1,zb (zg ..),e2,zb rfl]
   .rw[za c] at e2;by_cases c2:k∈l
    .rw[zb c2,zb (zo _ c2),e2]
    .rw[za c2,za (λq=>by
      rcases zM.1 q with r | r
      .exact c r
      .exact c2 r),e2]
  .show (l.foldl gT (gT x h)).Q=_;rw[ih.q,k4];have:l.map (Bf (gT x h))=l.map (Bf x):=zw λk hk=>by
    obtain⟨a,_⟩:=hd k (zo _ hk);obtain⟨n,e⟩:=oq k a λe=>hn.1 (e▸hk);show (⟨1,k,(Sh.ob (gT x h).S k).Prog⟩:g5)=⟨1,k,(Sh.ob x.S k).Prog⟩;rw[e]
   rw[this];simp
noncomputable def jI(x:Hp):List Int:=(dH x).filter λh=>due (Sh.ob x.S h)
noncomputable def Be(x:Hp):Hp:=if jI x = [] then gY x (dH x) else (jI x).foldl gT x
theorem mY{x:Hp}:∀h∈jI x,h∈Sh.lv x.S/\due (Sh.ob x.S h)=true:=λh hh=>by
 obtain⟨a,b⟩:=zi.1 hh;exact⟨(bF.1 a).1,b⟩
theorem yn{x:Hp}(hx:K1 x):(jI x).Nodup:=zb6 _ (fe hx)
theorem Nk{x:Hp}(hx:K1 x)(hS:SL x)(hz:zr x = []):Qd x ((jI x).foldl gT x) (jI x):=Am _ hx hS hz (yn hx) mY
theorem HF{x:Hp}(hx:K1 x)(hS:SL x)(hz:zr x = []):K1 (Be x)/\SL (Be x)/\zr (Be x) = []:=by
 unfold Be;split;·exact⟨eF hx,Nl hx.sh.sr hS (fe hx) (cZ hx),Fh (eF hx) (FE hx)⟩
 .have q:=Nk hx hS hz;exact⟨q.rt,q.sl,q.zr⟩
theorem Vp{y:Hp}(h:jI y = []):Be y=gY y (dH y):=by
 unfold Be;rw[zb h]
section
variable{x:Hp}(hx:K1 x)
include hx
end
structure Rs (x:Hp) (n:Nat):Prop where
 rt:K1 x
 sl:SL x
 zr:zr x = []
 bC:x.S.Serial<=n
section
variable{x:Hp}(hx:K1 x)(hS:SL x)
include hx hS
theorem Nn:V4 x=some (dH x):=by
 have hB:=Yj hx hS;unfold V4;rw[HV (A3.2 hx.sh.sr) hx.sh.hr hB.tb hB.fb hB.sb];rfl
theorem Dk:(dH x).length<=24:=zN (zA ..) (N3 (A3.2 hx.sh.sr))
theorem Vc:gK x=some (jI x):=by
 have hR:=hx.sh.sr;have hl:=Dk hx hS;unfold gK;rw[Nn hx hS,a0A];unfold L0;simp only[jn];refine sQ (a:=jI x) ?_ rfl;refine Z0 (dH x).length (λk b=>b=((dH x).take k).filter λh=>due (Sh.ob x.S h)) (by omega) rfl (λk b hk hP=>?_) (λb hP=>?_)
 .subst hP;have hm:=cZ hx _ (zh hk);have hle:(((dH x).take k).filter λh=>due (Sh.ob x.S h)).length<=24:=zN (zA ..) (by simp;omega);refine .inl ⟨_,?_,rfl⟩;rw[zb (by simpa using hk),u4 hk,a0A,O4 hk,zba];unfold iE;rw[yJ hR hm,a0A,a0A];have e:(decide ((ob x.S (dH x)[k],(0:Int)).1.Prog>=0) && !(ob x.S (dH x)[k],(0:Int)).1.Started)=due (ob x.S (dH x)[k]):=rfl;rw[e];cases hd:due (ob x.S (dH x)[k])
  .rw[za (by simp),n9];simp[hd]
  .rw[zb rfl,I6 (by omega) (by simp;omega),a0A,n9];simp[hd]
 .subst hP;refine⟨_,za (by simp),?_⟩;rw[zR];rfl
noncomputable def No(x:Hp):Int:=if jI x = [] then ((lv x.S).length:Int)-((lv (Be x).S).length:Int) else 0
omit hx hS in
theorem VZ {l:List Int} (hn:l.Nodup) (hm:∀d∈l,d∈lv x.S):Zr x l=l:=by
 have key:∀(l b:List Int),(b++l).Nodup->(∀d∈l,d∈lv x.S)->l.foldl (λb h=>if h∈lv x.S/\h∉b then b ++ [h] else b) b=b++l:=by
  intro l;induction l with
  | nil=>intro b _ _;simp
  | cons a l ih=>
   intro b hn hm;rw[pm];have ha:a∉b:=λq=>by
    rw[zbs] at hn;exact hn.2.2 a q a (zg ..) rfl
   rw[zb ⟨hm a (zg ..),ha⟩,ih (b ++ [a]) (by simpa using hn) λd hd=>hm d (zo _ hd)];simp
 exact key l [] (by simpa using hn) hm
variable(hz:zr x = [])
include hz
theorem TJ{k:Nat}(hk:k<(jI x).length):(((jI x).take k).foldl gT x)=(((jI x).take k).foldl gT x)/\K1 (((jI x).take k).foldl gT x)/\SL (((jI x).take k).foldl gT x)/\(jI x)[k]∈lv (((jI x).take k).foldl gT x).S/\due (ob (((jI x).take k).foldl gT x).S (jI x)[k])=true:=by
 have hn:=yn hx;have q:=Am ((jI x).take k) hx hS hz ((zb9 ..).nodup hn) λh hh=>mY h (zaf hh);obtain⟨a,b⟩:=mY (jI x)[k] (zh hk);refine⟨rfl,q.rt,q.sl,by rw[q.lv];exact a,?_⟩;obtain⟨n,e⟩:=q.ob _ a;have hnot:(jI x)[k]∉(jI x).take k:=λh=>by
  have:=O4 hk;have hs:((jI x).take (k+1)).Nodup:=(zb9 ..).nodup hn;rw[this,zbs] at hs;exact hs.2.2 _ h _ (List.mem_singleton_self _) rfl
 rw[e,za hnot];exact b
theorem Jr:(jI x).length<=24:=zN (zA ..) (Dk hx hS)
theorem Vo:aV x=some (Be x,((jI x).length:Int),No x):=by
 have hR:=hx.sh.sr;have hl:=Jr hx hS hz;obtain⟨c1,c2,c3⟩:=HF hx hS hz;unfold aV;rw[Vc hx hS,a0A];simp only[jn];refine Z0 (jI x).length (λk b=>b=((jI x).take k).foldl gT x) (by omega) rfl (λk b hk hP=>?_) (λb hP=>?_)
 .subst hP;obtain⟨_,r1,r2,r3,r4⟩:=TJ hx hS hz hk;refine .inl ⟨_,?_,rfl⟩;rw[zb (by simpa using hk),u4 hk,a0A,Ct r1 r2 (rB r1.sh.sr r3),a0A,n9,O4 hk,zaj];unfold Zv;rw[zb ⟨r3,r4⟩];rfl
 .subst hP;refine⟨_,za (by simp),?_⟩;rw[zR];by_cases hb:jI x = []
  .have e:Be x=gY x (dH x):=Vp hb;rw[za (by simp[hb])];unfold No;rw[zb hb,e,hb];have h1:=fe hx;have h2:=cZ hx;have hlive:=gN (A3.2 hR);have hlive2:=gN (A3.2 (eF hx).sh.sr);have l1:=N3 (A3.2 hR);have l2:=N3 (A3.2 (eF hx).sh.sr);show (V4 x).bind _=_;rw[Nn hx hS,a0A,List.foldl_nil,Jt hx h1 h2 (Tw hx) (by rw[uf hR _ (by have:=Dk hx hS;omega) λh hh=>rB hR (h2 h hh),VZ h1 h2]),a0A,jC (eF hx) (by rw[<-e];exact c2),a0A,yG hx,hlive,a0A,hlive2,a0A,V3 (by omega) (by omega)];rfl
  .have:0<(jI x).length:=List.length_pos_iff.2 hb;rw[zb (by simp;omega)];unfold No Be;rw[za hb,za hb]
end
theorem RO{x:Hp}(hx:K1 x)(hS:SL x)(hz:zr x = []):(Be x).S.Serial=x.S.Serial:=by
 unfold Be;split
 .have g:=ff (dH x) hx.sh.sr (fe hx) (cZ hx);exact (iw ((dH x).flatMap (outs x.S)++(lF x.T (dH x)).2) (x:=jH x (dH x) (lF x.T (dH x)).1) g.sr).1.bC.trans g.bC
 .exact (Nk hx hS hz).bC
def Sv(s s':b6):Prop:=s'.S.b7.length=s.S.b7.length/\∀i,i<s.S.b7.length->(ce s i).Gen<=(ce s' i).Gen/\((ce s' i).Gen=(ce s i).Gen->((ce s i).State≠0->(ce s' i).State≠0)/\((ce s' i).State=1->(ce s i).State=0\/((ce s i).State=1/\((ce s i).Val.Started=true->(ce s' i).Val.Started=true))))
theorem Sv.refl(s:b6):Sv s s:=⟨rfl,λi _=>⟨zag _,λ_=>⟨id,λh=>.inr ⟨h,id⟩⟩⟩⟩
theorem Sv.trans{a b c:b6}(h:Sv a b)(q:Sv b c):Sv a c:=by
 obtain⟨h1,h2⟩:=h;obtain⟨q1,q2⟩:=q;refine⟨q1.trans h1,λi hi=>?_⟩;obtain⟨a1,a2⟩:=h2 i hi;obtain⟨b1,b2⟩:=q2 i (by omega);refine⟨by omega,λe=>?_⟩;obtain⟨a3,a4⟩:=a2 (by omega);obtain⟨b3,b4⟩:=b2 (by omega);refine⟨λh=>b3 (a3 h),λh=>?_⟩;rcases b4 h with r | ⟨r,r'⟩
 .exact .inl (pi λn=>a3 n r)
 .rcases a4 r with k | ⟨k,k'⟩
  .exact .inl k
  .exact .inr ⟨k,λs=>r' (k' s)⟩
def IQ(s:b6)(h:Int):Prop:=∃(i:Nat) (g:Int),i<s.S.b7.length/\h=1+(i:Int)+32*g/\(g<(ce s i).Gen\/(g=(ce s i).Gen/\(ce s i).State≠0/\((ce s i).State=1->(ce s i).Val.Started=true)))
theorem Sv.YV{s s':b6}(h:Sv s s'){k:Int}(q:IQ s k):IQ s' k:=by
 obtain⟨i,g,hi,e,q⟩:=q;obtain⟨h1,h2⟩:=h;obtain⟨a,b⟩:=h2 i hi;refine⟨i,g,by omega,e,?_⟩;rcases q with q | ⟨q1,q2,q3⟩
 .exact .inl (by omega)
 .by_cases c:(ce s' i).Gen=(ce s i).Gen
  .obtain⟨b1,b2⟩:=b c;refine .inr ⟨by omega,b1 q2,λr=>?_⟩;rcases b2 r with k | ⟨k1,k2⟩
   .exact absurd k q2
   .exact k2 (q3 k1)
  .exact .inl (by omega)
theorem Mt{s:b6}(hR:SR s){h:Int}(hh:h∈lv s)(hs:(ob s h).Started=false):¬IQ s h:=by
 rintro⟨i,g,hi,e,q⟩;obtain⟨j,hj⟩:=(ig hR).1 hh;have hl:=hR.len;have hij:i=j:=by
  have:=hj.2.2;have:=hj.1;omega
 subst hij;have:=hj.2.2;rcases q with q | ⟨q1,q2,q3⟩
 .omega
 .rw[G2 hR hj,q3 hj.2.1] at hs;cases hs
theorem wB.sv{s s':b6}(hR:SR s)(k:wB s s'):Sv s s':=⟨k.len,λi hi=>by
 obtain⟨a,b,_,_,_⟩:=k.ce i hi;refine⟨by omega,λ_=>⟨by omega,λh=>.inr ⟨by omega,λq=>?_⟩⟩⟩;have h1:At s (cy s i) i:=⟨hi,by omega,rfl⟩;have h2:At s' (cy s i) i:=⟨by rw[k.len];exact hi,h,by rw[b];rfl⟩;have hl:=I7 hR ((ig hR).2 ⟨i,h1⟩);obtain⟨n,e⟩:=k.ob (cy s i) (by omega);rw[G2 k.sr h2,G2 hR h1] at e;rw[e];exact q⟩
theorem PS{s:b6}(hR:SR s){h:Int}(hh:h∈lv s){o:n8}(hs:o.Serial=(ob s h).Serial)(ho:Bc s o)(hst:(ob s h).Started=true->o.Started=true):Sv s (dh s h o):=⟨KH s h o,λi hi=>by
 have q:=o5 hR hh;rw[AD hR hh hs ho];split
 .rename_i e;subst e;refine⟨zag _,λ_=>⟨id,λr=>.inr ⟨q.2.1,λk=>hst ?_⟩⟩⟩;rw[G2 hR q];exact k
 .exact⟨zag _,λ_=>⟨id,λr=>.inr ⟨r,id⟩⟩⟩⟩
theorem OF{s:b6}(hR:SR s){i:Nat}(hi:i<s.S.b7.length)(ht:Th (ce s i))(d:Int):Sv s (lV s i d):=⟨K6 ..,λj hj=>by
 rw[fw hR hi ht];split
 .rename_i e;subst e;exact⟨zag _,λ_=>⟨id,λr=>.inr ⟨r,id⟩⟩⟩
 .exact⟨zag _,λ_=>⟨id,λr=>.inr ⟨r,id⟩⟩⟩⟩
theorem VG{s:b6}{i:Nat}(hi:i<s.S.b7.length):Sv s (EG s i):=⟨W9 ..,λj hj=>by
 unfold EG;rw[L6 hi];by_cases e:j=i
 .subst e;rw[zb rfl];split;·exact⟨zag _,λ_=>⟨λ_=>(by decide:(3:Int)≠0),λr=>absurd (show (3:Int)=1 from r) (by decide)⟩⟩
  .refine⟨by show _<=(ce s j).Gen+1;omega,λr=>?_⟩;have:(ce s j).Gen+1=(ce s j).Gen:=r;omega
 .rw[za e];exact⟨zag _,λ_=>⟨id,λr=>.inr ⟨r,id⟩⟩⟩⟩
theorem Gn.sv{s s':b6}{ds:List Int}(g:Gn s s' ds):Sv s s':=⟨g.len,λj hj=>by
 rw[g.ce];split
 .unfold Ha;split
  .split;·exact⟨zag _,λ_=>⟨λ_=>(by decide:(3:Int)≠0),λr=>absurd (show (3:Int)=1 from r) (by decide)⟩⟩
   .refine⟨by show _<=(Sh.ce s j).Gen+1;omega,λr=>?_⟩;have:(Sh.ce s j).Gen+1=(Sh.ce s j).Gen:=r;omega
  .exact⟨zag _,λ_=>⟨λ_=>(by decide:(2:Int)≠0),λr=>absurd (show (2:Int)=1 from r) (by decide)⟩⟩
 .exact⟨zag _,λ_=>⟨id,λr=>.inr ⟨r,id⟩⟩⟩⟩
theorem Yz{s:b6}(hR:SR s){i:Nat}(hi:i<s.S.b7.length)(h0:(ce s i).State=0){n:Nat}(hn:n<=4){p:Int}(hp : -1<=p/\p<=5):Sv s (dI s i n p):=⟨jT hR hi h0 hn hp,λj hj=>by
 rw[lW hR hi h0 hn hp];split
 .rename_i e;subst e;exact⟨zag _,λ_=>⟨λr=>absurd h0 r,λ_=>.inl h0⟩⟩
 .exact⟨zag _,λ_=>⟨id,λr=>.inr ⟨r,id⟩⟩⟩⟩
theorem IA{x:Hp}(hR:SR x.S)(h:Int):Sv x.S (F3 x h).S:=(I9 hR h (f:=ab) λc=>F2).sv hR
theorem Ee{x:Hp}(hR:SR x.S)(h:Int):Sv x.S (aP x h).S:=(I9 hR h (f:=lx) λc=>Q3).sv hR
theorem GD{x:Hp}(hR:SR x.S)(r:Nat)(h:Int):Sv x.S (G9 x r h).S:=
 (IA hR h).trans (Ee (x:=wR (F3 x h) (x.Roots.set r h)) (kg hR h) _)
theorem LC{x:Hp}(hR:SR x.S){h:Int}(hh:h∈lv x.S){n:Nat}(hn:n<(ob x.S h).Fields.length)(v:Int):Sv x.S (bS x h n v).S:=by
 have k1:=Eg hR v;have hh1:h∈lv (F3 x v).S:=by rw[k1.lv];exact hh
 have hof:(ob (F3 x v).S h).Fields=(ob x.S h).Fields:=by
  obtain⟨n,e⟩:=(I9 hR v (f:=ab) λc=>F2).ob h (by have:=I7 hR hh;omega);show (ob (uV x v ab).S h).Fields=_;rw[e]
 have ho:Bc (F3 x v).S (rZ (ob (F3 x v).S h) ((ob x.S h).Fields.set n v)):=by
  have:=L1 k1.sr hh1;refine⟨this.s1,this.s2,this.st,this.wk,this.p1,this.p2,?_⟩;have h4:=this.fl;rw[hof] at h4;simpa using h4
 have k2:=PS (o:=rZ (ob (F3 x v).S h) ((ob x.S h).Fields.set n v)) k1.sr hh1 rfl ho id;exact ((IA hR v).trans k2).trans (Ee (x:=wS (F3 x v) (dh (F3 x v).S h (rZ (ob (F3 x v).S h) ((ob x.S h).Fields.set n v)))) (cd (o:=rZ (ob (F3 x v).S h) ((ob x.S h).Fields.set n v)) k1.sr hh1 rfl ho) _)
theorem Pp{x:Hp}(hR:SR x.S)(v:Int)(t:Tb)(old:Int):Sv x.S (ja x v t old).S:=
 (IA hR v).trans (Ee (x:=wT (F3 x v) t) (kg hR v) old)
theorem Wh{x:Hp}(hR:SR x.S)(h d:Int):Sv x.S (iN x h d).S:=by
 unfold iN;split
 .rename_i q;exact OF hR q.1 q.2.1 d
 .exact Sv.refl _
theorem TP{x:Hp}(hR:SR x.S)(h:Int):Sv x.S (qh x h).S:=by
 unfold qh;split
 .rename_i q;have k:=OF hR q.1 q.2.1 (-1);split;·exact k.trans (VG (by rw[k.1];exact q.1))
  .exact k
 .exact Sv.refl _
theorem Qn{x:Hp}(hx:K1 x)(n:Nat)(h call:Int):Sv x.S (cW x n h call).S:=by
 have hR:=hx.sh.sr;unfold cW;have s1:Sv x.S (iN (wC x (x.b7.set n (fV h call))) h 1).S:=Wh (x:=wC x (x.b7.set n (fV h call))) hR h 1;refine s1.trans (TP ?_ _);unfold iN;split
 .rename_i q;have:=(hR.ok _ q.1 q.2.1).wk;exact vL hR q.1 q.2.1 (by omega)
 .exact hR
theorem Vd{x:Hp}(hR:SR x.S){ds:List Int}(hn:ds.Nodup)(hm:∀d∈ds,d∈lv x.S):Sv x.S (gY x ds).S:=by
 have g:=ff ds hR hn hm;exact g.sv.trans ((iw (ds.flatMap (outs x.S)++(lF x.T ds).2) (x:=jH x ds (lF x.T ds).1) g.sr).1.sv g.sr)
theorem WN{x:Hp}(hR:SR x.S){h:Int}(hh:h∈lv x.S):Sv x.S (gT x h).S:=by
 have oko:=L1 hR hh;have ho:Bc x.S (fR (ob x.S h)):=⟨oko.s1,oko.s2,oko.st,oko.wk,oko.p1,oko.p2,oko.fl⟩;exact (PS (o:=fR (ob x.S h)) hR hh rfl ho λ_=>rfl).trans ((nD hR hh).1.sv (cd (o:=fR (ob x.S h)) hR hh rfl ho))
theorem Xr{x:Hp}(hx:K1 x):Sv x.S (He x).S:=by
 cases h:zr x with
 | nil=>rw[nW h];exact Sv.refl _
 | cons z l=>
  have hz:z∈zr x:=by rw[h];exact zg ..
  have hzl:=(dg.1 hz).1;rw[kl h];split;·exact WN hx.sh.sr hzl
  .exact Vd hx.sh.sr (by simp) (by simpa using hzl)
theorem Xo{x:Hp}(hx:K1 x)(n:Nat):Sv x.S (oO n x).S:=by
 induction n with
 | zero=>exact Sv.refl _
 | succ n ih=>rw[fS];exact ih.trans (Xr (Q5 hx n))
theorem TD{x:Hp}(hx:K1 x):Sv x.S (bN x).S:=Xo hx 100
structure Fw (x y:Hp):Prop where
 sv:Sv x.S y.S
 q:∃l,y.Q=⟨x.Q.L++l,x.Q.Cap⟩/\∀t∈l,t.Kind=1->¬IQ x.S t.At
theorem Fw.of{x y:Hp}(h:Sv x.S y.S)(q:y.Q=x.Q):Fw x y:=⟨h,[],by rw[q,zay],λt ht=>by cases ht⟩
theorem Fw.refl(x:Hp):Fw x x:=Fw.of (Sv.refl _) rfl
theorem Fw.trans{x y z:Hp}(a:Fw x y)(b:Fw y z):Fw x z:=by
 obtain⟨l,q1,q2⟩:=a.q;obtain⟨m,r1,r2⟩:=b.q;refine⟨a.sv.trans b.sv,l++m,by rw[r1,q1,zai],λt ht hk=>?_⟩;rcases zu.1 ht with h | h
 .exact q2 t h hk
 .exact λs=>r2 t h hk (a.sv.YV s)
theorem El{x:Hp}(hx:K1 x):Fw x (bN x):=by
 obtain⟨l,q1,q2,_⟩:=(mB hx).q;exact⟨TD hx,l,q1,λt ht hk=>Mt hx.sh.sr (q2 t ht hk).1 (q2 t ht hk).2⟩
theorem ke{x:Hp}(hR:SR x.S)(r:Nat)(h:Int):Fw x (G9 x r h):=Fw.of (GD hR r h) (kf x r h).2.2.2
theorem XZ{x:Hp}(hx:K1 x)(hS:SL x)(hz:zr x = [])(hb:x.S.Serial<9223372036854775807)(o:g9):(∃e,Er x o e)\/∃z v,Dn x o z v/\Fw x z:=by
 have hR:=hx.sh.sr;obtain⟨k,a,b,c⟩:=o;by_cases hc:y6 k a b c=0
 .have:=ud hc;have hk:k=1\/k=2\/k=3\/k=4\/k=5\/k=6\/k=7\/k=8\/k=9\/k=10\/k=11\/k=12:=by omega
  rcases hk with rfl | rfl | rfl | rfl | rfl | rfl | rfl | rfl | rfl | rfl | rfl | rfl
  .rcases d1 hx hS hb hc with ⟨e,_,h⟩ | ⟨hn,hcc,i,hF,h⟩;·exact .inl ⟨e,h⟩
   .obtain⟨hi,h0,_⟩:=hF;have k1:Fw x (wS x (dI x.S i b.toNat c)):=Fw.of (Yz hR hi h0 hn hcc) rfl;exact .inr ⟨_,_,h,k1.trans (ke (x:=wS x (dI x.S i b.toNat c)) (Ga hR hi h0 hn hcc) _ _)⟩
  .exact .inr ⟨_,_,d2 hx hS hc,ke hR _ _⟩
  .exact .inr ⟨_,_,d3 hx hS hc,ke hR _ _⟩
  .rcases d4 hx hS hc with ⟨_,h⟩ | ⟨e,_,h⟩ | ⟨_,n,_,_,h⟩;·exact .inl ⟨_,h⟩
   .exact .inl ⟨_,h⟩
   .exact .inr ⟨_,_,h,ke hR _ _⟩
  .rcases d5 hx hS hc with ⟨_,h⟩ | ⟨e,_,h⟩ | ⟨hl,n,_,hn,h⟩;·exact .inl ⟨_,h⟩
   .exact .inl ⟨_,h⟩
   .exact .inr ⟨_,_,h,Fw.of (LC hR hl hn _) (ph _ _ _ _).2.2.2⟩
  .rcases d6 hx hS hc with ⟨_,h⟩ | ⟨e,_,h⟩ | ⟨_,h⟩;·exact .inl ⟨_,h⟩
   .exact .inl ⟨_,h⟩
   .exact .inr ⟨_,_,h,Fw.of (Qn hx _ _ _) (AU _ _ _ _).2.2.2⟩
  .obtain⟨_,⟨_,h⟩ | ⟨_,h⟩⟩:=d7 hx hS hc;·exact .inl ⟨_,h⟩
   .exact .inr ⟨_,_,h,ke hR _ _⟩
  .rcases d8 hx hS hc with ⟨_,h⟩ | ⟨_,e,_,h⟩ | ⟨_,r,_,_,h⟩;·exact .inl ⟨_,h⟩
   .exact .inl ⟨_,h⟩
   .exact .inr ⟨_,_,h,Fw.of (Pp hR _ _ _) (sz _ _ _ _).2.2.2⟩
  .rcases d9 hx hS hc with ⟨_,h⟩ | ⟨_,_,h⟩ | ⟨_,v,_,h⟩;·exact .inl ⟨_,h⟩
   .exact .inl ⟨_,h⟩
   .exact .inr ⟨_,_,h,ke hR _ _⟩
  .exact .inr ⟨_,_,d10 hx hS hz hc,Fw.refl x⟩
  .obtain⟨h1,h2⟩:=Dc (x:=x) (a:=a) (b:=b) (c:=c) (.inl rfl) hc;exact .inl ⟨14,by decide,h1,h2⟩
  .obtain⟨h1,h2⟩:=Dc (x:=x) (a:=a) (b:=b) (c:=c) (.inr rfl) hc;exact .inl ⟨14,by decide,h1,h2⟩
 .obtain⟨h1,h2⟩:=Nz (x:=x) (o:=⟨k,a,b,c⟩) hc;exact .inl ⟨_,hc,h1,h2⟩
theorem Vt{x:Hp}(hx:K1 x)(hS:SL x)(hz:zr x = [])(hb:x.S.Serial<9223372036854775807)(o:g9):Fw x (jv x o).1:=by
 rcases XZ hx hS hz hb o with ⟨e,_,h,_⟩ | ⟨z,v,d,f⟩
 .have:jv x o=(x,0,e):=by unfold jv;rw[h];rfl
  rw[this];exact Fw.refl x
 .have:jv x o=(bN z,v,0):=by unfold jv;rw[d.mc];rfl
  rw[this];exact f.trans (El d.rt)
theorem YT{x:Hp}(h1:kH x)(h2:Wk x){L:List Int}(h3:aT x L){r:Nat}(hr:r<6){h:Int}(hh:h=0\/h∈lv x.S):kH (G9 x r h)/\Wk (G9 x r h)/\aT (G9 x r h) L:=by
 have xm:=I9 h1.sr h (f:=ab) λc=>F2;have l1:lv (F3 x h).S=lv x.S:=xm.lv;have f1:aT (F3 x h) (h::L):=GF h1.sr h3 h;have s1:kH (F3 x h):=h1.st h (f:=ab) λc=>F2;have s2:kH (wR (F3 x h) (x.Roots.set r h)):=s1.roots (by rw[zas];exact h1.r6) λv hv=>by
  rw[l1];rcases zan hv with q | q
  .exact h1.rt v q
  .exact q▸hh
 have w1:Wk (F3 x h):=h2.st h1.sr h (f:=ab) λc=>F2;have one:∀v k,R4 [v] k=if v=k/\k≠0 then 1 else 0:=λv k=>by rw[I1,J0,zam]
 have f2:aT (wR (F3 x h) (x.Roots.set r h)) (x.Roots.getD r 0::L):=f1.mv rfl (λ_ _=>rfl) λk hk=>by
  have:=xZ (l:=x.Roots) (r:=r) (by rw[h1.r6];exact hr) h k;rw[one,one] at this;rw[pR x h];unfold mb oJ;dsimp only;rw[G6,G6,qg,qg,I1 h L,I1 (x.Roots.getD r 0) L];omega
 exact⟨s2.st _ λc=>Q3,Wk.st (x:=wR (F3 x h) (x.Roots.set r h)) w1 s2.sr _ λc=>Q3,uM (x:=wR (F3 x h) (x.Roots.set r h)) s2.sr f2⟩
abbrev vk(x:Hp)(ts:List g5):Hp:=wQ x ⟨ts,x.Q.Cap⟩
noncomputable def xk(x:Hp)(ts:List g5)(h:Int):Hp:=aP (G9 (vk x ts) 5 h) h
section
variable{x:Hp}(hx:K1 x){t:g5}{ts:List g5}(hq:x.Q.L=t::ts)
include hx hq
theorem Et:kH (vk x ts):=by
 have h:=hx.sh;refine⟨h.sr,h.hr,h.r6,h.c6,h.cap,?_,λu hu=>h.tk u (by rw[hq];exact zo _ hu),?_,h.rt,h.fl,h.pr,λi hi=>?_⟩
 .have:=h.q30;rw[hq,zH] at this;show ts.length<=30;omega
 .have:=h.td;rw[hq,za9] at this;exact this.2
 .obtain⟨a,b,c,d,e⟩:=h.cl i hi;refine⟨a,b,c,d,λq=>⟨(e q).1,?_⟩⟩;have:=(e q).2;rw[zbh] at this |-;intro r;obtain⟨u,hu,k1,k2⟩:=gX.1 r;exact this (gX.2 ⟨u,by rw[hq];exact zo _ hu,k1,k2⟩)
theorem GR:aT (vk x ts) (if t.Kind=1 then [t.At] else []):=hx.fair.mv rfl (λ_ _=>rfl) λh _=>by
 unfold mb oJ px;dsimp only;rw[hq,mt];by_cases k:t.Kind=1
 .rw[zb k,zb (by simpa using k),zQ,G6,G6,I1 t.At (List.map _ _),I1 t.At [],J0];omega
 .rw[za k,za (by simpa using k),J0]
theorem Hz(hk:t.Kind≠1):K1 (vk x ts):=⟨Et hx hq,hx.wk,by have:=GR hx hq;rwa [za hk] at this⟩
theorem HQ(hk:t.Kind=1):t.At∈lv x.S/\(ob x.S t.At).Started=true:=by
 rcases (hx.sh.tk t (by rw[hq];exact zg ..)).2.2 with ⟨_,b,c⟩ | ⟨b,_⟩;·exact⟨b,c⟩
 .omega
theorem lO(hk:t.Kind=1):K1 (xk x ts t.At):=by
 have f:=GR hx hq;rw[zb hk] at f;obtain⟨a,b,c⟩:=YT (Et hx hq) (x:=vk x ts) hx.wk f (r:=5) (by decide) (.inr (HQ hx hq hk).1);exact⟨a.st _ λc=>Q3,b.st a.sr _ λc=>Q3,uM a.sr c⟩
omit hq in
theorem NK (hS:SL x) (h:Int):SL (xk x ts h):=by
 have k:=pP (x:=vk x ts) hx.sh.sr hS 5 h;exact Ec [h] (dx (x:=vk x ts) hx.sh.sr 5 h).sr k
omit hq in
theorem Vw (h:Int):Ks x.S (xk x ts h).S:=by
 have k:=dx (x:=vk x ts) hx.sh.sr 5 h;exact k.trans (Ed k.sr h)
omit hq in
theorem NJ (h:Int):(xk x ts h).Roots=x.Roots.set 5 h/\(xk x ts h).b7=x.b7/\(xk x ts h).T=x.T/\(xk x ts h).Q=⟨ts,x.Q.Cap⟩:=by
 obtain⟨a,b,c,d⟩:=Av (G9 (vk x ts) 5 h) h;obtain⟨a',b',c',d'⟩:=kf (vk x ts) 5 h;exact⟨a.trans a',b.trans b',c.trans c',d.trans d'⟩
omit hq in
theorem Vv (h:Int):Fw (vk x ts) (xk x ts h):=Fw.of ((GD (x:=vk x ts) hx.sh.sr 5 h).trans (Ee (dx (x:=vk x ts) hx.sh.sr 5 h).sr h)) (NJ hx h).2.2.2
end
def Gl(ps:List (List g9))(n:Int):List g9:=if n<0\/(ps.length:Int)<=n then [] else ps.getD n.toNat []
noncomputable def pre(x:Hp)(t:g5)(ts:List g5):Hp:=if t.Kind=1 then bN (xk x ts t.At) else vk x ts
noncomputable def WQ(ps:List (List g9))(x:Hp)(t:g5)(ts:List g5):Hp:=(runs (pre x t ts) (Gl ps t.Prog)).1
noncomputable def Lx(ps:List (List g9))(x:Hp)(t:g5)(ts:List g5):Hp:=if t.Kind=1 then bN (G9 (WQ ps x t ts) 5 0) else WQ ps x t ts
structure Oh (x:Hp):Prop where
 rt:K1 x
 sl:SL x
 zr:zr x = []
theorem XC.ok{x y:Hp}{o:g9}{v e:Int}(n:XC x o y v e):Oh y:=⟨n.rt,n.sl,n.zr⟩
theorem KI{x:Hp}(h:K1 x)(s:SL x):Oh (bN x):=⟨nR h,KJ h s,Cz h⟩
theorem PR{x:Hp}(hx:Oh x)(l:List g9)(hb:x.S.Serial+l.length<9223372036854775807):Oh (runs x l).1/\Fw x (runs x l).1/\(runs x l).1.S.Serial<=x.S.Serial+l.length/\(runs x l).2.length=l.length:=by
 have key:∀k,k<=l.length->Oh (runs x (l.take k)).1/\Fw x (runs x (l.take k)).1/\(runs x (l.take k)).1.S.Serial<=x.S.Serial+k/\(runs x (l.take k)).2.length=k:=by
  intro k;induction k with
  | zero=>exact λ_=>⟨hx,Fw.refl x,by show x.S.Serial<=_;omega,rfl⟩
  | succ k ih=>
   intro hk;obtain⟨a,b,c,d⟩:=ih (by omega);have hk':k<l.length:=by omega
   have n:=uA a.rt a.sl a.zr (by omega) l[k];rw[O4 hk',qF];exact⟨n.ok,b.trans (Vt a.rt a.sl a.zr (by omega) _),by have:=n.ev.s2;show (jv _ _).1.S.Serial<=_;omega,by simp[d]⟩
 have:=key l.length (zG _);rwa [zR] at this
section
variable{x:Hp}(hx:Oh x){t:g5}{ts:List g5}(hq:x.Q.L=t::ts)(ps:List (List g9))
include hx hq
theorem Io:Oh (pre x t ts):=by
 unfold pre;split
 .rename_i k;exact KI (lO hx.rt hq k) (NK hx.rt hx.sl _)
 .rename_i k;exact⟨Hz hx.rt hq k,hx.sl,hx.zr⟩
theorem WC:Fw (vk x ts) (pre x t ts):=by
 unfold pre;split
 .rename_i k;exact (Vv hx.rt _).trans (El (lO hx.rt hq k))
 .exact Fw.refl _
theorem DO:(pre x t ts).S.Serial=x.S.Serial:=by
 unfold pre;split
 .rename_i k;rw[(mB (lO hx.rt hq k)).bC,(Vw hx.rt _).bC]
 .rfl
variable(hb:x.S.Serial+(Gl ps t.Prog).length<9223372036854775807)
include hb
theorem DY:Oh (WQ ps x t ts)/\Fw (vk x ts) (WQ ps x t ts)/\(WQ ps x t ts).S.Serial<=x.S.Serial+(Gl ps t.Prog).length:=by
 have e:=DO hx hq;obtain⟨a,b,c,_⟩:=PR (Io hx hq) (Gl ps t.Prog) (by rw[e];exact hb);exact⟨a,(WC hx hq).trans b,by rw[e] at c;exact c⟩
theorem RS:Oh (Lx ps x t ts)/\Fw (vk x ts) (Lx ps x t ts)/\(Lx ps x t ts).S.Serial<=x.S.Serial+(Gl ps t.Prog).length/\(t.Kind=1->sd (Lx ps x t ts) 5=0):=by
 obtain⟨a,b,c⟩:=DY hx hq ps hb;unfold Lx;split
 .have hz:=bZ a.rt (r:=5) (by decide) (h:=0) (.inl rfl);have k:=dx a.rt.sh.sr 5 0;refine⟨KI hz (pP a.rt.sh.sr a.sl 5 0),(b.trans (ke a.rt.sh.sr 5 0)).trans (El hz),?_,λ_=>(wg a.rt (a:=5) (by decide) (h:=0) (.inl rfl)).1⟩;rw[(mB hz).bC,k.bC];exact c
 .exact⟨a,b,c,λq=>absurd q (by assumption)⟩
end
def BT(ps:List (List g9))(t:g5):Int:=1+((Gl ps t.Prog).length:Int)
def can(ps:List (List g9))(p:Hp × Int):Prop:=∃t ts,p.1.Q.L=t::ts/\BT ps t<=p.2
noncomputable def Wm(ps:List (List g9))(p:Hp × Int):Hp × Int:=match p.1.Q.L with
 | []=>p
 | t::ts=>if BT ps t<=p.2 then (Lx ps p.1 t ts,p.2-BT ps t) else p
noncomputable def dN(ps:List (List g9)):Nat->Hp × Int->Hp × Int
 | 0,p=>p
 | n+1,p=>dN ps n (Wm ps p)
section
variable(ps:List (List g9))
theorem tv(n:Nat)(p:Hp × Int):dN ps (n+1) p=Wm ps (dN ps n p):=by
 induction n generalizing p with
 | zero=>rfl
 | succ n ih=>exact ih (Wm ps p)
theorem SH{p:Hp × Int}(h:p.1.Q.L = []):Wm ps p=p:=by unfold Wm;rw[h]
theorem pH{p:Hp × Int}{t:g5}{ts:List g5}(h:p.1.Q.L=t::ts):Wm ps p=if BT ps t<=p.2 then (Lx ps p.1 t ts,p.2-BT ps t) else p:=by unfold Wm;rw[h]
theorem Fe{p:Hp × Int}{t:g5}{ts:List g5}(h:p.1.Q.L=t::ts):can ps p↔BT ps t<=p.2:=by
 constructor
 .rintro⟨u,us,e,c⟩;rw[h] at e;injection e with e1 e2
  rw[e1];exact c
 .exact λc=>⟨t,ts,h,c⟩
theorem tu(t:g5):1<=BT ps t:=by unfold BT;omega
theorem Jx{p:Hp × Int}(hb:0<=p.2):∃n:Nat,(n:Int)<=p.2/\¬can ps (dN ps n p)/\∀j,j<n->can ps (dN ps j p):=by
 have key:∀m:Nat,(∃n:Nat,n<=m/\¬can ps (dN ps n p))\/((dN ps m p).2+m<=p.2/\0<=(dN ps m p).2):=by
  intro m;induction m with
  | zero=>exact .inr ⟨by show p.2+((0:Nat):Int)<=_;omega,hb⟩
  | succ m ih=>
   rcases ih with ⟨n,h1,h2⟩ | ⟨h1,h2⟩;·exact .inl ⟨n,by omega,h2⟩
   .by_cases q:can ps (dN ps m p)
    .right;obtain⟨t,ts,e,c⟩:=q;have:=tu ps t;rw[tv,pH ps e,zb c];dsimp only;omega
    .exact .inl ⟨m,by omega,q⟩
 have hex:∃n:Nat,(n:Int)<=p.2/\¬can ps (dN ps n p):=by
  rcases key (p.2.toNat+1) with ⟨n,h1,h2⟩ | ⟨h1,h2⟩
  .rcases zF n (p.2.toNat+1) with q | q
   .exact⟨n,by omega,h2⟩
   .have hn:n=p.2.toNat+1:=by omega
    rcases key p.2.toNat with ⟨n,h1,h2⟩ | ⟨h1,h3⟩;·exact⟨n,by omega,h2⟩
    .refine⟨p.2.toNat,by omega,λ⟨t,ts,e,c⟩=>?_⟩;have:=tu ps t;omega
  .omega
 obtain⟨n,⟨hn,hz⟩,hmin⟩:=dT hex;refine⟨n,hn,hz,λj hj=>pi λq=>?_⟩;have:=hmin j ⟨by omega,q⟩;omega
theorem CY{p:Hp × Int}(hx:Oh p.1)(hb:0<=p.2)(hs:p.1.S.Serial+p.2<9223372036854775807):∀n,Oh (dN ps n p).1/\0<=(dN ps n p).2/\(dN ps n p).2<=p.2/\(dN ps n p).1.S.Serial+(dN ps n p).2<=p.1.S.Serial+p.2
 | 0=>⟨hx,hb,zag _,zag _⟩
 | n+1=>by
  obtain⟨a,b,c,d⟩:=CY hx hb hs n;rw[tv];cases e:(dN ps n p).1.Q.L with
  | nil=>rw[SH ps e];exact⟨a,b,c,d⟩
  | cons t ts=>
   rw[pH ps e];split
   .rename_i q;have q2:=q;unfold BT at q2;obtain⟨r1,_,r3,_⟩:=RS a e ps (by omega);refine⟨r1,?_,?_,?_⟩;·dsimp only;omega
    .have:=tu ps t;dsimp only;omega
    .dsimp only;unfold BT;omega
   .exact⟨a,b,c,d⟩
end
noncomputable def dn(ps:List (List g9))(p:Hp × Int):Nat:=if h:0<=p.2 then Classical.choose (Jx ps h) else 0
theorem JA(ps:List (List g9)){p:Hp × Int}(h:0<=p.2):(dn ps p:Int)<=p.2/\¬can ps (dN ps (dn ps p) p)/\∀j,j<dn ps p->can ps (dN ps j p):=by
 unfold dn;rw[dif_pos h];exact zaz (Jx ps h)
noncomputable def dr(ps:List (List g9))(p:Hp × Int):Hp × Int:=dN ps (dn ps p) p
theorem Ya(ps:List (List g9)){x:Hp}{f:Int}(hx:Oh x)(hf:0<=f)(hs:x.S.Serial+f<9223372036854775807):Oh (dr ps (x,f)).1/\0<=(dr ps (x,f)).2/\(dr ps (x,f)).2<=f/\(dr ps (x,f)).1.S.Serial+(dr ps (x,f)).2<=x.S.Serial+f:=CY ps (p:=(x,f)) hx hf hs _
section
variable{x:Hp}(hx:kH x)(hS:∀k∈lv x.S,(ob x.S k).Strong<=9223372036854775807)
include hx hS
theorem VY{h:Int}(hh:h=0\/h∈lv x.S):h<=9223372036854775807:=by
 rcases hh with q | q
 .omega
 .have:=I7 hx.sr q;omega
theorem PK(k:Int){h:Int}(hh:h<=9223372036854775807):cD x k h=some (if k<0\/5<k then (x,6) else if h=0\/h∈lv x.S then (G9 x k.toNat h,0) else (x,3)):=by
 have hR:=hx.sr;have r6:=hx.r6;unfold cD;by_cases hk:k<0\/5<k
 .rw[zb hk,zb (by rw[r6];simp;omega)]
 .rw[za hk,za (by rw[r6];simp;omega),O2 hR hh,a0A];by_cases hn:h=0\/h∈lv x.S
  .rw[zb hn,zE hn,za (by simp)];obtain⟨n,rfl⟩:∃n:Nat,k=n:=⟨k.toNat,by omega⟩;have hn6:n<6:=by omega
   have hnl:n<x.Roots.length:=by omega
   have old:x.Roots[n]<=9223372036854775807:=VY hx hS (hx.rt _ (zh hnl));have e1:=uP x h;have hn2:n<(F3 x h).Roots.length:=by rw[e1.1];exact hnl
   rw[u4 hnl,a0A];unfold H5 U2 y7;rw[mr hR hh hS,a0A];dsimp only;rw[cu (by omega) (by rw[e1.1];omega),a0A,u4 hn2,a0A,a0A];have hrel:=gA (x:=wR (F3 x h) (x.Roots.set n h)) (kg hR h) old;rw[zT,e1.1,show E8 ⟨(F3 x h).S,x.Roots.set n h,(F3 x h).b7,(F3 x h).T,(F3 x h).Q⟩ x.Roots[n]=_ from hrel];unfold G9;rw[zd,zc hnl];rfl
  .rw[za hn,zZ hn,zb (by simp)]
end
theorem vZ(ps:List (List g9))(n:Int):dS ps n=some (Gl ps n):=by
 unfold dS Gl;by_cases h:n<0\/(ps.length:Int)<=n
 .rw[zb (by simpa using h),zb h]
 .rw[za (by simpa using h),za h];obtain⟨k,rfl⟩:∃k:Nat,n=k:=⟨n.toNat,by omega⟩;have hk:k<ps.length:=by omega
  rw[u4 hk,a0A,zT,zd,zc hk];rfl
abbrev WG(ps:List (List g9)):List (List B1):=ps.map (List.map Zu)
def Mp(ps:List (List g9)):Prop:=∀p∈ps,p.length<=6
theorem DP{ps:List (List g9)}(h:Mp ps)(n:Int):(Gl ps n).length<=6:=by
 unfold Gl;split;·simp
 .rename_i q;have hk:n.toNat<ps.length:=by omega
  rw[zd,zc hk];exact h _ (zh hk)
theorem xJ{ps:List (List g9)}(h:Mp ps)(t:g5):bR ps t=some (BT ps t):=by
 have:=DP h t.Prog;unfold bR BT;rw[vZ,a0A,V3 (by omega) (by omega)]
theorem HJ(x:Hp):hZ x=some (x.Q.L.isEmpty):=by
 unfold hZ;rw[AJ,a0A];unfold TK;cases x.Q.L <;> rfl
section
variable{x:Hp}(hx:Oh x){t:g5}{ts:List g5}(hq:x.Q.L=t::ts){ps:List (List g9)}(hm:Mp ps)(hb:x.S.Serial<9000000000000000000)
include hx hq hm hb
theorem Qk:nf x ps=some (Lx ps x t ts,t,0):=by
 have fk:=DP hm t.Prog;have pok:=Io hx hq;have pser:=DO hx hq;obtain⟨rok,_,_⟩:=DY hx hq ps (by omega);have hrun:=(run_eq pok.rt pok.sl pok.zr (Gl ps t.Prog) (by omega) (by rw[pser];omega)).1;have hrun':ij (pre x t ts) (Gl ps t.Prog)=some (WQ ps x t ts,(runs (pre x t ts) (Gl ps t.Prog)).2):=hrun;have hz:=bZ rok.rt (r:=5) (by decide) (h:=0) (.inl rfl);have zS:=pP rok.rt.sh.sr rok.sl 5 0;unfold nf;rw[AJ,a0A];have e:TK x.Q=(⟨ts,x.Q.Cap⟩,t,0):=by unfold TK;rw[hq]
 rw[e];dsimp only;rw[za (by simp)];simp only[jn];by_cases k:t.Kind=1
 .have hk:(t.Kind==1)=true:=by simpa using k
  have hat:=(HQ hx.rt hq k).1;have ush:=Et hx.rt hq;have hm1:=rB hx.rt.sh.sr hat;have e1:cD ⟨x.S,x.Roots,x.b7,x.T,⟨ts,x.Q.Cap⟩⟩ 5 t.At=some (G9 (vk x ts) 5 t.At,0):=by
   have:=PK (x:=vk x ts) ush hx.sl 5 hm1;rw[za (by omega),zb (.inr hat)] at this;exact this
  have e2:E8 (G9 (vk x ts) 5 t.At) t.At=some (xk x ts t.At):=gA (dx (x:=vk x ts) hx.rt.sh.sr 5 t.At).sr hm1;have e3:=jC (lO hx.rt hq k) (NK hx.rt hx.sl t.At);have e4:pre x t ts=bN (xk x ts t.At):=by unfold pre;rw[zb k]
  have e5:=KE rok.rt rok.sl 5 (h:=0) (by decide);rw[za (by omega),zb (.inl rfl)] at e5;rw[zb hk,e1,a0A];dsimp only;rw[e2,a0A,e3,a0A,vZ,a0A,<-e4,hrun',a0A,zb hk];dsimp only;rw[e5,a0A];refine sQ (jC hz zS) ?_;unfold Lx;rw[zb k];rfl
 .have hk:¬(t.Kind==1)=true:=by simpa using k
  have e4:pre x t ts=vk x ts:=by unfold pre;rw[za k]
  rw[za hk,vZ,a0A,show (⟨x.S,x.Roots,x.b7,x.T,⟨ts,x.Q.Cap⟩⟩:b9)=pre x t ts from e4.symm,hrun',a0A,za hk];unfold Lx;rw[za k]
end
section
variable{x:Hp}(hx:Oh x){ps:List (List g9)}(hm:Mp ps){f:Int}(hf:0<=f)(hf2:f<=1000000)(hb:x.S.Serial<8000000000000000000)
include hx hm hf hf2 hb
def Uq(p:Hp × Int):Int:=if p.1.Q.L.isEmpty then 0 else 12
theorem drain_eq:hU x ps f=some ((dr ps (x,f)).1,(dn ps (x,f):Int),(dr ps (x,f)).2,Uq (dr ps (x,f))):=by
 obtain⟨a1,a2,a3⟩:=JA ps (p:=(x,f)) hf;have all:=CY ps (p:=(x,f)) hx hf (by show x.S.Serial+f<_;omega);unfold hU;simp only[jn];dsimp only at a1;refine lS (λk=>((dN ps k (x,f)).2,(dN ps k (x,f)).1,(k:Int),(dN ps k (x,f)).2,(dN ps k (x,f)).1)) rfl (dn ps (x,f)) (λ_=>True) (by omega) trivial (λk hk _=>.inl ⟨?_,trivial⟩) (λ_=>⟨((dn ps (x,f):Int),(dr ps (x,f)).2,(dr ps (x,f)).1),?_,?_⟩)
 .obtain⟨b1,b2,b3,b4⟩:=all k;obtain⟨t,ts,e,c⟩:=a3 k hk;dsimp only at b2 b3 b4;have hc:=tu ps t;rw[HJ,e,a0A];show (bo _).bind _=_;rw[AJ,a0A];have e2:TK (dN ps k (x,f)).1.Q=(⟨ts,(dN ps k (x,f)).1.Q.Cap⟩,t,0):=by unfold TK;rw[e]
  rw[e2];dsimp only;rw[xJ hm,a0A,za (by simp;omega),Qk b1 e hm (by omega),a0A,V3 (by omega) (by omega),n9,tv,pH ps e,zb c]
 .rw[HJ,a0A];cases e:(dN ps (dn ps (x,f)) (x,f)).1.Q.L with
  | nil=>rfl
  | cons t ts=>
   have hc:¬BT ps t<=(dN ps (dn ps (x,f)) (x,f)).2:=λq=>a2 ((Fe ps e).2 q);show (bo _).bind _=_;rw[AJ,a0A];have e2:TK (dN ps (dn ps (x,f)) (x,f)).1.Q=(⟨ts,(dN ps (dn ps (x,f)) (x,f)).1.Q.Cap⟩,t,0):=by unfold TK;rw[e]
   rw[e2];dsimp only;rw[xJ hm,a0A,zb (by simp;omega)];rfl
 .dsimp only;rw[HJ,a0A];unfold Uq;cases (dr ps (x,f)).1.Q.L.isEmpty <;> rfl
end
theorem YA{l:List (List g9)}(h:fJ l=true):Mp l/\l.length<=6:=by
 unfold fJ at h;rw[zy,zC,zf] at h;refine⟨λp hp=>?_,h.1⟩;have:=h.2 p hp;unfold uD at this;rw[zy,zC] at this;exact this.1
noncomputable def eo(ps:List (List g9))(x:Hp)(o:g9):Hp × Int × Int:=
 if o.Kind=11 then (Be x,No x-((jI x).length:Int),0)
 else if o.Kind=12 then ((dr ps (x,o.A)).1,(dn ps (x,o.A):Int),Uq (dr ps (x,o.A)))
 else jv x o
noncomputable def er(ps:List (List g9))(x:Hp)(row:List Int):Hp × Int × Int:=if (bQ row).2≠0 then (x,0,(bQ row).2) else eo ps x (bQ row).1
noncomputable def iA(ps:List (List g9))(x:Hp)(rows:List (List Int)):Hp × List (Int × Int):=rows.foldl (λp r=>((er ps p.1 r).1,p.2 ++ [(er ps p.1 r).2])) (x,[])
theorem tE(ps:List (List g9))(x:Hp)(l:List (List Int))(r:List Int):iA ps x (l ++ [r])=((er ps (iA ps x l).1 r).1,(iA ps x l).2 ++ [(er ps (iA ps x l).1 r).2]):=by
 unfold iA;rw[zaj];rfl
theorem Dg(ps:List (List g9)):∀(l:List (List Int)) (x:Hp) (a:List (Int × Int)),l.foldl (λp r=>((er ps p.1 r).1,p.2 ++ [(er ps p.1 r).2])) (x,a)=((iA ps x l).1,a++(iA ps x l).2)
 | [],x,a=>by simp[iA]
 | r::l,x,a=>by
  unfold iA;rw[pm,pm,Dg ps l,Dg ps l _ ([]++_)];simp
theorem JC(ps:List (List g9))(x:Hp)(l m:List (List Int)):iA ps x (l++m)=((iA ps (iA ps x l).1 m).1,(iA ps x l).2++(iA ps (iA ps x l).1 m).2):=by
 have:iA ps x (l++m)=m.foldl (λp r=>((er ps p.1 r).1,p.2 ++ [(er ps p.1 r).2])) (iA ps x l):=by
  unfold iA;rw[zaj]
 rw[this];exact Dg ps m (iA ps x l).1 (iA ps x l).2
theorem xM(ps:List (List g9))(x:Hp)(l:List (List Int)):(iA ps x l).2.length=l.length:=by
 induction l generalizing x with
 | nil=>rfl
 | cons r l ih=>
  have:=JC ps x [r] l;rw[List.singleton_append] at this;rw[this,zJ,ih];show 1+l.length=l.length+1;omega
theorem Da{row:List Int}(h:(bQ row).2=0):y6 (bQ row).1.Kind (bQ row).1.A (bQ row).1.B (bQ row).1.C=0:=by
 unfold bQ at h |-;rcases four row with ⟨k,a,b,c,rfl⟩ | hl
 .rw[Jz,ul] at h |-;by_cases q:y6 k a b c≠0
  .rw[zb q] at h;exact absurd h q
  .rw[za q];exact Classical.not_not.1 q
 .rw[(Db hl).1,ul] at h;exact absurd h (by decide)
theorem Np{a b c:Int}(h:y6 12 a b c=0):0<=a/\a<=200:=Cd (by decide) (show Q1 a 0 200 12=0 from h)
section
variable{ps:List (List g9)}(hm:Mp ps){x:Hp}(hx:Oh x)(hb:x.S.Serial<7000000000000000000)
include hm hx hb
theorem Yb{o:g9}(ho:o.Kind=12->0<=o.A/\o.A<=200):Oh (eo ps x o).1/\(eo ps x o).1.S.Serial<=x.S.Serial+201:=by
 unfold eo;split
 .obtain⟨a,b,c⟩:=HF hx.rt hx.sl hx.zr;refine⟨⟨a,b,c⟩,?_⟩;show (Be x).S.Serial<=_;rw[RO hx.rt hx.sl hx.zr];omega
 .split
  .rename_i h;obtain⟨h0,h2⟩:=ho h;obtain⟨a,b,c,d⟩:=Ya ps hx h0 (by omega);exact⟨a,by show (dr ps (x,o.A)).1.S.Serial<=_;omega⟩
  .have n:=uA hx.rt hx.sl hx.zr (by omega) o;have:=n.ev.s2;exact⟨n.ok,by omega⟩
theorem Yc(row:List Int):Oh (er ps x row).1/\(er ps x row).1.S.Serial<=x.S.Serial+201:=by
 unfold er;split;·exact⟨hx,by show x.S.Serial<=_;omega⟩
 .rename_i h;have hc:=Da (Classical.not_not.1 h);refine Yb hm hx hb λhk=>?_;rw[hk] at hc;exact Np hc
end
theorem vz{ps:List (List g9)}(hm:Mp ps){x:Hp}(hx:Oh x):∀(l:List (List Int)),x.S.Serial+201*(l.length:Int)<7000000000000000000->Oh (iA ps x l).1/\(iA ps x l).1.S.Serial<=x.S.Serial+201*(l.length:Int):=by
 intro l;induction l generalizing x with
 | nil=>exact λ_=>⟨hx,by show x.S.Serial<=_;simp⟩
 | cons r l ih=>
  intro hb;rw[zH] at hb |-;obtain⟨a,b⟩:=Yc hm hx (by omega) r;obtain⟨c,d⟩:=ih a (by omega);have e:=JC ps x [r] l;rw[List.singleton_append] at e;rw[e];exact⟨c,by
   have:(iA ps (iA ps x [r]).1 l).1.S.Serial<=(er ps x r).1.S.Serial+201*(l.length:Int):=d;show (iA ps (iA ps x [r]).1 l).1.S.Serial<=_;omega⟩
noncomputable def TF(x:Hp):List Int:=(lv x.S).map λh=>bC x h
inductive Fm (x:Hp) (o:g9) (z:Hp) (v:Int):Prop
 | new (i:Nat) (hF:XO x.S i) (hk:o.Kind=1) (ha:0<=o.A/\o.A<=5) (hn:o.B.toNat<=4) (hc : -1<=o.C/\o.C<=5) (hv:v=x.S.Serial+1) (hz:z=G9 (wS x (dI x.S i o.B.toNat o.C)) o.A.toNat (cy x.S i)):Fm x o z v
 | root (h:Int) (hk:o.Kind≠1) (ha:0<=o.A/\o.A<=5) (hh:h=0\/h∈lv x.S) (hz:z=G9 x o.A.toNat h):Fm x o z v
 | field (h:Int) (n:Nat) (u:Int) (hk:o.Kind=5) (hl:h∈lv x.S) (hn:n<(ob x.S h).Fields.length) (hu:u=0\/u∈lv x.S) (hz:z=bS x h n u):Fm x o z v
 | weak (h:Int) (hk:o.Kind=6) (ha:0<=o.A/\o.A<=5) (hc : -1<=o.C/\o.C<=5) (hh:h=0\/h∈lv x.S) (hw:xe x.Q o.A=false) (hz:z=cW x o.A.toNat h o.C):Fm x o z v
 | pair (h u:Int) (r:Tb × Int × Int) (hk:o.Kind=8) (hl:h∈lv x.S) (hu:u=0\/u∈lv x.S) (hr:V5 x.T h u=some r) (h0:r.2.2=0) (hz:z=ja x u r.1 r.2.1):Fm x o z v
 | same (hk:o.Kind=10) (hz:z=x):Fm x o z v
theorem Fm.ks{x z:Hp}{o:g9}{v:Int}(hx:K1 x)(f:Fm x o z v)(hk:o.Kind≠1):Ks x.S z.S:=by
 have hR:=hx.sh.sr;cases f with
 | new i hF hk'=>exact absurd hk' hk
 | root h _ ha hh hz=>rw[hz];exact dx hR _ _
 | field h n u _ hl hn hu hz=>rw[hz];exact BV hR hl hn u
 | weak h _ ha hc hh hw hz=>rw[hz];exact GU hx (by omega) h _
 | pair h u r _ hl hu hr h0 hz=>rw[hz];exact Gi hR u _ _
 | same _ hz=>rw[hz];exact Ks.refl hR
def Zi(p:Int × Int):g7:=⟨p.1,p.2⟩
section
variable{ps:List (List g9)}(hm:Mp ps){x:Hp}(hx:Oh x)(hb:x.S.Serial<7000000000000000000)
include hm hx hb
theorem Vf : -24<=No x-((jI x).length:Int)/\No x-((jI x).length:Int)<=24:=by
 have h1:=Jr hx.rt hx.sl hx.zr;have h2:(lv x.S).length<=24:=N3 (A3.2 hx.rt.sh.sr);obtain⟨c1,_,_⟩:=HF hx.rt hx.sl hx.zr;have h3:(lv (Be x).S).length<=24:=N3 (A3.2 c1.sh.sr);unfold No;split
 .rename_i e;rw[e];simp;omega
 .omega
theorem edo(row:List Int):qs ⟨x,ps⟩ row=some (⟨(er ps x row).1,ps⟩,Zi (er ps x row).2):=by
 unfold qs;rw[(Fo row).1,a0A];unfold er;by_cases h:(bQ row).2=0
 .rw[za (show ¬(((bQ row).2 != 0)=true) by simp[h]),za (show ¬((bQ row).2≠0) by simp[h])];have hc:=Da h;generalize (bQ row).1=o at hc;unfold nh eo;by_cases k11:o.Kind=11
  .rw[zb (by simp[k11]),zb k11];refine zcw (b:=(aV x).bind λv4=>some (⟨v4.1,ps⟩,⟨x4 (v4.2.2-v4.2.1),0⟩)) rfl ?_;obtain⟨b1,b2⟩:=Vf hm hx hb;rw[Vo hx.rt hx.sl hx.zr,a0A];dsimp only;rw[V3 (by omega) (by omega)];rfl
  .rw[za (by simp[k11]),za k11];by_cases k12:o.Kind=12
   .rw[zb (by simp[k12]),zb k12];refine zcw (b:=(hU x ps o.A).bind λv5=>some (⟨v5.1,ps⟩,⟨v5.2.1,v5.2.2.2⟩)) rfl ?_;rw[k12] at hc;obtain⟨a0,a2⟩:=Np hc;rw[drain_eq hx hm a0 (by omega) (by omega),a0A];rfl
   .rw[za (by simp[k12]),za k12];refine zcw (b:=(u6 x o).bind λv3=>some (⟨v3.1,ps⟩,⟨v3.2.1,v3.2.2⟩)) rfl ?_;rw[(uA hx.rt hx.sl hx.zr (by omega) o).mc,a0A];rfl
 .rw[zb (by simpa using h),zb h];rfl
end
section
variable{ps:List (List g9)}(hm:Mp ps){x:Hp}(hx:Oh x)
include hm hx
theorem Qf{rows:List (List Int)}{k:Nat}(hk:k<rows.length):iA ps x (rows.take (k+1))=((er ps (iA ps x (rows.take k)).1 rows[k]).1,(iA ps x (rows.take k)).2 ++ [(er ps (iA ps x (rows.take k)).1 rows[k]).2]):=by
 rw[zt hk,tE]
theorem ZN(rows:List (List Int))(hl:rows.length<=1000)(hb:x.S.Serial<6000000000000000000):ng ⟨x,ps⟩ rows=some (⟨(iA ps x rows).1,ps⟩,(iA ps x rows).2.map Zi):=by
 unfold ng;simp only[jn];refine Z0 rows.length (λk s=>s=((⟨(iA ps x (rows.take k)).1,ps⟩:s7),(iA ps x (rows.take k)).2.map Zi)) (by omega) rfl (λk s hk hs=>.inl ⟨_,?_,rfl⟩) (λs hs=>⟨s,za (by simp),by rw[hs,zR]⟩);subst hs;obtain⟨o1,o2⟩:=vz hm hx (rows.take k) (by simp;omega);have hlen:=xM ps x (rows.take k);have hkl:(rows.take k).length=k:=by simp;omega
 dsimp only;rw[zb (by simpa using hk),u4 hk,a0A,edo hm o1 (by rw[hkl] at o2;omega),a0A,I6 (by omega) (by simp[hlen];omega),a0A,n9,Qf hm hx hk];simp
end
section
variable{ps:List (List g9)}{x:Hp}(hx:K1 x)
include hx
end
theorem Rs.oh{x:Hp}{n:Nat}(h:Rs x n):Oh x:=⟨h.rt,h.sl,h.zr⟩
theorem YF{n last places:Int}{ps:List (List g9)}(hl:ps.length<=12)(hp:∀p∈ps,p.length<=12) :
  (∃e,U1 n last places ps=some (⟨Sc,[]⟩,e)/\DV n last places (WG ps)=some (⟨hO Sc,[]⟩,e)/\(e=13\/e=1/\¬((1<=n/\n<=24)/\(0<=last/\last<=9)/\1<=places/\places<=8))) \/
  (∃k p:Nat,n=k/\places=p/\(1<=k/\k<=24)/\Mp ps/\Rs (rE k last p) 0/\U1 n last places ps=some (⟨rE k last p,ps⟩,0)/\DV n last places (WG ps)=some (⟨hO (rE k last p),WG ps⟩,0)):=by
 have e1:gm ps=some (fJ ps):=Gm (by omega) hp;have e2:qz (WG ps)=some (fJ ps):=Iq (by omega) hp;unfold U1 DV;rw[e1,e2,a0A,a0A];cases hq:fJ ps;·exact .inl ⟨13,rfl,rfl,.inl rfl⟩
 .simp only[zbn,zD,q9];by_cases h:(1<=n/\n<=24)/\(0<=last/\last<=9)/\1<=places/\places<=8
  .right;obtain⟨h1,h2,h3⟩:=h;obtain⟨k,rfl⟩:∃k:Nat,n=k:=⟨n.toNat,by omega⟩;obtain⟨p,rfl⟩:∃p:Nat,places=p:=⟨places.toNat,by omega⟩;obtain⟨a1,a2,hx,hS,hz⟩:=Oc (k:=k) (p:=p) (l:=last) (by omega) h2 (by omega);refine⟨k,p,rfl,rfl,by omega,(YA hq).1,⟨hx,hS,hz,zag _⟩,?_,?_⟩
   .rw[a1,a0A,hx.sh.r6];rfl
   .rw[a2,a0A,show (hO (rE k last p)).Roots.length=6 from hx.sh.r6];rfl
  .left;have a1:lR n last places=some Sc:=by
    unfold lR;rw[zb (by simp;omega)];rfl
   have a2:uH n last places=some (hO Sc):=by
    unfold uH;rw[zb (by simp;omega)];rfl
   refine⟨1,?_,?_,.inr ⟨rfl,h⟩⟩;·rw[a1];rfl
   .rw[a2];rfl
theorem Pq{x:Hp}(hx:K1 x)(hS:SL x){k v e:Int}(hk:k∈lv x.S)(hv:v=0\/v∈lv x.S)(h:cC x k v=some (x,e))(he:e≠0):e=8:=by
 have hR:=hx.sh.sr;have k0:k≠0:=λq=>fp hR (q▸hk);unfold cC at h;rw[za (by simpa using k0),O2 hR (ug hx hS (.inr hk)),a0A,O2 hR (ug hx hS hv),zE (.inr hk),zE hv] at h;simp only[zbn,zW,bK,a0A,zcv,zD,q9] at h;obtain⟨r,r1,_,_,r5⟩:=eh hx.sh.hr k v;rw[r1,a0A] at h;by_cases h0:r.2.2=0
 .have e1:(r.2.2 != 0)=false:=by simpa using h0
  rw[e1,za (by simp)] at h;cases q:E5 x r.2.1 v ⟨r.1⟩ with
  | none=>rw[q] at h;cases h
  | some w=>
   rw[q,a0A] at h;exact absurd (zP (λp=>p.2) (zK h)).symm he
 .rw[zb (by simpa using h0)] at h;have:r.2.2=e:=zP (λp=>p.2) (zK h);rcases r5 with ⟨q,rfl⟩ | ⟨_,_,⟨i,hi,rfl⟩ | ⟨_,rfl⟩⟩ | ⟨_,_,⟨i,hi,rfl⟩ | ⟨d,_,_,_,_,rfl⟩ | ⟨_,_,rfl⟩⟩;·exact absurd q k0
  .exact absurd rfl h0
  .exact absurd rfl h0
  .exact absurd rfl h0
  .exact absurd rfl h0
  .exact this.symm
theorem Ft{s:b6}(hR:SR s){h:Int}(hh:h∈lv s){n:Nat}(hn:n<(ob s h).Fields.length):K7 s h n=some ((ob s h).Fields[n],0):=by
 unfold K7;rw[vH (A3.2 hR) hh,a0A,za (by simp),at1 hn];rfl
section
variable{x:Hp}(hB:HB x)
include hB
end
theorem GW{x:Hp}(hx:K1 x){k h c e:Int}(hk:0<=k/\k<=5)(hh:h=0\/h∈lv x.S)(hm:h<=9223372036854775807)(hc : -1<=c/\c<=5)(q:T7 x k h c=some (x,e))(he:e≠0):e=7:=by
 have hR:=hx.sh.sr;have c6:=hx.sh.c6;have q30:=hx.sh.q30;obtain⟨n,rfl⟩:∃n:Nat,k=n:=⟨k.toNat,by omega⟩;unfold T7 at q;have e1:((decide ((n:Int)<0))||(decide ((n:Int)>=(x.b7.length:Int))))=false:=by rw[c6];simp;omega
 rw[e1] at q;simp only[zW,bK,zcb] at q;have hwq:aS x.Q n=some (xe x.Q n):=xX (by omega);rw[hwq,a0A,O2 hR hm,a0A,zE hh] at q;cases hw:xe x.Q n
 .rw[hw,za (by decide),za (by decide)] at q;cases g1:km x.b7 n h c with
  | none=>rw[g1] at q;cases q
  | some a=>
   rw[g1,a0A] at q;cases g2:aA ⟨x.S,x.Roots,a.1,x.T,x.Q⟩ h 1 with
   | none=>rw[g2] at q;cases q
   | some b=>
    rw[g2,a0A] at q;cases g3:bg b a.2.1 with
    | none=>rw[g3] at q;cases q
    | some d=>
     rw[g3,a0A] at q;exact absurd (zP (λp=>p.2) (zK q)).symm he
 .rw[hw,zb rfl] at q;exact (zP (λp=>p.2) (zK q)).symm
section
variable{x:Hp}(hB:HB x)
include hB
end
theorem XU(l:List k8)(h:l.length<=1000):qO l=some (l.map XM):=by
 unfold qO;simp only[jn];have e:=jR (b:=24) XM l (by omega) (by omega);simp only[XM] at e;rw[e];rfl
theorem YX(q:TQ)(h:q.L.length<=1000):qQ q=some (Xu q):=by
 unfold qQ;simp only[jn];have e:=jR (b:=24) YW q.L (by omega) (by omega);simp only[YW] at e;rw[e];rfl
structure Gd (σ:Int->Int) (s:b6):Prop where
 z:σ 0=0
 f:∀h i,U9 s h i->σ h=(ce s i).Val.Serial
def nd(σ:Int->Int)(s:b6)(i:Nat):b8:=⟨(ce s i).Val.Serial,i,(ce s i).Val.Prog,(ce s i).Val.Started,decide ((ce s i).State=1),decide (12<=(ce s i).Val.Strong),(ce s i).Val.Fields.map σ⟩
structure Sn (σ:Int->Int) (s:b6) (l:List b8):Prop where
 up:l.Pairwise λa b=>a.Serial<b.Serial
 mem:∀n,n∈l↔∃i,i<s.S.b7.length/\Th (ce s i)/\n=nd σ s i
def PZ(c:c9):Int:=if Th c then c.Val.Serial else if c.State=3 then -1 else 0
def wx(σ:Int->Int)(c:k8):k8:=⟨σ c.Target,c.Intact,c.Call⟩
def tx(σ:Int->Int)(t:g5):g5:=if t.Kind=1 then ⟨1,σ t.At,t.Prog⟩ else t
structure p8 (σ:Int->Int) (x:Hp) (m:a8):Prop where
 gd:Gd σ x.S
 nd:Sn σ x.S m.Nodes
 sl:m.Slots=(List.range x.S.S.b7.length).map λi=>PZ (Sh.ce x.S i)
 ge:m.Gens=(List.range x.S.S.b7.length).map λi=>(Sh.ce x.S i).Gen
 la:m.Last=x.S.S.Last
 npl:m.Places=x.T.length
 se:m.Serial=x.S.Serial
 ro:m.Roots=x.Roots.map σ
 ce:m.b7=x.b7.map (wx σ)
 p1:m.Pairs.Pairwise λa b=>a.Key≠b.Key
 p2:∀p,p∈m.Pairs↔∃k v,Has x.T k v/\p=⟨σ k,σ v⟩
 tk:m.Tasks=x.Q.L.map (tx σ)
section
variable{σ:Int->Int}{s:b6}(hR:SR s)(g:Gd σ s)
include hR g
theorem Gd.lv{h:Int}(hh:h∈lv s):σ h=(ob s h).Serial:=by
 have q:=o5 hR hh;rw[G2 hR q,g.f h _ q.d]
theorem Gd.pos{h:Int}{i:Nat}(q:U9 s h i):1<=σ h/\σ h<=s.Serial:=by
 rw[g.f h i q];exact⟨(hR.ok i q.1 q.2.1).s1,(hR.ok i q.1 q.2.1).s2⟩
theorem Gd.inj{h k:Int}{i j:Nat}(q:U9 s h i)(p:U9 s k j)(e:σ h=σ k):h=k:=by
 rw[g.f h i q,g.f k j p] at e;have:=hR.dif i j q.1 p.1 q.2.1 p.2.1 e;subst this;rw[q.2.2,p.2.2]
theorem Gd.inl{h k:Int}(hh:h∈Sh.lv s)(hk:k∈Sh.lv s)(e:σ h=σ k):h=k:=g.inj hR (o5 hR hh).d (o5 hR hk).d e
theorem Gd.ps{h:Int}(hh:h∈Sh.lv s):1<=σ h/\σ h<=s.Serial:=g.pos hR (o5 hR hh).d
theorem Gd.XH{h k:Int}(hh:h=0\/∃i,U9 s h i)(hk:k=0\/∃i,U9 s k i)(e:σ h=σ k):h=k:=by
 rcases hh with e1 | ⟨i,q⟩ <;> rcases hk with e2 | ⟨j,p⟩
 .rw[e1,e2]
 .subst e1;rw[g.z] at e;have:=g.pos hR p;omega
 .subst e2;rw[g.z] at e;have:=g.pos hR q;omega
 .exact g.inj hR q p e
theorem Gd.zero{h:Int}(hh:h=0\/∃i,U9 s h i):σ h=0↔h=0:=by
 refine⟨λe=>g.XH hR hh (.inl rfl) (e.trans g.z.symm),λe=>?_⟩;subst e;exact g.z
theorem Oy{h:Int}(hh:h=0\/h∈Sh.lv s):h=0\/∃i,U9 s h i:=hh.imp id λq=>⟨_,(o5 hR q).d⟩
theorem xY{l:List Int}(hl:∀v∈l,v=0\/v∈Sh.lv s){h:Int}(hh:h∈Sh.lv s):R4 (l.map σ) (σ h)=R4 l h:=by
 have p:=g.ps hR hh;have p0:=(I7 hR hh).1;unfold R4;rw[za (by omega),za (by omega)];induction l with
 | nil=>rfl
 | cons v l ih=>
  rw[zQ,zct,zct,ih λu hu=>hl u (zo _ hu)];congr 1;by_cases e:v=h
  .subst e;simp
  .have:σ v≠σ h:=λe'=>e (g.XH hR (Oy hR g (hl v zg)) (.inr ⟨_,(o5 hR hh).d⟩) e');simp[e,this]
end
section
variable{σ:Int->Int}{s:b6}(hR:SR s){l:List b8}(q:Sn σ s l)
include hR q
theorem Sn.one{n m:b8}(hn:n∈l)(hm:m∈l)(e:n.Serial=m.Serial):n=m:=by
 obtain⟨i,hi,ti,rfl⟩:=(q.mem n).1 hn;obtain⟨j,hj,tj,rfl⟩:=(q.mem m).1 hm;have:=hR.dif i j hi hj ti tj e;rw[this]
theorem Sn.at{i:Nat}(hi:i<s.S.b7.length)(ht:Th (ce s i)):Sh.nd σ s i∈l:=(q.mem _).2 ⟨i,hi,ht,rfl⟩
theorem Sn.pos{n:b8}(hn:n∈l):1<=n.Serial/\n.Serial<=s.Serial:=by
 obtain⟨i,hi,ti,rfl⟩:=(q.mem n).1 hn;exact⟨(hR.ok i hi ti).s1,(hR.ok i hi ti).s2⟩
theorem Sn.len:l.length<=24:=by
 have h1:(l.map (·.Slot)).Nodup:=by
  rw[List.Nodup,zbt];refine zbp (λ{a b} ha hb h=>?_) q.up;obtain⟨i,hi,ti,rfl⟩:=(q.mem a).1 ha;obtain⟨j,hj,tj,rfl⟩:=(q.mem b).1 hb;intro e;have:i=j:=by
   have:(i:Int)=(j:Int):=e;omega
  subst this;exact absurd h (zbo _)
 have h2:∀v∈l.map (·.Slot),v∈(List.range s.S.b7.length).map λi:Nat=>(i:Int):=λv hv=>by
  obtain⟨n,hn,rfl⟩:=zq.1 hv;obtain⟨i,hi,ti,rfl⟩:=(q.mem n).1 hn;exact zq.2 ⟨i,za6.2 hi,rfl⟩
 have:=ai h1 h2;rw[zl,zl,zca] at this;have:=hR.len;omega
theorem Sn.alive:l.filter (·.Alive)=(lv s).map λh=>Sh.nd σ s (E3 h):=by
 have key:∀(a b:List b8),a.Pairwise (λu v=>u.Serial<v.Serial)->b.Pairwise (λu v=>u.Serial<v.Serial)->(∀n,n∈a↔n∈b)->a=b:=by
  intro a;induction a with
  | nil=>intro b _ _ h;cases b with
   | nil=>rfl
   | cons y b=>exact absurd ((h y).2 zg) (by simp)
  | cons x a ih=>
   intro b ha hb h;cases b with
   | nil=>exact absurd ((h x).1 zg) (by simp)
   | cons y b=>
    rw[za9] at ha hb;have e:x=y:=by
     rcases zM.1 ((h x).1 zg) with e | e
     .exact e
     .rcases zM.1 ((h y).2 zg) with e' | e'
      .exact e'.symm
      .have:=hb.1 x e;have:=ha.1 y e';omega
    subst e;congr 1;refine ih b ha.2 hb.2 λn=>⟨λhn=>?_,λhn=>?_⟩
    .rcases zM.1 ((h n).1 (zo _ hn)) with e | e
     .subst e;have:=ha.1 n hn;omega
     .exact e
    .rcases zM.1 ((h n).2 (zo _ hn)) with e | e
     .subst e;have:=hb.1 n hn;omega
     .exact e
 refine key _ _ (q.up.filter _) ?_ λn=>?_
 .rw[zbt];refine zbp (λ{a b} ha hb h=>?_) (nv (A3.2 hR)).2.2;show (ce s (E3 a)).Val.Serial<(ce s (E3 b)).Val.Serial;rwa [Jq hR (o5 hR ha),Jq hR (o5 hR hb)] at h
 .rw[zi,zq];constructor
  .rintro⟨hn,ha⟩;obtain⟨i,hi,ti,rfl⟩:=(q.mem n).1 hn;have h1:(ce s i).State=1:=by simpa[Sh.nd] using ha
   have hA:At s (cy s i) i:=⟨hi,h1,rfl⟩;exact⟨cy s i,(ig hR).2 ⟨i,hA⟩,by rw[hA.d.E3 hR]⟩
  .rintro⟨h,hh,rfl⟩;have hA:=o5 hR hh;exact⟨(q.mem _).2 ⟨E3 h,hA.1,hA.d.2.1,rfl⟩,by simp[Sh.nd,hA.2.1]⟩
end
def kB(m:a8):List Int:=px ⟨m.Tasks,30⟩
def EH(m:a8)(s:Int):Nat:=R4 m.Roots s+((m.Nodes.filter (·.Alive)).map λn=>R4 n.Fields s).sum+R4 (m.Pairs.map (·.Val)) s+R4 (kB m) s
theorem Px:∀ {t:Tb},HR t->(jW t).Pairwise λa b=>a.Key≠b.Key:=by
 intro t hR;have key:∀(l:Tb),(∀i j,i<l.length->j<l.length->(l.getD i ⟨0,0,0⟩).State=1->(l.getD j ⟨0,0,0⟩).State=1->(l.getD i ⟨0,0,0⟩).Key=(l.getD j ⟨0,0,0⟩).Key->i=j)->(jW l).Pairwise λa b=>a.Key≠b.Key:=by
  intro l;induction l with
  | nil=>intro _;exact List.Pairwise.nil
  | cons p l ih=>
   intro h;have h2:=ih λi j hi hj a b e=>by
    have:=h (i+1) (j+1) (by simpa using hi) (by simpa using hj) (by simpa using a) (by simpa using b) (by simpa using e);omega
   unfold jW at h2 |-;rw[mt];split
   .rename_i hp;rw[zQ,za9];refine⟨λa ha=>?_,h2⟩;obtain⟨u,hu,rfl⟩:=zq.1 ha;rw[zi] at hu;obtain⟨k,hk,e⟩:=un hu.1;intro eb;have:=h 0 (k+1) (by simp) (by simpa using hk) (by simpa using hp) (by simp[zd,hk,e];simpa using hu.2) (by simp[zd,hk,e];exact eb);omega
   .exact h2
 exact key t λi j hi hj a b e=>hR.uq i j hi hj a b e
section
variable{σ:Int->Int}{x:Hp}{m:a8}(hS:kH x)(q:p8 σ x m)
include hS q
theorem p8.perm:m.Pairs.Perm ((jW x.T).map λp=>⟨σ p.Key,σ p.Val⟩):=by
 have h1:m.Pairs.Nodup:=q.p1.imp λh e=>h (by rw[e]);have h2:((jW x.T).map λp=>(⟨σ p.Key,σ p.Val⟩:k7)).Nodup:=by
  rw[List.Nodup,zbt];refine zbp (λ{a b} ha hb h e=>h ?_) (Px hS.hr);exact q.gd.inl hS.sr (hS.pr _ _ (cG.1 ha)).1 (hS.pr _ _ (cG.1 hb)).1 (zP k7.Key e)
 rw[List.perm_ext_iff_of_nodup h1 h2];intro p;rw[q.p2,zq];constructor
 .rintro⟨k,v,h,rfl⟩;exact⟨⟨k,v⟩,cG.2 h,rfl⟩
 .rintro⟨⟨k,v⟩,h,rfl⟩;exact⟨k,v,cG.1 h,rfl⟩
theorem p8.LK:kB m=(px x.Q).map σ:=by
 unfold kB px;rw[q.tk];show List.map (·.At) (((x.Q.L.map (tx σ)).filter (·.Kind==1)))=_;rw[zcu,zaw,zaw];have e:((λt:g5=>t.Kind==1) ∘ tx σ)=λt=>t.Kind==1:=by
  funext t
  show ((tx σ t).Kind==1)=_;unfold tx;split;·rename_i h;simp[h]
  .rfl
 rw[e];refine zw λt ht=>?_;have:=(zi.1 ht).2;show (tx σ t).At=σ t.At;unfold tx;rw[zb (by simpa using this)]
theorem VL:∀v∈px x.Q,v=0\/v∈lv x.S:=λv hv=>by
 obtain⟨t,ht,k,rfl⟩:=lU.1 hv;rcases (hS.tk t ht).2.2 with h | h
 .exact .inr h.2.1
 .rw[h.1] at k;exact absurd k (by decide)
theorem p8.mb{h:Int}(hh:h∈lv x.S):EH m (σ h)=mb x h:=by
 have hR:=hS.sr;have p:=q.gd.ps hR hh;have p0:=(I7 hR hh).1;unfold EH Sh.mb;have ea:R4 m.Roots (σ h)=R4 (nz x.Roots) h:=by rw[q.ro,xY hR q.gd hS.rt hh,qg]
 have eb:((m.Nodes.filter (·.Alive)).map λn=>R4 n.Fields (σ h)).sum=kD x.S h:=by
  rw[q.nd.alive hR,zaw];unfold kD;congr 1;refine zw λa ha=>?_;show R4 ((Sh.ce x.S (E3 a)).Val.Fields.map σ) (σ h)=_;rw[<-G2 hR (o5 hR ha),xY hR q.gd (hS.fl a ha) hh];exact (qg _ _).symm
 have ec:R4 (m.Pairs.map (·.Val)) (σ h)=own x.T h:=by
  have:R4 (m.Pairs.map (·.Val)) (σ h)=R4 (((jW x.T).map (·.Val)).map σ) (σ h):=by
   unfold R4;split;·rfl
   .rw[zaw];have:=(q.perm hS).map (·.Val);rw[zaw] at this;exact List.perm_iff_count.1 this _
  rw[this,xY hR q.gd (λv hv=>?_) hh]
  .unfold R4 own;rw[za (by omega),List.count_eq_countP,List.countP_map];refine List.countP_congr λu hu=>?_;simp;omega
  .obtain⟨u,hu,rfl⟩:=zq.1 hv;exact .inr (hS.pr _ _ (cG.1 hu)).2
 have ed:R4 (kB m) (σ h)=R4 (px x.Q) h:=by rw[q.LK hS,xY hR q.gd (VL hS q) hh]
 rw[ea,eb,ec,ed];unfold oJ;rw[G6];omega
end
def dF(l:List b8)(s:Int)(f:b8->b8):List b8:=l.map λn=>if n.Serial=s then f n else n
theorem HC(l:List b8)(s:Int){f:b8->b8}(h:∀n∈l,n.Serial=s->f n=n):dF l s f=l:=by
 unfold dF;conv=>rhs;rw[<-List.map_id l]
 refine zw λn hn=>?_;split;·rename_i e;exact h n hn e
 .rfl
section
variable{σ:Int->Int}{s s':b6}(hR:SR s){l:List b8}(q:Sn σ s l)
include hR q
theorem Sn.same(hl:s'.S.b7.length=s.S.b7.length)(h:∀i,i<s.S.b7.length->(Th (ce s' i)↔Th (ce s i))/\(Th (ce s i)->Sh.nd σ s' i=Sh.nd σ s i)):Sn σ s' l:=by
 refine⟨q.up,λn=>(q.mem n).trans ⟨?_,?_⟩⟩
 .rintro⟨i,hi,ti,e⟩;exact⟨i,by rw[hl];exact hi,(h i hi).1.2 ti,e.trans ((h i hi).2 ti).symm⟩
 .rintro⟨i,hi,ti,e⟩;rw[hl] at hi;exact⟨i,hi,(h i hi).1.1 ti,e.trans ((h i hi).2 ((h i hi).1.1 ti))⟩
variable{i:Nat}(hi:i<s.S.b7.length)(hl:s'.S.b7.length=s.S.b7.length)(ho:∀j,j≠i->ce s' j=ce s j)
include hi hl ho
omit hR q hi hl in
theorem ma {j:Nat} (h:j≠i):Sh.nd σ s' j=Sh.nd σ s j:=by
 unfold Sh.nd;rw[ho j h]
theorem Sn.x6(ht:Th (ce s i))(ht':Th (ce s' i))(hs:(ce s' i).Val.Serial=(ce s i).Val.Serial){f:b8->b8}(hf:f (Sh.nd σ s i)=Sh.nd σ s' i):Sn σ s' (dF l (ce s i).Val.Serial f):=by
 have h0:∀n∈l,n.Serial=(ce s i).Val.Serial->n=Sh.nd σ s i:=λn hn e=>q.one hR hn (q.at hR hi ht) e;have hser:∀n∈l,(if n.Serial=(ce s i).Val.Serial then f n else n).Serial=n.Serial:=λn hn=>by
  split
  .rename_i e;rw[h0 n hn e,hf];exact hs
  .rfl
 constructor
 .unfold dF;rw[zbt];refine zbp (λ{a b} ha hb h=>?_) q.up;rw[hser a ha,hser b hb];exact h
 .intro n;unfold dF;rw[zq];constructor
  .rintro⟨k,hk,rfl⟩;split
   .rename_i e;refine⟨i,by rw[hl];exact hi,ht',?_⟩;rw[h0 k hk e,hf]
   .rename_i e;obtain⟨j,hj,tj,eb⟩:=(q.mem k).1 hk;have hne:j≠i:=λc=>e (by rw[eb,c];rfl);exact⟨j,by rw[hl];exact hj,by rw[ho j hne];exact tj,by rw[ma ho hne];exact eb⟩
  .rintro⟨j,hj,tj,rfl⟩;by_cases c:j=i
   .subst c;refine⟨Sh.nd σ s j,q.at hR hi ht,?_⟩;exact (zb rfl).trans hf
   .rw[hl] at hj;rw[ho j c] at tj;refine⟨Sh.nd σ s j,q.at hR hj tj,?_⟩;rw[ma ho c];exact za λe=>c (hR.dif j i hj hi tj ht e)
theorem Sn.del(ht:Th (ce s i))(hn:¬Th (ce s' i)):Sn σ s' (l.filter λn=>n.Serial != (ce s i).Val.Serial):=by
 refine⟨q.up.filter _,λn=>?_⟩;rw[zi];constructor
 .rintro⟨hk,e⟩;obtain⟨j,hj,tj,rfl⟩:=(q.mem n).1 hk;have hne:j≠i:=λc=>by subst c;simp[Sh.nd] at e
  exact⟨j,by rw[hl];exact hj,by rw[ho j hne];exact tj,(ma ho hne).symm⟩
 .rintro⟨j,hj,tj,rfl⟩;have hne:j≠i:=λc=>hn (c▸tj);rw[hl] at hj;rw[ho j hne] at tj;rw[ma ho hne];refine⟨q.at hR hj tj,?_⟩;have:(Sh.nd σ s j).Serial≠(ce s i).Val.Serial:=λe=>hne (hR.dif j i hj hi tj ht e);simpa using this
theorem Sn.add(hn:¬Th (ce s i))(ht:Th (ce s' i))(hs:s.Serial<(ce s' i).Val.Serial):Sn σ s' (l ++ [Sh.nd σ s' i]):=by
 constructor
 .rw[zav];refine⟨q.up,List.pairwise_singleton ..,λa ha b hb=>?_⟩;rw[zn] at hb;subst hb;have:=(q.pos hR ha).2;show a.Serial<(ce s' i).Val.Serial;omega
 .intro n;rw[zu,zn];constructor
  .rintro (h | rfl)
   .obtain⟨j,hj,tj,rfl⟩:=(q.mem n).1 h;have hne:j≠i:=λc=>hn (c▸tj);exact⟨j,by rw[hl];exact hj,by rw[ho j hne];exact tj,(ma ho hne).symm⟩
   .exact⟨i,by rw[hl];exact hi,ht,rfl⟩
  .rintro⟨j,hj,tj,rfl⟩;by_cases c:j=i
   .subst c;exact .inr rfl
   .rw[hl] at hj;rw[ho j c] at tj;rw[ma ho c];exact .inl (q.at hR hj tj)
end
abbrev ye(m:a8)(l:List b8):a8:=⟨l,m.Slots,m.Gens,m.Last,m.Places,m.Serial,m.Roots,m.b7,m.Pairs,m.Tasks,m.Progs⟩
abbrev Zy(m:a8)(l:List Int):a8:=⟨m.Nodes,m.Slots,m.Gens,m.Last,m.Places,m.Serial,l,m.b7,m.Pairs,m.Tasks,m.Progs⟩
abbrev TW(m:a8)(l:List k8):a8:=⟨m.Nodes,m.Slots,m.Gens,m.Last,m.Places,m.Serial,m.Roots,l,m.Pairs,m.Tasks,m.Progs⟩
abbrev Xw(m:a8)(l:List k7):a8:=⟨m.Nodes,m.Slots,m.Gens,m.Last,m.Places,m.Serial,m.Roots,m.b7,l,m.Tasks,m.Progs⟩
abbrev GS(m:a8)(l:List g5):a8:=⟨m.Nodes,m.Slots,m.Gens,m.Last,m.Places,m.Serial,m.Roots,m.b7,m.Pairs,l,m.Progs⟩
def uU(n:b8):b8:=⟨n.Serial,n.Slot,n.Prog,n.Started,n.Alive,true,n.Fields⟩
def uW(m:a8)(s:Int):a8:=ye m (dF m.Nodes s uU)
def fW(m:a8)(s:Int):a8:=if s≠0/\11<=EH m s then uW m s else m
def dy(m:a8)(r:Nat)(s:Int):a8:=Zy (fW m s) (m.Roots.set r s)
theorem aU(m:a8)(s:Int):fW m s=ye m (fW m s).Nodes:=by
 unfold fW uW;split <;> rfl
theorem Gd.up{σ:Int->Int}{s s':b6}(g:Gd σ s)(h:∀k i,U9 s' k i->U9 s k i/\(ce s' i).Val.Serial=(ce s i).Val.Serial):Gd σ s':=
 ⟨g.z,λk i q=>by rw[g.f k i (h k i q).1,(h k i q).2]⟩
theorem U6{n:Nat}{f g:Nat->Int}(h:∀i,i<n->f i=g i):(List.range n).map f=(List.range n).map g:=zw λi hi=>h i (za6.1 hi)
section
variable{σ:Int->Int}{x:Hp}{m:a8}(hR:SR x.S)(q:p8 σ x m)
include hR q
theorem p8.put{h:Int}(hh:h∈lv x.S){o:n8}(hs:o.Serial=(ob x.S h).Serial)(ho:Bc x.S o){f:b8->b8}
  (hf:f (Sh.nd σ x.S (E3 h))=⟨o.Serial,(E3 h:Nat),o.Prog,o.Started,true,decide (12<=o.Strong),o.Fields.map σ⟩):p8 σ (wS x (dh x.S h o)) (ye m (dF m.Nodes (σ h) f)):=by
 have p:=o5 hR hh;have hc:=λj=>AD hR hh hs ho j;have hl:(dh x.S h o).S.b7.length=x.S.S.b7.length:=K6 ..;have hsi:o.Serial=(Sh.ce x.S (E3 h)).Val.Serial:=by rw[hs,G2 hR p]
 have same:∀i,(Sh.ce (dh x.S h o) i).State=(Sh.ce x.S i).State/\(Sh.ce (dh x.S h o) i).Gen=(Sh.ce x.S i).Gen/\(Sh.ce (dh x.S h o) i).Val.Serial=(Sh.ce x.S i).Val.Serial:=λi=>by
  rw[hc i];split;·rename_i c;subst c;exact⟨rfl,rfl,hsi⟩
  .exact⟨rfl,rfl,rfl⟩
 have sT:∀i,Th (Sh.ce (dh x.S h o) i)↔Th (Sh.ce x.S i):=λi=>by unfold Th;rw[(same i).1]
 refine⟨q.gd.up λk i a=>⟨(Ej hR hh hs ho).1 a,(same i).2.2⟩,?_,?_,?_,q.la,q.npl,q.se,q.ro,q.ce,q.p1,q.p2,q.tk⟩
 .have:=q.nd.x6 (s':=dh x.S h o) hR p.1 hl (λj hj=>by rw[hc j,za hj]) p.d.2.1 ((sT _).2 p.d.2.1) (same _).2.2 (f:=f) (by
   rw[hf];unfold Sh.nd;rw[hc,zb rfl,zE p.2.1])
  rw[q.gd.f h _ p.d];exact this
 .show m.Slots=_;rw[q.sl];show _=List.map _ (List.range (dh x.S h o).S.b7.length);rw[hl];refine U6 λi hi=>?_;unfold PZ;rw[(same i).2.2,(same i).1];by_cases c:Th (Sh.ce x.S i)
  .rw[zb c,zb ((sT i).2 c)]
  .rw[za c,za λd=>c ((sT i).1 d)]
 .show m.Gens=_;rw[q.ge];show _=List.map _ (List.range (dh x.S h o).S.b7.length);rw[hl];exact U6 λi hi=>(same i).2.1.symm
theorem p8.BB{h:Int}(hh:h∈lv x.S){n:Int}(hn:0<=n):p8 σ (wS x (dh x.S h (BB (ob x.S h) n))) (ye m (dF m.Nodes (σ h) λk=>⟨k.Serial,k.Slot,k.Prog,k.Started,k.Alive,decide (12<=n),k.Fields⟩)):=by
 have ho:=L1 hR hh;have p:=o5 hR hh;refine q.put (o:=Sh.BB (ob x.S h) n) hR hh rfl ⟨ho.s1,ho.s2,hn,ho.wk,ho.p1,ho.p2,ho.fl⟩ ?_;unfold Sh.nd;rw[G2 hR p,zE p.2.1]
theorem p8.QC(h:Int):p8 σ (aP x h) m:=by
 unfold aP uV;split
 .rename_i hh;have p:=o5 hR hh;have:=q.BB hR hh (n:=lx (ob x.S h).Strong) (Q3 (L1 hR hh).st);rw[HC] at this;·exact this
  .intro n hn e;have:n=Sh.nd σ x.S (E3 h):=q.nd.one hR hn (q.nd.at hR p.1 p.d.2.1) (by rw[e,q.gd.f h _ p.d];rfl);rw[this];unfold Sh.nd;congr 1;rw[G2 hR p];refine zbl.2 ?_;unfold lx;split;·omega
   .split <;> omega
 .exact q
theorem p8.Xd{h:Int}(hh:h=0\/h∈lv x.S){k:Nat}(hk:h∈lv x.S->(ob x.S h).Strong<12->(ob x.S h).Strong=k):p8 σ (F3 x h) (if σ h≠0/\11<=k then uW m (σ h) else m):=by
 unfold F3 uV;rcases hh with e | hh
 .subst e;rw[za (fp hR),za (λc=>c.1 q.gd.z)];exact q
 .rw[zb hh];have p:=o5 hR hh;have h0:σ h≠0:=by have:=q.gd.ps hR hh;omega
  have hn:=(L1 hR hh).st;have Q:=q.BB hR hh (n:=ab (ob x.S h).Strong) (F2 hn);have one:∀n∈m.Nodes,n.Serial=σ h->n=Sh.nd σ x.S (E3 h):=λn hn e=>q.nd.one hR hn (q.nd.at hR p.1 p.d.2.1) (by rw[e,q.gd.f h _ p.d];rfl);have hinc:12<=ab (ob x.S h).Strong↔11<=(ob x.S h).Strong:=by
   unfold ab;split;·omega
   .split <;> omega
  have hstk:∀n∈m.Nodes,n.Serial=σ h->n.Stuck=decide (12<=(ob x.S h).Strong):=λn hn e=>by
   rw[one n hn e,G2 hR p];rfl
  by_cases c:11<=(ob x.S h).Strong
  .have e1':(ye m (dF m.Nodes (σ h) λk=>⟨k.Serial,k.Slot,k.Prog,k.Started,k.Alive,decide (12<=ab (ob x.S h).Strong),k.Fields⟩))=uW m (σ h):=by
    rw[zE (hinc.2 c)];rfl
   rw[e1'] at Q;split;·exact Q
   .rename_i c2;have c3:12<=(ob x.S h).Strong:=by
     rcases Int.lt_or_le (ob x.S h).Strong 12 with c4 | c4
     .exact absurd ⟨h0,by have:=hk hh c4;omega⟩ c2
     .exact c4
    have:uW m (σ h)=m:=by
     unfold uW;rw[HC];intro n hn e;have:=hstk n hn e;rw[zE c3] at this;unfold uU;rw[<-this]
    rw[this] at Q;exact Q
  .have e1':(ye m (dF m.Nodes (σ h) λk=>⟨k.Serial,k.Slot,k.Prog,k.Started,k.Alive,decide (12<=ab (ob x.S h).Strong),k.Fields⟩))=m:=by
    rw[zZ (λd=>c (hinc.1 d)),HC];intro n hn e;have:=hstk n hn e;rw[zZ (by omega)] at this;rw[<-this]
   rw[e1'] at Q;rw[za (λd=>by have:=hk hh (by omega);omega)];exact Q
end
theorem p8.YS{σ:Int->Int}{m:a8}:∀(l:List Int) {x:Hp},SR x.S->p8 σ x m->p8 σ (l.foldl aP x) m
 | [],_,_,h=>h
 | v::l,x,hR,h=>by
  rw[pm];refine p8.YS l (x:=aP x v) ?_ (h.QC hR v);have:=iw [v] hR;exact this.1.sr
section
variable{σ:Int->Int}{x:Hp}{m:a8}(hS:kH x)(q:p8 σ x m)
include hS q
theorem p8.F3{h:Int}(hf:aT x [])(hh:h=0\/h∈lv x.S):p8 σ (F3 x h) (fW m (σ h)):=
 q.Xd hS.sr hh λhl hs=>by rw[q.mb hS hl,hf h hl hs,J0];rfl
theorem p8.roots(r:Nat)(h:Int):p8 σ (wR x (x.Roots.set r h)) (Zy m (m.Roots.set r (σ h))):=
 ⟨q.gd,q.nd,q.sl,q.ge,q.la,q.npl,q.se,by rw[q.ro];exact (zcq ..).symm,q.ce,q.p1,q.p2,q.tk⟩
theorem p8.UB{r:Nat}{h:Int}{k:Nat}(hh:h=0\/h∈lv x.S)(hk:h∈lv x.S->(ob x.S h).Strong<12->(ob x.S h).Strong=k):p8 σ (G9 x r h) (Zy (if σ h≠0/\11<=k then uW m (σ h) else m) (m.Roots.set r (σ h))):=by
 unfold G9;have Q:=q.Xd hS.sr hh hk;refine p8.QC (x:=wR (Sh.F3 x h) (x.Roots.set r h)) (kg hS.sr h) ?_ _;have e:(if σ h≠0/\11<=k then uW m (σ h) else m).Roots=m.Roots:=by split <;> rfl
 have ex:(Sh.F3 x h).Roots=x.Roots:=by rw[pR]
 rw[<-ex,<-e];exact⟨Q.gd,Q.nd,Q.sl,Q.ge,Q.la,Q.npl,Q.se,by rw[Q.ro];exact (zcq ..).symm,Q.ce,Q.p1,Q.p2,Q.tk⟩
theorem p8.G9{r:Nat}{h:Int}(hf:aT x [])(hh:h=0\/h∈lv x.S):p8 σ (G9 x r h) (dy m r (σ h)):=by
 have:=q.UB hS (r:=r) hh (k:=EH m (σ h)) λhl hs=>by rw[q.mb hS hl,hf h hl hs,J0];rfl
 exact this
end
abbrev Ye(n:b8)(l:List Int):b8:=⟨n.Serial,n.Slot,n.Prog,n.Started,n.Alive,n.Stuck,l⟩
section
variable{σ:Int->Int}{x:Hp}{m:a8}(hS:kH x)(q:p8 σ x m)
include hS q
theorem p8.bS{h:Int}(hf:aT x [])(hh:h∈lv x.S){k:Nat}{v:Int}(hv:v=0\/v∈lv x.S):p8 σ (bS x h k v) (ye (fW m (σ v)) (dF (fW m (σ v)).Nodes (σ h) λn=>Ye n (((ob x.S h).Fields.map σ).set k (σ v)))):=by
 have hR:=hS.sr;have Q:=q.F3 hS hf hv;have xm:wB x.S (Sh.F3 x v).S:=I9 hR v λc=>F2;have hh':h∈lv (Sh.F3 x v).S:=by rw[xm.lv];exact hh
 have hR':=xm.sr;have ho:=L1 hR' hh';have p:=o5 hR' hh';have hfl:(ob (Sh.F3 x v).S h).Fields=(ob x.S h).Fields:=by
  obtain⟨n,e⟩:=xm.ob h (by have:=I7 hR hh;omega);rw[e]
 have P:=Q.put (o:=rZ (ob (Sh.F3 x v).S h) ((ob x.S h).Fields.set k v)) hR' hh' rfl ⟨ho.s1,ho.s2,ho.st,ho.wk,ho.p1,ho.p2,by
  show ((ob x.S h).Fields.set k v).length<=4;rw[zas,<-hfl];exact ho.fl⟩ (f:=λn=>Ye n (((ob x.S h).Fields.map σ).set k (σ v))) (by
  unfold Sh.nd;rw[G2 hR' p,zE p.2.1,zcq])
 unfold Sh.bS;refine p8.QC (x:=wS (Sh.F3 x v) _) ?_ P _;exact cd hR' hh' rfl ⟨ho.s1,ho.s2,ho.st,ho.wk,ho.p1,ho.p2,by
  show ((ob x.S h).Fields.set k v).length<=4;rw[zas,<-hfl];exact ho.fl⟩
end
theorem Ek{t:Tb}(hT:HR t){k v:Int}{r:Tb × Int × Int}(h:V5 t k v=some r)(h0:r.2.2=0)(k' v':Int):Has r.1 k' v'↔(k'≠k/\Has t k' v')\/(v≠0/\k'=k/\v'=v):=by
 obtain⟨u,hu,_,_,c⟩:=eh hT k v;rw[hu] at h;obtain rfl:=zK h;rcases c with ⟨_,rfl⟩ | ⟨hk,hv,c⟩ | ⟨hk,hv,c⟩;·exact absurd (show (2:Int)=0 from h0) (by decide)
 .subst hv;rcases c with ⟨i,hi,rfl⟩ | ⟨hn,rfl⟩;·rw[tA hT hi];simp
  .constructor
   .intro hh;refine .inl ⟨λe=>?_,hh⟩;subst e;obtain⟨i,hi,_⟩:=hh;exact hn i hi
   .rintro (⟨_,hh⟩ | ⟨c,_⟩);·exact hh
    .exact absurd rfl c
 .have key:∀ {a:Tb},yf t k v (a,0)->(Has a k' v'↔(k'≠k/\Has t k' v')\/(v≠0/\k'=k/\v'=v)):=λP=>by
   rw[xQ hT P rfl];constructor
   .rintro (⟨a,b⟩ | c);·exact .inr ⟨hv,a,b⟩
    .exact .inl c
   .rintro (c | ⟨_,a,b⟩);·exact .inr c
    .exact .inl ⟨a,b⟩
  rcases c with ⟨i,hi,rfl⟩ | ⟨d,_,_,_,hp,rfl⟩ | ⟨_,_,rfl⟩;·exact key (.old i hi)
  .exact key hp
  .exact absurd (show (8:Int)=0 from h0) (by decide)
theorem TC{t:Tb}(hT:HR t){k v:Int}{r:Tb × Int × Int}(h:V5 t k v=some r):r.1.length=t.length:=by
 obtain⟨u,hu,_,hl,_⟩:=eh hT k v;rw[hu] at h;obtain rfl:=zK h;exact hl
section
variable{σ:Int->Int}{x:Hp}{m:a8}(hS:kH x)(q:p8 σ x m)
include hS q
theorem p8.ja{k v:Int}(hf:aT x [])(hk:k∈lv x.S)(hv:v=0\/v∈lv x.S){r:Tb × Int × Int}(h:V5 x.T k v=some r)(h0:r.2.2=0) :
  p8 σ (ja x v r.1 r.2.1) (Xw (fW m (σ v)) ((m.Pairs.filter λp=>p.Key != σ k)++if v=0 then [] else [⟨σ k,σ v⟩])):=by
 have hR:=hS.sr;have Q:=q.F3 hS hf hv;unfold Sh.ja;refine p8.QC (x:=wT (Sh.F3 x v) r.1) (kg hR v) ?_ _;refine⟨Q.gd,Q.nd,Q.sl,Q.ge,Q.la,?_,Q.se,Q.ro,Q.ce,?_,λp=>?_,Q.tk⟩
 .show _=((r.1.length:Nat):Int);rw[TC hS.hr h];have:(Sh.F3 x v).T=x.T:=by rw[pR]
  rw[<-this];exact Q.npl
 .show List.Pairwise _ _;rw[zav];refine⟨q.p1.filter _,?_,λa ha b hb=>?_⟩
  .split;·exact List.Pairwise.nil
   .exact List.pairwise_singleton ..
  .split at hb;·cases hb
   .rw[zn] at hb;subst hb;have:=(zi.1 ha).2;simpa using this
 .show p∈_↔∃k' v',Has r.1 k' v'/\_;rw[zu,zi,q.p2];constructor
  .rintro (⟨⟨k',v',hh,rfl⟩,c⟩ | c)
   .refine⟨k',v',(Ek hS.hr h h0 _ _).2 (.inl ⟨λe=>?_,hh⟩),rfl⟩;subst e;simp at c
   .split at c;·cases c
    .rename_i c0;rw[zn] at c;exact⟨k,v,(Ek hS.hr h h0 _ _).2 (.inr ⟨c0,rfl,rfl⟩),c⟩
  .rintro⟨k',v',hh,rfl⟩;rcases (Ek hS.hr h h0 _ _).1 hh with ⟨c,hh⟩ | ⟨c0,rfl,rfl⟩
   .refine .inl ⟨⟨k',v',hh,rfl⟩,?_⟩;have:σ k'≠σ k:=λe=>c (q.gd.inl hR (hS.pr _ _ hh).1 hk e);simpa using this
   .right;rw[za c0];exact zn.2 rfl
end
def yL(m:a8)(n:b8):a8:=
 ⟨m.Nodes.filter (λk=>k.Serial != n.Serial),m.Slots.set n.Slot.toNat (if m.Gens.getD n.Slot.toNat 0=m.Last then -1 else 0),
  if m.Gens.getD n.Slot.toNat 0=m.Last then m.Gens else m.Gens.set n.Slot.toNat (m.Gens.getD n.Slot.toNat 0+1),m.Last,m.Places,m.Serial,m.Roots,m.b7,m.Pairs,m.Tasks,m.Progs⟩
def Fc(m:a8)(s:Int):a8:=match m.Nodes.find? (λn=>n.Serial==s) with
 | none=>m
 | some n=>if n.Alive=true\/0<jy m.b7 s then m else yL m n
theorem wc{n:Nat}(f:Nat->Int){i:Nat}(v:Int):((List.range n).map f).set i v=(List.range n).map λj=>if j=i then v else f j:=by
 refine zb1 (by simp) λj h1 h2=>?_;rw[zcr];simp only[t8,List.getElem_range];by_cases c:i=j
 .rw[zb c,zb c.symm]
 .rw[za c,za (zau c)]
def Hb(s:b6)(i:Nat):c9:=if (ce s i).Gen=s.S.Last then ⟨3,(ce s i).Gen,z0⟩ else ⟨0,(ce s i).Gen+1,z0⟩
theorem VH(s:b6)(i:Nat):¬Th (Hb s i):=by
 unfold Hb Th;split <;> simp
section
variable{σ:Int->Int}{x:Hp}{m:a8}(hR:SR x.S)(q:p8 σ x m)
include hR q
theorem p8.yL{i:Nat}(hi:i<x.S.S.b7.length)(ht:Th (Sh.ce x.S i)):p8 σ (wS x (I8 x.S i (Hb x.S i))) (yL m (Sh.nd σ x.S i)):=by
 have hc:=λj=>L6 hi (Hb x.S i) j;have hl:=W9 x.S i (Hb x.S i);have hno:=VH x.S i;have hg:m.Gens.getD i 0=(Sh.ce x.S i).Gen:=by
  rw[q.ge,zd,zB,List.getElem?_range hi];rfl
 have hsl:(Sh.nd σ x.S i).Slot.toNat=i:=by unfold Sh.nd;simp
 unfold Sh.yL;rw[hsl,hg,q.la];refine⟨q.gd.up λk j a=>?_,?_,?_,?_,rfl,q.npl,q.se,q.ro,q.ce,q.p1,q.p2,q.tk⟩
 .have hne:j≠i:=λe=>by
   have:=a.2.1;change Th (Sh.ce (I8 x.S i (Hb x.S i)) j) at this
   rw[hc,zb e] at this;exact hno this
  refine⟨(Fb hi _ hne).1 a,?_⟩;change (Sh.ce (I8 x.S i (Hb x.S i)) j).Val.Serial=_
  rw[hc,za hne]
 .exact q.nd.del (s':=I8 x.S i (Hb x.S i)) hR hi hl (λj hj=>by rw[hc,za hj]) ht (by rw[hc,zb rfl];exact hno)
 .show _=List.map (λj=>PZ (Sh.ce (I8 x.S i (Hb x.S i)) j)) (List.range (I8 x.S i (Hb x.S i)).S.b7.length);show m.Slots.set i _=_;rw[hl,q.sl,wc];refine U6 λj hj=>?_;rw[hc];by_cases c:j=i
  .rw[zb c,zb c];unfold PZ;rw[za hno];unfold Hb;split <;> rfl
  .rw[za c,za c]
 .show _=List.map (λj=>(Sh.ce (I8 x.S i (Hb x.S i)) j).Gen) (List.range (I8 x.S i (Hb x.S i)).S.b7.length);show (if (Sh.ce x.S i).Gen=x.S.S.Last then m.Gens else m.Gens.set i ((Sh.ce x.S i).Gen+1))=_;rw[hl,q.ge];unfold Hb;split
  .rename_i c;refine U6 λj hj=>?_;rw[L6 hi];split;·rename_i e;rw[e]
   .rfl
  .rw[wc];refine U6 λj hj=>?_;rw[L6 hi];split <;> rfl
theorem p8.alike{s':b6}(hl:s'.S.b7.length=x.S.S.b7.length)(hla:s'.S.Last=x.S.S.Last)(hse:s'.Serial=x.S.Serial)
  (h:∀i,i<x.S.S.b7.length->(Sh.ce s' i).State=(Sh.ce x.S i).State/\(Sh.ce s' i).Gen=(Sh.ce x.S i).Gen/\(Sh.ce s' i).Val.Serial=(Sh.ce x.S i).Val.Serial/\(Sh.ce s' i).Val.Prog=(Sh.ce x.S i).Val.Prog/\(Sh.ce s' i).Val.Started=(Sh.ce x.S i).Val.Started/\(Sh.ce s' i).Val.Strong=(Sh.ce x.S i).Val.Strong/\(Sh.ce s' i).Val.Fields=(Sh.ce x.S i).Val.Fields):p8 σ (wS x s') m:=by
 have sT:∀i,i<x.S.S.b7.length->(Th (Sh.ce s' i)↔Th (Sh.ce x.S i)):=λi hi=>by unfold Th;rw[(h i hi).1]
 refine⟨q.gd.up λk i a=>?_,q.nd.same hR hl λi hi=>⟨sT i hi,λht=>?_⟩,?_,?_,by rw[q.la];exact hla.symm,q.npl,by rw[q.se];exact hse.symm,q.ro,q.ce,q.p1,q.p2,q.tk⟩
 .have hi:i<x.S.S.b7.length:=by have:=a.1;rw[<-hl];exact this
  refine⟨⟨hi,(sT i hi).1 a.2.1,?_⟩,(h i hi).2.2.1⟩;have:=a.2.2;change k=1+(i:Int)+32*(Sh.ce s' i).Gen at this
  rw[(h i hi).2.1] at this;exact this
 .obtain⟨a1,a2,a3,a4,a5,a6,a7⟩:=h i hi;unfold Sh.nd;rw[a1,a3,a4,a5,a6,a7]
 .show _=List.map _ (List.range s'.S.b7.length);rw[hl,q.sl];refine U6 λi hi=>?_;unfold PZ;rw[(h i hi).2.2.1,(h i hi).1];by_cases c:Th (Sh.ce x.S i)
  .rw[zb c,zb ((sT i hi).2 c)]
  .rw[za c,za λd=>c ((sT i hi).1 d)]
 .show _=List.map _ (List.range s'.S.b7.length);rw[hl,q.ge];exact U6 λi hi=>(h i hi).2.1.symm
theorem p8.find{h:Int}{i:Nat}(p:U9 x.S h i):m.Nodes.find? (λn=>n.Serial==σ h)=some (Sh.nd σ x.S i):=by
 have hs:=q.gd.f h i p;rw[List.find?_eq_some_iff_getElem];obtain⟨j,hj,e⟩:=un (q.nd.at hR p.1 p.2.1);refine⟨by rw[hs];exact zW _,j,hj,e,λk hk=>?_⟩;have:=za4.1 q.nd.up k j (by omega) hj hk;rw[e] at this;have:m.Nodes[k].Serial≠σ h:=by
  rw[hs];have:m.Nodes[k].Serial<(Sh.ce x.S i).Val.Serial:=this;omega
 simpa using this
theorem p8.Yf:m.Nodes.find? (λn=>n.Serial==0)=none:=by
 rw[zch];intro n hn e;have:=(q.nd.pos hR hn).1;have:n.Serial=0:=by simpa using e
 omega
theorem p8.jy{l:List k8}{h:Int}(hl:∀c∈l,σ c.Target=σ h->c.Target=h)(h0:h≠0)(h1:σ h≠0):Sh.jy (l.map (wx σ)) (σ h)=Sh.jy l h:=by
 unfold Sh.jy;rw[List.countP_map];refine List.countP_congr λc hc=>?_;show ((σ h != 0)&&(σ c.Target==σ h))=true↔((h != 0)&&(c.Target==h))=true;have:σ c.Target=σ h↔c.Target=h:=⟨hl c hc,λe=>by rw[e]⟩;simp[h0,h1,this]
end
end Go.Sh
