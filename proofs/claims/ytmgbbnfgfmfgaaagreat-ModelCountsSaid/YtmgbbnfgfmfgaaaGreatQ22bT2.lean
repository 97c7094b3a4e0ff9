/- A part. -/
import Derived.Test.YtmgbbnfgfmfgaaaGreatQ22bT
set_option linter.unusedVariables false
set_option linter.unusedSimpArgs false
set_option linter.unusedSectionVars false
namespace Go.Sh
def jM(x:Hp)(ds:List Int)(t:Tb):Hp:=⟨oW x.S ds,x.Roots,lS x.b7 ds,t,⟨x.Q.L++jN x.b7 ds,x.Q.Cap⟩⟩
theorem yK(q:TQ)(l:List g6)(c:Int)(h:∀t∈l,t.Kind≠1):pz ⟨q.L++l,c⟩=pz q:=by
 unfold pz;dsimp only;rw[zbb];have:l.filter (λt=>t.Kind==1) = []:=by
  rw[List.filter_eq_nil_iff];intro t ht;simpa using h t ht
 rw[this,zap]
theorem KX{x:Hp}(hx:K6 x){ds:List Int}(hn:ds.Nodup)(hm:∀d∈ds,d∈lv x.S)
  (ho:∀d∈ds,d∉oO x)(hf:∀h∈lv x.S,h∉ds->∀v∈(ob x.S h).Fields,v∉ds)(hp:∀k v,Has x.T k v->k∉ds->v∉ds)
  {t:Tb}{vals:List Int}(ht:HR t)(h1:∀k v,Has t k v↔k∉ds/\Has x.T k v)(h2:∀y,own t y+T3 vals y=own x.T y) :
  jJ (jM x ds t)/\Wk (jM x ds t)/\aO (jM x ds t) (ds.flatMap (outs x.S)++vals):=by
 have hS:=hx.sh;have hR:=hS.sr;have g:=eT ds hR hn hm;have hlv:∀h,h∈lv (oW x.S ds)↔h∈lv x.S/\h∉ds:=λh=>by rw[g.lv,zj,zG]
 have hlen:(lv x.S).length<=24:=L4 (z8.2 hR);have hcl:∀w (hw:w<x.b7.length),ji ds x.b7[w]=true->x.b7[w].Intact=true:=λw hw q=>by
  unfold ji at q;rw[zy,zy] at q;exact q.1.1
 have htd:(x.Q.L++jN x.b7 ds).Pairwise λa b=>¬(a.Kind=b.Kind/\a.At=b.At):=by
  rw[zat];refine⟨hS.td,BO ..,λa ha b hb q=>?_⟩;obtain⟨w,hw,rfl,hh,_⟩:=gM.1 hb;have:=((hS.cl w hw).2.2.2.2 (hcl w hw hh)).2;rw[zbl] at this;exact this (gU.2 ⟨a,ha,q.1,q.2⟩)
 have htk:∀t∈x.Q.L++jN x.b7 ds,0<=t.Prog/\t.Prog<=5/\((t.Kind=1/\t.At∈lv (oW x.S ds)/\(ob (oW x.S ds) t.At).Started=true)\/(t.Kind=2/\0<=t.At/\t.At<=5)):=λt htt=>by
  rcases zu.1 htt with q | q
  .obtain⟨a,b,c⟩:=hS.tk t q;refine⟨a,b,?_⟩;rcases c with ⟨c1,c2,c3⟩ | c
   .have hnd:t.At∉ds:=λhd=>ho _ hd (zu.2 (.inr (mh.2 ⟨t,q,c1,rfl⟩)));exact .inl ⟨c1,(hlv _).2 ⟨c2,hnd⟩,by rw[g.ob _ c2 hnd];exact c3⟩
   .exact .inr c
  .obtain⟨w,hw,rfl,hh,hc⟩:=gM.1 q;have c6:=hS.c6;have:=(hS.cl w hw).2.1;exact⟨hc,this,.inr ⟨rfl,by dsimp only;omega,by dsimp only;omega⟩⟩
 have hq30:(x.Q.L++jN x.b7 ds).length<=30:=by
  have:=AK (m:=lv x.S) htd λt htt=>by
   rcases (htk t htt).2.2 with q | q
   .exact .inl ⟨q.1,((hlv _).1 q.2.1).1⟩
   .exact .inr q
  omega
 have hwts:∀i:Nat,wX x.Q i=false->(∀hi:i<x.b7.length,ji ds x.b7[i]=false)->wX ⟨x.Q.L++jN x.b7 ds,x.Q.Cap⟩ i=false:=λi q1 q2=>by
  rw[zbl] at q1 |-;intro q;obtain⟨t,ht,a,b⟩:=gU.1 q;rcases zu.1 ht with c | c
  .exact q1 (gU.2 ⟨t,c,a,b⟩)
  .obtain⟨w,hw,rfl,hh,_⟩:=gM.1 c;dsimp only at b;have:w=i:=by omega
   subst this;rw[q2 hw] at hh;cases hh
 refine⟨⟨g.sr,ht,hS.r6,?_,hS.cap,hq30,htk,htd,λh hh=>?_,λh hh v hv=>?_,λk v hkv=>?_,λi hi=>?_⟩,λi hi hti=>?_,λh hh hlt=>?_⟩
 .unfold jM lS;rw[zl];exact hS.c6
 .rcases hS.rt h hh with q | q
  .exact .inl q
  .have h0:h≠0:=λe=>eZ hR (e▸q);exact .inr ((hlv h).2 ⟨q,λhd=>ho h hd (zu.2 (.inl (gp.2 ⟨hh,h0⟩)))⟩)
 .obtain⟨a,b⟩:=(hlv h).1 hh;have hv':v∈(ob x.S h).Fields:=by
   have e:=g.ob h a b;unfold jM at hv;rwa [e] at hv
  rcases hS.fl h a v hv' with q | q
  .exact .inl q
  .exact .inr ((hlv v).2 ⟨q,hf h a b v hv'⟩)
 .obtain⟨a,b⟩:=(h1 k v).1 hkv;obtain⟨c,d⟩:=hS.pr k v b;exact⟨(hlv k).2 ⟨c,a⟩,(hlv v).2 ⟨d,hp k v b a⟩⟩
 .have hi':i<x.b7.length:=by
   unfold jM lS at hi;simpa using hi
  have e:(jM x ds t).b7[i]=rO ds x.b7[i]:=t6 _;obtain⟨a1,a2,a3,a4,a5⟩:=hS.cl i hi';obtain⟨b1,b2,b3⟩:=pc ds x.b7[i];rw[e,b1,b2];refine⟨a1,a2,λq=>?_,λq=>?_,λq=>?_⟩
  .rw[zbl];intro q2;rw[a3 q] at b3;exact absurd (b3.1 q2).1 (by decide)
  .obtain⟨p,hp1,hp2,hp3⟩:=a4 q;refine⟨p,by show p<(oW x.S ds).S.b7.length;rw[g.len];exact hp1,?_⟩;show Th (ce (oW x.S ds) p)/\_=1+(p:Int)+32*(ce (oW x.S ds) p).Gen;rw[g.ce];split
   .have hw:=(hx.wk p hp1 hp2).1;have:=uk hi' q;rw[hp3] at this;unfold GG;rw[za (by omega)];exact⟨.inr rfl,hp3⟩
   .exact⟨hp2,hp3⟩
  .obtain⟨c1,c2⟩:=b3.1 q;obtain⟨d1,d2⟩:=a5 c1;have h0:x.b7[i].Target≠0:=λe=>eZ hR (e▸d1);refine⟨(hlv _).2 ⟨d1,λhd=>?_⟩,hwts i d2 λ_=>c2⟩;have:ji ds x.b7[i]=true:=by
    unfold ji;simp[c1,h0,hd]
   rw[this] at c2;cases c2
 .have hi':i<x.S.S.b7.length:=by
   have:=g.len;have hi:i<(oW x.S ds).S.b7.length:=hi;omega
  show (ce (oW x.S ds) i).Val.Weak=(jC (lS x.b7 ds) (1+(i:Int)+32*(ce (oW x.S ds) i).Gen):Int)/\((ce (oW x.S ds) i).State=2->_);have hti':Th (ce (oW x.S ds) i):=hti;show _/\((ce (oW x.S ds) i).State=2->1<=(ce (oW x.S ds) i).Val.Weak/\(ce (oW x.S ds) i).Val.Fields = []/\(ce (oW x.S ds) i).Val.Strong=0);rw[Dy];rw[g.ce] at hti' |-;split
  .rename_i q;rw[zb q] at hti';obtain⟨d,hd,rfl⟩:=zq.1 q;have hp:=o6 hR (hm d hd);have hw:=(hx.wk _ hi' (.inl hp.2.1)).1;unfold GG at hti' |-;split at hti'
   .exfalso;unfold Th at hti';split at hti' <;> simp at hti'
   .rename_i q2;rw[za q2];have:=(hR.ok _ hi' (.inl hp.2.1)).wk;exact⟨hw,λ_=>⟨by dsimp only;omega,rfl,rfl⟩⟩
  .rename_i q;rw[za q] at hti';exact hx.wk i hi' hti'
 .obtain⟨a,b⟩:=(hlv h).1 hh;have e:=g.ob h a b;have e':ob (jM x ds t).S h=ob x.S h:=e;rw[e'] at hlt |-;have hf:=hx.fair h a hlt;rw[I2] at hf;rw[hf];have i1:=g.kK hR hn hm h;have i2:=h2 h;have i3:pz ⟨x.Q.L++jN x.b7 ds,x.Q.Cap⟩=pz x.Q:=yK _ _ _ λt ht=>by
   obtain⟨w,_,rfl,_⟩:=gM.1 ht;simp
  unfold lk oO jM;dsimp only;rw[i3,G2 (ds.flatMap (outs x.S)),G2];omega
theorem Aq:∀(l:List Int) {x:Hp},jJ x->Wk x->aO x l->K6 (l.foldl aK x)
 | [],x,h1,h2,h3=>⟨h1,h2,h3⟩
 | v::l,x,h1,h2,h3=>Aq l (h1.st v λc=>Q0) (h2.st h1.sr v λc=>Q0) (uG h1.sr h3)
abbrev fL(o:n0):n0:=⟨o.Serial,o.Strong,o.Weak,o.Prog,true,o.Fields⟩
abbrev Bc(x:Hp)(h:Int):g6:=⟨1,h,(ob x.S h).Prog⟩
noncomputable def gQ(x:Hp)(h:Int):Hp:=E8 ⟨df x.S h (fL (ob x.S h)),x.Roots,x.b7,x.T,⟨x.Q.L ++ [Bc x h],x.Q.Cap⟩⟩ h
theorem vU{x:Hp}(hx:K6 x){h:Int}(hh:h∈lv x.S)(hp:0<=(ob x.S h).Prog)(hs:(ob x.S h).Started=false):K6 (gQ x h):=by
 have hS:=hx.sh;have hR:=hS.sr;have oko:=K5 hR hh;have ho:AZ x.S (fL (ob x.S h)):=⟨oko.s1,oko.s2,oko.st,oko.wk,oko.p1,oko.p2,oko.fl⟩;have r1:=bZ (o:=fL (ob x.S h)) hR hh rfl ho;have l1:=iV (o:=fL (ob x.S h)) hR hh rfl ho;have o1:∀j,j∈lv x.S->ob (df x.S h (fL (ob x.S h))) j=if j=h then fL (ob x.S h) else ob x.S j:=λj hj=>by
  have:=H2 hR hj;exact gw (o:=fL (ob x.S h)) hR hh rfl ho (by omega)
 have hlen:(lv x.S).length<=24:=L4 (z8.2 hR);have s1:jJ (wS x (df x.S h (fL (ob x.S h)))):=hS.of r1 l1 (λk i q=>(Ea (o:=fL (ob x.S h)) hR hh rfl ho).2 q) (λk hk q=>by
  rw[o1 k hk];split;·rfl
  .exact q) λk hk v hv=>by
  rw[o1 k hk] at hv;split at hv;·rename_i e;subst e;exact hS.fl k hk v hv
  .exact hS.fl k hk v hv
 have w1:Wk (wS x (df x.S h (fL (ob x.S h)))):=λi hi ht=>by
  have eX:=o6 hR hh;have hc:=AA (o:=fL (ob x.S h)) hR hh rfl ho i;dsimp only at hi ht |-;rw[hc] at ht |-;have hi':i<x.S.S.b7.length:=by unfold df at hi;rwa [K0] at hi
  split at ht
  .rename_i e;subst e;rw[zb rfl];dsimp only;have:=hx.wk _ hi' (.inl eX.2.1);rw[E9 hR eX];exact⟨this.1,λq=>absurd q (by rw[eX.2.1];decide)⟩
  .rename_i e;rw[za e];exact hx.wk i hi' ht
 have htd:(x.Q.L ++ [Bc x h]).Pairwise λa b=>¬(a.Kind=b.Kind/\a.At=b.At):=by
  rw[zat];refine⟨hS.td,by simp,λa ha b hb q=>?_⟩;rw[zp] at hb;subst hb;dsimp only at q;rcases (hS.tk a ha).2.2 with c | c
  .rw[q.2,hs] at c;exact absurd c.2.2 (by decide)
  .omega
 have htk:∀t∈x.Q.L ++ [Bc x h],0<=t.Prog/\t.Prog<=5/\((t.Kind=1/\t.At∈lv (df x.S h (fL (ob x.S h)))/\(ob (df x.S h (fL (ob x.S h))) t.At).Started=true)\/(t.Kind=2/\0<=t.At/\t.At<=5)):=λt ht=>by
  rcases zu.1 ht with q | q
  .exact s1.tk t q
  .rw[zp] at q;subst q;refine⟨hp,oko.p2,.inl ⟨rfl,by rw[l1];exact hh,?_⟩⟩;dsimp only;rw[o1 h hh,zb rfl]
 have hq30:(x.Q.L ++ [Bc x h]).length<=30:=by
  have:=AK (m:=lv x.S) htd λt ht=>by
   rcases (htk t ht).2.2 with q | q
   .exact .inl ⟨q.1,by rw[<-l1];exact q.2.1⟩
   .exact .inr q
  omega
 have s2:jJ ⟨df x.S h (fL (ob x.S h)),x.Roots,x.b7,x.T,⟨x.Q.L ++ [Bc x h],x.Q.Cap⟩⟩:=by
  refine⟨s1.sr,s1.hr,s1.r6,s1.c6,s1.cap,hq30,htk,htd,s1.rt,s1.fl,s1.pr,λi hi=>?_⟩;obtain⟨a,b,c,d,e⟩:=s1.cl i hi;refine⟨a,b,c,d,λq=>⟨(e q).1,?_⟩⟩;have:=(e q).2;rw[zbl] at this |-;intro q2;obtain⟨t,ht,k1,k2⟩:=gU.1 q2;rcases zu.1 ht with q3 | q3
  .exact this (gU.2 ⟨t,q3,k1,k2⟩)
  .rw[zp] at q3;subst q3;dsimp only at k1;omega
 have w2:Wk ⟨df x.S h (fL (ob x.S h)),x.Roots,x.b7,x.T,⟨x.Q.L ++ [Bc x h],x.Q.Cap⟩⟩:=w1;refine⟨s2.st h λc=>E7,w2.st s2.sr h λc=>E7,λk hk hlt=>?_⟩;have hk':k∈lv x.S:=by
  have:lv (gQ x h).S=lv x.S:=(I1 s2.sr h λc=>E7).lv.trans l1;rw[<-this];exact hk
 have hst:(ob (gQ x h).S k).Strong=if k=h then Z7 (ob x.S k).Strong else (ob x.S k).Strong:=by
  have:=wc (x:=⟨df x.S h (fL (ob x.S h)),x.Roots,x.b7,x.T,⟨x.Q.L ++ [Bc x h],x.Q.Cap⟩⟩) s2.sr h (f:=Z7) (λc=>E7) (k:=k) (by rw[<-l1] at hk';exact hk');refine zct this ?_;dsimp only;rw[o1 k hk'];by_cases e:k=h
  .subst e;rw[zb rfl,zb rfl,zb rfl]
  .rw[za e,za e,za e]
 have hnm:lk (gQ x h) k=lk x k+if k=h then 1 else 0:=by
  have:=xO (x:=⟨df x.S h (fL (ob x.S h)),x.Roots,x.b7,x.T,⟨x.Q.L ++ [Bc x h],x.Q.Cap⟩⟩) s2.sr h (f:=Z7) (λc=>E7) k;refine zct this ?_;have hi:=Jv (o:=fL (ob x.S h)) hR hh rfl ho k;dsimp only at hi;have h0:k≠0:=λe=>eZ hR (e▸hk');unfold lk oO pz;dsimp only;rw[zbb,ms,G2,G2,G2];have:T3 (List.map (·.At) (List.filter (λt:g6=>t.Kind==1) [Bc x h])) k=if k=h then 1 else 0:=by
   show T3 [h] k=_;rw[I5,I2];by_cases e:k=h
   .rw[zb ⟨e.symm,h0⟩,zb e]
   .rw[za (λq=>e q.1.symm),za e]
  rw[this];omega
 rw[hst] at hlt |-;rw[hnm,I2];have hpos:=(K5 hR hk').st;by_cases e:k=h
 .rw[zb e] at hlt |-;rw[zb e];have:=hx.fair k hk' (by unfold Z7 at hlt;split at hlt <;> omega);rw[I2] at this;unfold Z7 at hlt |-;split at hlt;·omega
  .rename_i q;rw[za q,za (by omega)];omega
 .rw[za e] at hlt |-;rw[za e];have:=hx.fair k hk' hlt;rw[I2] at this;exact this
noncomputable def zr(x:Hp):List Int:=(lv x.S).filter λh=>(ob x.S h).Strong==0
theorem de{x:Hp}{h:Int}:h∈zr x↔h∈lv x.S/\(ob x.S h).Strong=0:=by
 unfold zr;rw[zj,pu]
theorem Et{x:Hp}(hx:K6 x){z:Int}(hz:z∈zr x):lk x z=0:=by
 obtain⟨a,b⟩:=de.1 hz;have:=hx.fair z a (by omega);rw[I2] at this;omega
theorem Gu{l:List Int}{h:Int}(h0:h≠0)(e:T3 l h=0):h∉l:=λq=>by
 have:=jw.2 ⟨h0,q⟩;omega
theorem NY{α:Type}(f:α->Nat):∀ {l:List α} {a:α},a∈l->f a<=(l.map f).sum
 | b::l,a,h=>by
  rw[zT,zbe];rcases zM.1 h with e | e
  .subst e;omega
  .have:=NY f e;omega
theorem Dp{s:b6}{a y:Int}(ha:a∈lv s):T3 (outs s a) y<=kK s y:=NY (λx=>T3 (outs s x) y) ha
theorem DF{t:Tb}{k v:Int}(h:Has t k v)(h0:v≠0):0<own t v:=zbw.2 ⟨⟨k,v⟩,cD.2 h,by simp[h0]⟩
def lO(t:Tb)(ks:List Int):Tb × List Int:=(aV t ks).getD (t,[])
theorem kz{t:Tb}(hT:HR t)(ks:List Int)(hks:ks.length<=1000):aV t ks=some (lO t ks)/\HR (lO t ks).1/\(lO t ks).2.length<=ks.length/\pN (t.map eX) ks=some ((lO t ks).1.map eX,(lO t ks).2) /\
  (∀k v,Has (lO t ks).1 k v↔k∉ks/\Has t k v)/\∀y,own (lO t ks).1 y+T3 (lO t ks).2 y=own t y:=by
 obtain⟨a,had,h1,h2,h3,h4,h5,h6,h7,h8,h9⟩:=wW hT ks hks;have:lO t ks=(a,had):=by unfold lO;rw[h1];rfl
 rw[this];exact⟨h1,h2,h4,h5,h6,h9⟩
noncomputable def gV(x:Hp)(ds:List Int):Hp:=(ds.flatMap (outs x.S)++(lO x.T ds).2).foldl aK (jM x ds (lO x.T ds).1)
theorem iz:∀(l:List Int) {x:Hp},SR x.S->wo x.S (l.foldl aK x).S/\l.foldl aK x=wS x (l.foldl aK x).S
 | [],x,h=>⟨wo.refl h,rfl⟩
 | v::l,x,h=>by
  have k1:=I1 h v (f:=lD) λc=>Q0;obtain⟨k2,e⟩:=iz l (x:=aK x v) k1.sr;refine⟨k1.trans k2,?_⟩;show l.foldl aK (aK x v)=wS x (l.foldl aK (aK x v)).S;rw[e,Wx x v]
theorem BM{x:Hp}(hx:K6 x){ds:List Int}(hn:ds.Nodup)(hm:∀d∈ds,d∈lv x.S)
  (ho:∀d∈ds,d∉oO x)(hf:∀h∈lv x.S,h∉ds->∀v∈(ob x.S h).Fields,v∉ds)(hp:∀k v,Has x.T k v->k∉ds->v∉ds):K6 (gV x ds):=by
 have hl:ds.length<=24:=zP (ab hn hm) (L4 (z8.2 hx.sh.sr));obtain⟨_,w1,_,_,w2,w3⟩:=kz hx.sh.hr ds (by omega);obtain⟨a,b,c⟩:=KX hx hn hm ho hf hp w1 w2 w3;exact Aq _ a b c
theorem GW{x:Hp}(hR:SR x.S){ds:List Int}(hn:ds.Nodup)(hm:∀d∈ds,d∈lv x.S):lv (gV x ds).S=(lv x.S).filter λh=>decide (h∉ds):=by
 have g:=eT ds hR hn hm;exact (iz (ds.flatMap (outs x.S)++(lO x.T ds).2) (x:=jM x ds (lO x.T ds).1) g.sr).1.lv.trans g.lv
theorem GX{x:Hp}(hR:SR x.S){ds:List Int}(hn:ds.Nodup)(hm:∀d∈ds,d∈lv x.S){k:Int}(hk:k∈lv x.S)(hd:k∉ds):∃n,ob (gV x ds).S k=Bz (ob x.S k) n:=by
 have g:=eT ds hR hn hm;have hr:=H2 hR hk;obtain⟨n,e⟩:=(iz (ds.flatMap (outs x.S)++(lO x.T ds).2) (x:=jM x ds (lO x.T ds).1) g.sr).1.ob k (by omega);refine⟨n,?_⟩;have e':ob (gV x ds).S k=_:=e;have g':ob (jM x ds (lO x.T ds).1).S k=ob x.S k:=g.ob k hk hd;rw[e',g']
theorem sZ{x:Hp}(hR:SR x.S){ds:List Int}(hn:ds.Nodup)(hm:∀d∈ds,d∈lv x.S):(gV x ds).Roots=x.Roots/\(gV x ds).b7=lS x.b7 ds/\(gV x ds).T=(lO x.T ds).1/\(gV x ds).Q=⟨x.Q.L++jN x.b7 ds,x.Q.Cap⟩:=by
 have g:=eT ds hR hn hm;have e:=(iz (ds.flatMap (outs x.S)++(lO x.T ds).2) (x:=jM x ds (lO x.T ds).1) g.sr).2;have e':gV x ds=wS (jM x ds (lO x.T ds).1) (gV x ds).S:=e;rw[e'];exact⟨rfl,rfl,rfl,rfl⟩
theorem AY{x:Hp}(hx:K6 x){z:Int}(hz:z∈zr x):K6 (gV x [z]):=by
 obtain⟨a,b⟩:=de.1 hz;have h0:z≠0:=λe=>eZ hx.sh.sr (e▸a);have hn:=Et hx hz;unfold lk at hn;refine BM hx (by simp) (by simpa using a) (λd hd=>?_) (λh hh hne v hv q=>?_) (λk v hkv _ q=>?_)
 .rw[zp] at hd;subst hd;exact Gu h0 (by omega)
 .rw[zp] at q;subst q;have:=Dp (y:=v) hh;have h1:=jw.2 ⟨h0,show v∈outs x.S h from gp.2 ⟨hv,h0⟩⟩;omega
 .rw[zp] at q;subst q;have:=DF hkv h0;omega
def due(o:n0):Bool:=decide (0<=o.Prog) && !o.Started
noncomputable def GK(x:Hp):Hp:=match zr x with
 | []=>x
 | z::_=>if due (ob x.S z) then gQ x z else gV x [z]
noncomputable def oU:Nat->Hp->Hp
 | 0,x=>x
 | n+1,x=>oU n (GK x)
theorem fM(n:Nat)(x:Hp):oU (n+1) x=GK (oU n x):=by
 induction n generalizing x with
 | zero=>rfl
 | succ n ih=>exact ih (GK x)
theorem od{x:Hp}(h:zr x = []):GK x=x:=by unfold GK;rw[h]
theorem kq{x:Hp}{z:Int}{l:List Int}(h:zr x=z::l):GK x=if due (ob x.S z) then gQ x z else gV x [z]:=by unfold GK;rw[h]
theorem Md{x:Hp}(hx:K6 x):K6 (GK x):=by
 cases h:zr x with
 | nil=>rw[od h];exact hx
 | cons z l=>
  have hz:z∈zr x:=by rw[h];exact zg ..
  rw[kq h];split
  .rename_i q;unfold due at q;rw[zy,zG,zb9] at q;exact vU hx (de.1 hz).1 q.1 q.2
  .exact AY hx hz
theorem Q2{x:Hp}(hx:K6 x)(n:Nat):K6 (oU n x):=by
 induction n with
 | zero=>exact hx
 | succ n ih=>rw[fM];exact Md ih
section
variable{x:Hp}(hR:SR x.S){h:Int}(hh:h∈lv x.S)
include hR hh
theorem nH:wo (df x.S h (fL (ob x.S h))) (gQ x h).S/\(gQ x h).Roots=x.Roots/\(gQ x h).b7=x.b7/\(gQ x h).T=x.T/\(gQ x h).Q=⟨x.Q.L ++ [Bc x h],x.Q.Cap⟩:=by
 have oko:=K5 hR hh;have r1:=bZ (o:=fL (ob x.S h)) hR hh rfl ⟨oko.s1,oko.s2,oko.st,oko.wk,oko.p1,oko.p2,oko.fl⟩;refine⟨I1 (x:=⟨df x.S h (fL (ob x.S h)),x.Roots,x.b7,x.T,⟨x.Q.L ++ [Bc x h],x.Q.Cap⟩⟩) r1 h λc=>E7,?_⟩;have e:gQ x h=wS ⟨df x.S h (fL (ob x.S h)),x.Roots,x.b7,x.T,⟨x.Q.L ++ [Bc x h],x.Q.Cap⟩⟩ (gQ x h).S:=pS _ h;rw[e];exact⟨rfl,rfl,rfl,rfl⟩
theorem DJ:lv (gQ x h).S=lv x.S:=by
 have oko:=K5 hR hh;exact (nH hR hh).1.lv.trans (iV (o:=fL (ob x.S h)) hR hh rfl ⟨oko.s1,oko.s2,oko.st,oko.wk,oko.p1,oko.p2,oko.fl⟩)
theorem Ak{k:Int}(hk:k∈lv x.S):∃n,ob (gQ x h).S k=Bz (if k=h then fL (ob x.S h) else ob x.S k) n:=by
 have oko:=K5 hR hh;have hr:=H2 hR hk;obtain⟨n,e⟩:=(nH hR hh).1.ob k (by omega);refine⟨n,?_⟩;rw[e,gw (o:=fL (ob x.S h)) hR hh rfl ⟨oko.s1,oko.s2,oko.st,oko.wk,oko.p1,oko.p2,oko.fl⟩ (by omega)]
end
noncomputable def mu(x:Hp):Nat:=(lv x.S).length+((lv x.S).filter λh => !(ob x.S h).Started).length
theorem Yc{x:Hp}(hR:SR x.S):mu x<=48:=by
 have h1:(lv x.S).length<=24:=L4 (z8.2 hR);have h2:((lv x.S).filter λh => !(ob x.S h).Started).length<=(lv x.S).length:=zE ..;unfold mu;omega
theorem WM{x:Hp}(hx:K6 x)(h:zr x ≠ []):mu (GK x)<mu x:=by
 cases hz:zr x with
 | nil=>exact absurd hz h
 | cons z l=>
  have hzm:z∈zr x:=by rw[hz];exact zg ..
  have hzl:=(de.1 hzm).1;have hR:=hx.sh.sr;rw[kq hz];split
  .rename_i q;unfold due at q;rw[zy,zG,zb9] at q;unfold mu;rw[DJ hR hzl];have:=filter_lt (p:=λh => !(ob (gQ x z).S h).Started) (q:=λh => !(ob x.S h).Started) (l:=lv x.S) (λk hk hp=>by
    obtain⟨n,e⟩:=Ak hR hzl hk;rw[e] at hp;split at hp;·exact absurd hp (by simp)
    .exact hp) z hzl (by rw[q.2];rfl) (by
    obtain⟨n,e⟩:=Ak hR hzl hzl;rw[e,zb rfl];rfl)
   omega
  .unfold mu;have hn:([z]:List Int).Nodup:=by simp
   have hm:∀d ∈ [z],d∈lv x.S:=by simpa using hzl
   rw[GW hR hn hm,zan];have h1:((lv x.S).filter λh=>decide (h ∉ [z])).length<((lv x.S).filter λ_=>true).length:=filter_lt (λ_ _ _=>rfl) z hzl rfl (by simp);rw[zbm.2 (λ_ _=>rfl)] at h1;have h2:((lv x.S).filter λa=>(!(ob (gV x [z]).S a).Started)&&decide (a ∉ [z])).length<=((lv x.S).filter λh => !(ob x.S h).Started).length:=by
    rw[<-zbv,<-zbv];refine List.countP_mono_left λa ha hp=>?_;rw[zy,zG] at hp;obtain⟨n,e⟩:=GX hR hn hm ha hp.2;rw[e] at hp;exact hp.1
   omega
noncomputable def bJ(x:Hp):Hp:=oU 100 x
theorem vZ{x:Hp}(hx:K6 x):∃n,n<=48/\zr (oU n x) = []/\(∀j,j<n->zr (oU j x) ≠ [])/\bJ x=oU n x:=by
 have key:∀m,(∃n,n<=m/\zr (oU n x) = [])\/mu (oU m x)+m<=mu x:=by
  intro m;induction m with
  | zero=>exact .inr (zF _)
  | succ m ih=>
   rcases ih with ⟨n,h1,h2⟩ | ih;·exact .inl ⟨n,by omega,h2⟩
   .by_cases q:zr (oU m x) = []
    .exact .inl ⟨m,by omega,q⟩
    .have:=WM (Q2 hx m) q;rw[<-fM] at this;exact .inr (by omega)
 have h48:=Yc hx.sh.sr;have hex:∃n,n<=48/\zr (oU n x) = []:=by
  rcases key 49 with ⟨n,h1,h2⟩ | h
  .rcases zD n 49 with q | q
   .exact⟨n,by omega,h2⟩
   .rcases key 48 with h | h
    .exact h
    .have:mu (oU 48 x)=0:=by omega
     refine⟨48,zF _,?_⟩;have hl:(lv (oU 48 x).S).length=0:=by unfold mu at this;omega
     unfold zr;rw[wd hl];rfl
  .omega
 obtain⟨n,⟨hn,hz⟩,hmin⟩:=dI hex;refine⟨n,hn,hz,λj hj q=>?_,?_⟩
 .have:=hmin j ⟨by omega,q⟩;omega
 .have:∀k,oU (n+k) x=oU n x:=λk=>by
   induction k with
   | zero=>rfl
   | succ k ih=>rw[show n+(k+1)=(n+k)+1 by omega,fM,ih,od hz]
  have h100:=this (100-n);rw[show n+(100-n)=100 by omega] at h100;exact h100
theorem nW{x:Hp}(hx:K6 x):K6 (bJ x):=Q2 hx 100
theorem Cu{x:Hp}(hx:K6 x):zr (bJ x) = []:=by
 obtain⟨n,_,h,_,e⟩:=vZ hx;rw[e];exact h
theorem PA{x:Hp}(h:zr x = []):bJ x=x:=by
 have:∀n,oU n x=x:=λn=>by
  induction n with
  | zero=>rfl
  | succ n ih=>rw[fM,ih,od h]
 exact this 100
section
variable{x:Hp}(hR:SR x.S)
include hR
theorem rB{h:Int}(hh:h∈lv x.S):h<=9223372036854775807:=by have:=H2 hR hh;omega
theorem yI{h:Int}(hh:h∈lv x.S):w9 x.S h=some (ob x.S h,0):=by
 obtain⟨e,h1,h2⟩:=iJ (z8.2 hR) (rB hR hh);rw[h1,h2.2 hh]
theorem zero_eq:eF x=some (zr x):=by
 have h24:(lv x.S).length<=24:=L4 (z8.2 hR);unfold eF;simp only[jn];rw[gK (z8.2 hR),a0d];rw[V5 (lv x.S) (λb h=>if (ob x.S h).Strong==0 then b ++ [h] else b) id (λk b=>b.length<=k) (by omega) (zF _) (λk hk b hb=>?_) (λb hb=>by simp)]
 .rw[foldl_filter];rfl
 .simp only[we,hk,ul,zY,r9 hk,a0d,yI hR (zh hk)];by_cases c:((ob x.S (lv x.S)[k]).Strong==0)=true
  .rw[zb c,zb c,J0 (by omega) (by simp;omega),a0d,n9];exact⟨rfl,by simp;omega⟩
  .rw[za c,za c,n9];exact⟨rfl,by omega⟩
end
noncomputable def YV(x:Hp)(h:Int):Hp:=if h∈lv x.S/\due (ob x.S h)=true then gQ x h else x
theorem Kp{s:b6}(hR:SR s){h:Int}(hl:h∈lv s):AZ s (fL (ob s h)):=by
 have oko:=K5 hR hl;exact⟨oko.s1,oko.s2,oko.st,oko.wk,oko.p1,oko.p2,oko.fl⟩
theorem JT(o:n0):P5 o=some (due o):=by
 unfold P5 due;congr 1
section
variable{x:Hp}(hx:K6 x)(hS:SL x){h:Int}(hh:h<=9223372036854775807)
include hx hS hh
theorem HQ(hl:h∈lv x.S)(hd:due (ob x.S h)=true):x.Q.L.length<30:=by
 have hb:0<=(ob x.S h).Prog/\(ob x.S h).Started=false:=by
  unfold due at hd;rw[zy,zG,zb9] at hd;exact hd
 have:=(vU hx hl hb.1 hb.2).sh.q30;rw[(nH hx.sh.sr hl).2.2.2.2] at this;simp at this;omega
theorem Cp:X8 x h=some (YV x h):=by
 have hR:=hx.sh.sr;have cap:=hx.sh.cap;obtain⟨e,h1,h2⟩:=iJ (z8.2 hR) hh;unfold X8 YV;rw[h1,a0d];by_cases hl:h∈lv x.S
 .have e0:e=0:=h2.2 hl;subst e0;have e1:(((0:Int) != 0)==false)=true:=rfl;simp only[e1,iu,JT,a0d];cases hd:due (ob x.S h);·rw[zb (by simp),za (by simp)]
  .rw[za (by simp),zb ⟨hl,rfl⟩];have hr:=HQ hx hS hh hl hd;have hok:=Kp hR hl;have l1:=iV (o:=fL (ob x.S h)) hR hl rfl hok;have r1:=bZ (o:=fL (ob x.S h)) hR hl rfl hok;rw[xM (o:=fL (ob x.S h)) hR hl rfl hok,a0d,Ud _ (by omega),a0d];have et:Xh x.Q ⟨1,h,(ob x.S h).Prog⟩=(⟨x.Q.L ++ [Bc x h],x.Q.Cap⟩,0):=by
    unfold Xh;rw[za (by omega)]
   rw[et];dsimp only;rw[mJ r1 hh (λk hk=>?_),a0d];·rfl
   .dsimp only at hk |-;rw[l1] at hk;rw[gw (o:=fL (ob x.S h)) hR hl rfl hok (rB hR hk)];split;·exact hS h hl
    .exact hS k hk
 .have e0:e≠0:=λq=>hl (h2.1 q);have e1:(e != 0)=true:=by simpa using e0
  rw[e1];simp only[show ((true==false)=true)=False by simp,B9,un,a0d,Bool.true_or,zY];rw[za (λq=>hl q.1)]
end
noncomputable def YR(x:Hp)(l:List Int):List Int:=l.foldl (λb h=>if h∈lv x.S/\h∉b then b ++ [h] else b) []
theorem Oc{x:Hp}{z:Int}(hz:z∈lv x.S):YR x [z] = [z]:=by
 unfold YR;simp[hz]
section
variable{x:Hp}(hR:SR x.S)
include hR
theorem tV(l:List Int)(hl:l.length<=1000)(hb:∀h∈l,h<=9223372036854775807):ah x l=some (YR x l):=by
 unfold ah;simp only[jn];have key:=V5 (f:=λ((s20,s21,s22):Int × (List (Int × Bool)) × (List Int))=>
   if (decide (s20<(l.length:Int))) then
     (ix l s20).bind λv32=>
     (w9 x.S v32).bind λv33=>
     if ((v33.2==0)==true) then
      if (!((A1 s21 v32).getD (false:Bool))) then
       (app 8 s22 [v32]).bind λv34=>
       some (Sum.inl (u4 (s20+1),(p6 s21 v32 true),v34))
      else
      some (.inl (u4 (s20+1),s21,s22))
     else
     some (.inl (u4 (s20+1),s21,s22))
   else
   some (.inr s22)) l (λ(b:List (Int × Bool) × List Int) h=>if h∈lv x.S/\h∉b.2 then (p6 b.1 h true,b.2 ++ [h]) else b) (λb=>b.2) (λk b=>b.2.length<=k/\∀d,(A1 b.1 d).getD false=decide (d∈b.2)) (b0:=([],[])) (by omega) ⟨zF _,λd=>by simp[A1]⟩ (λk hk b hb2=>?_) (λb hb2=>by simp)
 .rw[key,a0d];congr 1;have:∀(l:List Int) (m:List (Int × Bool)) (b:List Int),(l.foldl (λ(b:List (Int × Bool) × List Int) h=>if h∈lv x.S/\h∉b.2 then (p6 b.1 h true,b.2 ++ [h]) else b) (m,b)).2=l.foldl (λb h=>if h∈lv x.S/\h∉b then b ++ [h] else b) b:=λl=>by
   induction l with
   | nil=>intro m b;rfl
   | cons h l ih=>
    intro m b;rw[zaj,zaj];by_cases c:h∈lv x.S/\h∉b
    .rw[zb c,zb c,ih]
    .rw[za c,za c,ih]
  exact this l [] []
 .obtain⟨hb1,hb3⟩:=hb2;obtain⟨e,h1,h2⟩:=iJ (z8.2 hR) (hb _ (zh hk));simp only[we,hk,ul,zY,r9 hk,a0d,h1,hb3];by_cases hl:l[k]∈lv x.S
  .have e0:e=0:=h2.2 hl;subst e0;by_cases hm:l[k]∈b.2
   .rw[zb (by rfl),za (by simp[hm]),za (λq=>q.2 hm),n9];exact⟨rfl,by omega,hb3⟩
   .rw[zb (by rfl),zb (by simp[hm]),zb ⟨hl,hm⟩,J0 (by omega) (by simp;omega),a0d,n9];refine⟨rfl,by simp;omega,λd=>?_⟩;rw[qz];by_cases q:d=l[k]
    .rw[zb q];simp[q]
    .rw[za q,hb3];simp[q]
  .have e0:e≠0:=λq=>hl (h2.1 q);rw[za (by simp[e0]),za (λq=>hl q.1),n9];exact⟨rfl,by omega,hb3⟩
end
theorem yB{α β:Type}(p:α->Bool)(f:α->β):∀(xs:List α) (acc:List β),xs.foldl (λb x=>if p x then b ++ [f x] else b) acc=acc++(xs.filter p).map f
 | [],acc=>by simp
 | x::xs,acc=>by
  rw[zaj,yB p f xs];by_cases h:p x=true
  .simp[h]
  .simp[h]
theorem qv{α:Type}{l:List α}{i:Nat}(h:i<l.length)(d:α):l.getD i d=l[i]:=by
 rw[zd,zc h];rfl
theorem KZ(c:k8)(ds:List Int)(hl:ds.length<=1000):cP c ds=some (ji ds c):=by
 unfold cP ji;rw[contains_eq _ _ (by omega)];cases (c.Intact&&c.Target != 0);·rfl
 .simp[B9]
def oP(l:List k8)(ds:List Int):List Nat:=(List.range l.length).filter λw=>ji ds (l.getD w cz)
theorem Wc{l:List k8}{ds:List Int}{w:Nat}(h:w∈oP l ds):w<l.length:=by
 unfold oP at h;rw[zj,za7] at h;exact h.1
theorem Sx(l:List k8)(ds:List Int):(oP l ds).length<=l.length:=by
 unfold oP;exact zP (zE ..) (by simp)
theorem Wd(l:List k8)(ds:List Int):(oP l ds).Nodup:=zb7 _ List.nodup_range
theorem Ro(l:List k8)(ds:List Int):cls l ds=(oP l ds).filter λw=>decide (0<=(l.getD w cz).Call):=by
 unfold cls oP;rw[zan];refine pm λw _=>?_;rw[Bool.and_comm]
def tR(l:List Nat):List Int:=l.map λ(n:Nat)=>(n:Int)
theorem Jw{l:List Nat}{k:Nat}(h:k<l.length):ix (tR l) (k:Int)=some ((l[k]:Nat):Int):=by
 unfold tR;rw[qy,r9 h];rfl
theorem yO(l:List Nat):(tR l).length=l.length:=zl ..
theorem LK(l:List k8)(ds:List Int)(hl:l.length<=1000)(hd:ds.length<=1000):M8 l ds=some (tR (oP l ds)):=by
 unfold M8;simp only[jn];have hr:(List.range l.length).length=l.length:=by simp
 have key:=V5 (List.range l.length) (λ(b:List Int) (w:Nat)=>if ji ds (l.getD w cz) then b ++ [(w:Int)] else b) id (λk b=>b.length<=k) (b0:=[]) (f:=λ((s17,s18):Int × (List Int))=>
   if (decide (s17<(l.length:Int))) then
     (ix l s17).bind λv26=>
     (cP v26 ds).bind λv27=>
     if v27 then
      (app 8 s18 [s17]).bind λv28=>
      some (Sum.inl (u4 (s17+1),v28))
     else
     some (.inl (u4 (s17+1),s18))
   else
   some (.inr s18)) (by omega) (zF _) (λk hk b hb=>?_) (λb hb=>by simp)
 .rw[key,yB];rfl
 .rw[hr] at hk;simp only[we,hk,ul,zY,r9 hk,a0d,KZ _ _ hd,List.getElem_range,qv hk];by_cases c:ji ds l[k]=true
  .rw[zb c,zb c,J0 (by omega) (by simp;omega),a0d,n9];exact⟨rfl,by simp;omega⟩
  .rw[za c,za c,n9];exact⟨rfl,by omega⟩
theorem Lc(l:List k8)(hl:l.length<=1000):ck l=some l:=by
 unfold ck;rw[lf (by omega) (by omega),a0d];unfold xC;rw[zb (by simp),a0d];simp
def te(l:List k8)(K:List Nat):List k8:=(List.range l.length).map λi=>if i∈K then ⟨(l.getD i cz).Target,false,(l.getD i cz).Call⟩ else l.getD i cz
theorem lT(l:List k8)(K:List Nat):(te l K).length=l.length:=by simp[te]
theorem tf{l:List k8}{K:List Nat}{i:Nat}(h:i<(te l K).length):(te l K)[i]=if i∈K then ⟨(l.getD i cz).Target,false,(l.getD i cz).Call⟩ else l.getD i cz:=by simp[te]
theorem Nb(l:List k8):te l []=l:=by
 refine zb2 (lT ..) λi h1 h2=>?_;rw[tf,za (by simp),qv h2]
theorem Lb{l:List k8}{K:List Nat}{w:Nat}(hw:w<l.length):te l (K ++ [w])=(te l K).set w ⟨(l.getD w cz).Target,false,(l.getD w cz).Call⟩:=by
 refine zb2 (by rw[zal,lT,lT]) λi h1 h2=>?_;rw[tf,zcq];by_cases e:w=i
 .subst e;rw[zb rfl,zb (by simp)]
 .rw[za e,tf];by_cases q:i∈K
  .rw[zb (t7 _ q),zb q]
  .rw[za,za q];rw[zu,zp];exact λq2=>q2.elim q λq3=>e q3.symm
theorem Na(l:List k8)(ds:List Int):te l (oP l ds)=lS l ds:=by
 refine zb2 (by rw[lT];simp[lS]) λi h1 h2=>?_;have hi:i<l.length:=by rw[lT] at h1;exact h1
 have ec:(lS l ds)[i]=rO ds l[i]:=t6 _;rw[tf,ec,qv hi];unfold rO;by_cases c:ji ds l[i]=true
 .rw[zb c,zb];unfold oP;rw[zj,za7,qv hi];exact⟨hi,c⟩
 .rw[za c,za];unfold oP;rw[zj,za7,qv hi];exact λq=>c q.2
theorem V2{α:Type}{l:List α}{k:Nat}(h:k<l.length):l.take (k+1)=l.take k ++ [l[k]]:=zx h
theorem EP(l:List k8)(ds:List Int)(hl:l.length<=1000)(hd:ds.length<=1000):gB l ds=some (lS l ds,tR (cls l ds)):=by
 unfold gB;rw[LK l ds hl hd,a0d,Lc l hl,a0d];simp only[jn,yO];have hp:=Sx l ds;refine bD (oP l ds).length (λk (b:List k8 × List Int)=>b.1=te l ((oP l ds).take k)/\b.2=tR (((oP l ds).take k).filter λw=>decide (0<=(l.getD w cz).Call))) (by omega) ⟨by simp[Nb],by simp[tR]⟩ ?_ ?_
 .rintro k ⟨b1,b2⟩ hk ⟨rfl,rfl⟩;left;have hw:=Wc (zh hk);have hnm:(oP l ds)[k]∉(oP l ds).take k:=λq=>by
   have hn:=Wd l ds;rw[<-zb4 k (oP l ds),zbs] at hn;exact hn.2.2 _ q (oP l ds)[k] (by rw[List.drop_eq_getElem_cons hk];exact zg ..) rfl
  have h1:(oP l ds)[k]<(te l ((oP l ds).take k)).length:=by rw[lT];exact hw
  have e1:ix (te l ((oP l ds).take k)) (((oP l ds)[k]:Nat):Int)=some (l.getD (oP l ds)[k] cz):=by rw[r9 h1,tf,za hnm]
  have h2:(oP l ds)[k]<((te l ((oP l ds).take k)).set (oP l ds)[k] ⟨(l.getD (oP l ds)[k] cz).Target,false,(l.getD (oP l ds)[k] cz).Call⟩).length:=by rw[zal];exact h1
  have e2:ix ((te l ((oP l ds).take k)).set (oP l ds)[k] ⟨(l.getD (oP l ds)[k] cz).Target,false,(l.getD (oP l ds)[k] cz).Call⟩) (((oP l ds)[k]:Nat):Int)=some ⟨(l.getD (oP l ds)[k] cz).Target,false,(l.getD (oP l ds)[k] cz).Call⟩:=by rw[r9 h2,List.getElem_set_self]
  dsimp only;simp only[we,hk,ul,zY,Jw hk,a0d,e1,zN,e2];have hle:(tR (((oP l ds).take k).filter λw=>decide (0<=(l.getD w cz).Call))).length<=1000:=by
   rw[yO];exact zP (zE ..) (by simp;omega)
  rw[V2 hk,Lb hw,zbb];by_cases c:0<=(l.getD (oP l ds)[k] cz).Call
  .rw[zb (zB c),J0 (by omega) (by simp only[zH,zah];omega),a0d,n9];refine⟨_,rfl,rfl,?_⟩;rw[or,zb (zB c)];simp[tR]
  .rw[za (λq=>c (zbj q)),n9];refine⟨_,rfl,rfl,?_⟩;rw[or,za (λq=>c (zbj q))];simp[tR]
 .rintro⟨b1,b2⟩ ⟨rfl,rfl⟩;refine⟨_,za (by simp),?_⟩;dsimp only;rw[zV,Na,<-Ro]
def Mj(x:Hp)(ds:List Int):Hp:=⟨x.S,x.Roots,lS x.b7 ds,x.T,⟨x.Q.L++jN x.b7 ds,x.Q.Cap⟩⟩
theorem nk(l:List k8)(ds:List Int):(jN l ds).length=(cls l ds).length:=zl ..
theorem Hc{l:List k8}{ds:List Int}{w:Nat}(h:w∈cls l ds):w<l.length:=by
 unfold cls at h;rw[zj,za7] at h;exact h.1
theorem UN{l:List k8}{ds:List Int}{k:Nat}(h:k<(jN l ds).length):(jN l ds)[k]=⟨2,(((cls l ds)[k]'(by rw[<-nk];exact h):Nat):Int),(l.getD ((cls l ds)[k]'(by rw[<-nk];exact h)) cz).Call⟩:=t6 _
theorem Nc{l:List k8}{ds:List Int}{w:Nat}(h:w<l.length):ix (lS l ds) (w:Int)=some (rO ds l[w]):=by
 unfold lS;rw[qy,r9 h];rfl
section
variable{x:Hp}{ds:List Int}(hc:x.b7.length<=6)(hd:ds.length<=1000)(hq:(x.Q.L++jN x.b7 ds).length<=30)(hcap:x.Q.Cap=30)
include hc hd hq hcap
theorem KU{k:Nat}(hk:k<(jN x.b7 ds).length):Xh ⟨x.Q.L++(jN x.b7 ds).take k,x.Q.Cap⟩ (jN x.b7 ds)[k]=(⟨x.Q.L++(jN x.b7 ds).take (k+1),x.Q.Cap⟩,0):=by
 rw[zL] at hq;unfold Xh;rw[za (by dsimp only;rw[zL,zar,hcap];omega),V2 hk,zai]
theorem Hb:fI x ds=some (Mj x ds):=by
 unfold fI;rw[EP _ _ (by omega) hd,a0d];dsimp only;simp only[jn,yO];have hq2:=hq;rw[zL] at hq2;refine bD (cls x.b7 ds).length (λk (q:TQ)=>q=⟨x.Q.L++(jN x.b7 ds).take k,x.Q.Cap⟩) (by rw[<-nk];omega) (by simp) ?_ ?_
 .rintro k q hk rfl;left;have hw:=Hc (zh hk);have hk2:k<(jN x.b7 ds).length:=by rw[nk];exact hk
  simp only[we,hk,ul,zY,Jw hk,a0d,Nc hw];have et:(⟨2,(((cls x.b7 ds)[k]:Nat):Int),(rO ds x.b7[(cls x.b7 ds)[k]]).Call⟩:g6)=(jN x.b7 ds)[k]:=by
   rw[UN,(pc ds _).2.1,qv hw]
  rw[et,Ud _ (by dsimp only;rw[zL,zar];omega),KU hc hd hq hcap hk2,a0d,n9 (by rw[<-nk] at hk;omega)];exact⟨_,rfl,rfl⟩
 .rintro q rfl;refine⟨_,za (by simp),?_⟩;rw[<-nk,zV];rfl
end
theorem Ct(s:b6)(i:Nat)(c d:c8):I0 (I0 s i c) i d=I0 s i d:=by
 unfold I0;dsimp only;rw[List.set_set]
section
variable{s:b6}(hR:SR s){d:Int}(hd:d∈lv s)
include hR hd
def k1(s:b6)(d:Int):b6:=I0 s (D7 d) ⟨1,(ce s (D7 d)).Gen,Ld (ob s d)⟩
def k2(s:b6)(d:Int):b6:=I0 s (D7 d) ⟨2,(ce s (D7 d)).Gen,Ld (ob s d)⟩
theorem He:AZ s (Ld (ob s d)):=by
 have ho:=K5 hR hd;exact⟨ho.s1,ho.s2,zag _,ho.wk,ho.p1,ho.p2,zW _⟩
theorem NV:df s d (Ld (ob s d))=k1 s d:=by
 have q:=o6 hR hd;unfold df fV k1 I0;rw[q.2.1]
theorem XM:At (k1 s d) d (D7 d):=by
 have q:=o6 hR hd;refine⟨by unfold k1;rw[W3];exact q.1,?_,?_⟩;·unfold k1;rw[L0 q.1,zb rfl]
 .unfold k1;rw[L0 q.1,zb rfl];exact q.2.2
theorem XN:SR (k1 s d):=by rw[<-NV hR hd];exact bZ (o:=Ld (ob s d)) hR hd rfl (He hR hd)
theorem XQ:SR (k2 s d):=by
 have q:=o6 hR hd;have hc:=hR.cell _ q.1;unfold k2;refine hR.I0 q.1 ⟨by simp,by simp,hc.2.2.1,hc.2.2.2⟩ (λq=>absurd (.inr rfl) q) (λ_=>⟨He hR hd,.inl q.2.1,?_⟩);show (ob s d).Serial=_;rw[E9 hR q]
theorem XO:U6 (k2 s d) d (D7 d):=by
 have q:=o6 hR hd;refine⟨by unfold k2;rw[W3];exact q.1,?_,?_⟩;·unfold k2;rw[L0 q.1,zb rfl];exact .inr rfl
 .unfold k2;rw[L0 q.1,zb rfl];exact q.2.2
theorem RK:Y9 (k1 s d).S d=some ((k2 s d).S,0):=by
 have q:=o6 hR hd;have hR1:=XN hR hd;have q1:=XM hR hd;have hr:=H2 hR hd;have hlen:=hR1.len;have hH:sL d:=((rY hR1).2 q1.d).2.1;have hsl:(d-1) % 32=(D7 d:Nat):=((rY hR1).2 q1.d).2.2.1;have hg:(d-1) / 32=(ce s (D7 d)).Gen:=by
  have:=q.2.2;have h24:=hR.len;have:=q.1;omega
 unfold Y9 F1;rw[xz hR1 q1.d,a0d,za (by simp),Jx q1.1,a0d,q1.2.1,za (by simp),a0d,za (by simp),jT (by omega),a0d,zb hH,hsl,lH (by omega),a0d,zb hH,hg,mU rfl q1.1 hlen,a0d];have e:(ce (k1 s d) (D7 d)).Val=Ld (ob s d):=by unfold k1;rw[L0 q.1,zb rfl]
 rw[e];congr 2;show (I0 (k1 s d) (D7 d) _).S=(k2 s d).S;unfold k1 k2;rw[Ct]
theorem XH(hw:(ob s d).Weak=0):Ew (k2 s d) (D7 d)=xd s d:=by
 have q:=o6 hR hd;have e:ce (k2 s d) (D7 d)=⟨2,(ce s (D7 d)).Gen,Ld (ob s d)⟩:=by unfold k2;rw[L0 q.1,zb rfl]
 unfold Ew xd GG;rw[e];rw[E9 hR q] at hw;rw[zb hw];unfold k2;rw[Ct];rfl
theorem XP(hw:(ob s d).Weak≠0):k2 s d=xd s d:=by
 have q:=o6 hR hd;unfold k2 xd GG;rw[E9 hR q] at hw |-;rw[za hw]
end
theorem Lu{x:Hp}(hR:SR x.S){d:Int}(hd:d∈lv x.S):bf x d=some (wS x (xd x.S d)):=by
 unfold bf;rw[yI hR hd,a0d];have e1:T2 x.S d (⟨(ob x.S d).Serial,0,(ob x.S d).Weak,(ob x.S d).Prog,(ob x.S d).Started,[]⟩:n0)=some (k1 x.S d,0):=by
  rw[<-NV hR hd];exact xM (o:=Ld (ob x.S d)) hR hd rfl (He hR hd)
 rw[e1,a0d,RK hR hd,a0d];by_cases hw:(ob x.S d).Weak=0
 .rw[zb (by simpa using hw),Jr (XQ hR hd) (XO hR hd),a0d,XH hR hd hw];rfl
 .rw[za (by simpa using hw)];show some (wS x (k2 x.S d))=_;rw[XP hR hd hw]
theorem DS:∀(l:List Int) {x:Hp},SR x.S->SL x->SL (l.foldl aK x)
 | [],x,_,h=>h
 | v::l,x,hR,h=>DS l (x:=aK x v) (Pk hR v) (h.Qe hR v)
theorem DQ{y:Hp}(hR:SR y.S)(l:List Int)(hl:l.length<=1000000)(hb:∀v∈l,v<=9223372036854775807){K:Hp->Option Hp}:((lp (S:=Int × b9) (E:=b9) (λ((s35,s36):Int × b9)=>
     if (decide (s35<(l.length:Int))) then
      (ix l s35).bind λv39=>
      (E3 s36 v39).bind λv40=>
      some (.inl (u4 (s35+1),v40))
     else
     some (.inr s36)) (0,y)).bind K)=K (l.foldl aK y):=by
 have key:=V5 l aK id (λk z=>SR z.S) (b0:=y) (f:=λ((s35,s36):Int × b9)=>
     if (decide (s35<(l.length:Int))) then
      (ix l s35).bind λv39=>
      (E3 s36 v39).bind λv40=>
      some (Sum.inl (u4 (s35+1),v40))
     else
     some (.inr s36)) (by omega) hR (λk hk z hz=>?_) (λz hz=>by simp)
 .rw[key,a0d];rfl
 .simp only[we,hk,ul,zY,r9 hk,a0d,gv hz (hb _ (zh hk))];rw[n9];exact⟨rfl,Pk hz _⟩
theorem NI(s:b6)(ds:List Int){k:Nat}(hk:k<ds.length):oW s (ds.take (k+1))=xd (oW s (ds.take k)) ds[k]:=by
 unfold oW;rw[V2 hk,zas];rfl
section
variable{y:Hp}(hR:SR y.S){ds:List Int}(hn:ds.Nodup)(hm:∀d∈ds,d∈lv y.S)
include hR hn hm
theorem yT{k:Nat}(hk:k<ds.length):SR (oW y.S (ds.take k))/\ds[k]∈lv (oW y.S (ds.take k)):=by
 have g:=eT (ds.take k) hR ((zca k ds).nodup hn) λd hd=>hm d (zaf hd);refine⟨g.sr,?_⟩;rw[g.lv,zj,zG];refine⟨hm _ (zh hk),λq=>?_⟩;rw[<-zb4 k ds,zbs] at hn;exact hn.2.2 _ q ds[k] (by rw[List.drop_eq_getElem_cons hk];exact zg ..) rfl
theorem Lt(hl:ds.length<=1000){K:Hp->Option Hp}:((lp (S:=Int × b9) (E:=b9) (λ((s42,s43):Int × b9)=>
    if (decide (s42<(ds.length:Int))) then
     (ix ds s42).bind λv46=>
     (bf s43 v46).bind λv47=>
     some (.inl (u4 (s42+1),v47))
    else
    some (.inr s43)) (0,y)).bind K)=K (wS y (oW y.S ds)):=by
 have key:=gi (f:=λ((s42,s43):Int × b9)=>
    if (decide (s42<(ds.length:Int))) then
     (ix ds s42).bind λv46=>
     (bf s43 v46).bind λv47=>
     some (Sum.inl (u4 (s42+1),v47))
    else
    some (.inr s43)) (t0:=y) ds.length (λk z=>z=wS y (oW y.S (ds.take k))) (λz=>z=wS y (oW y.S ds)) (by omega) rfl ?_ ?_
 .obtain⟨e,h1,h2⟩:=key;rw[h1,a0d,h2]
 .rintro k z hk rfl;left;obtain⟨h1,h2⟩:=yT hR hn hm hk;simp only[we,hk,ul,zY,r9 hk,a0d,Lu (x:=wS y (oW y.S (ds.take k))) h1 h2];rw[n9,NI _ _ hk];exact⟨_,rfl,rfl⟩
 .rintro z rfl;exact⟨_,za (by simp),by rw[zV]⟩
end
section
variable{x:Hp}(hx:K6 x){ds:List Int}(hn:ds.Nodup)(hm:∀d∈ds,d∈lv x.S)
include hx hn hm
theorem Hg:ds.length<=24:=zP (ab hn hm) (L4 (z8.2 hx.sh.sr))
theorem Jm{d:Int}(hd:d∈lv x.S):(ob x.S d).Fields.length<=4:=(K5 hx.sh.sr hd).fl
theorem JQ{d:Int}(hd:d∈lv x.S):(outs x.S d).length<=4:=zP (Oy _) (Jm hx hn hm hd)
theorem vt:∀(l:List Int),(∀d∈l,d∈lv x.S)->(l.flatMap (outs x.S)).length<=4*l.length
 | [],_=>by simp
 | d::l,h=>by
  rw[zbh,zL,zH];have:=vt l λe he=>h e (zn _ he);have:=JQ hx hn hm (h d (zg ..));omega
theorem Su:∀v∈ds.flatMap (outs x.S)++(lO x.T ds).2,v<=9223372036854775807:=λv hv=>by
 rcases zu.1 hv with q | q
 .obtain⟨d,hd,q⟩:=mt.1 q;obtain⟨q,_⟩:=gp.1 q;rcases hx.sh.fl d (hm d hd) v q with e | e
  .omega
  .exact rB hx.sh.sr e
 .by_cases h0:v=0
  .omega
  .have hl:=Hg hx hn hm;have h3:=(kz hx.sh.hr ds (by omega)).2.2.2.2.2 v;have h4:=jw.2 ⟨h0,q⟩;have h5:0<own x.T v:=by omega
   obtain⟨p,hp,hq⟩:=zbw.1 h5;have hq:(v != 0&&p.Val==v)=true:=hq;rw[zy,pu] at hq;have:=(hx.sh.pr _ _ (cD.1 hp)).2;rw[hq.2] at this;exact rB hx.sh.sr this
theorem OM:(ds.flatMap (outs x.S)++(lO x.T ds).2).length<=200:=by
 have hl:=Hg hx hn hm;have h1:=vt hx hn hm ds hm;have h2:=(kz hx.sh.hr ds (by omega)).2.2.1;rw[zL];omega
theorem Jb(hq:(x.Q.L++jN x.b7 ds).length<=30){l:List Int}(h1:ah x l=some ds):ca x l=some (gV x ds):=by
 have hl:=Hg hx hn hm;have hR:=hx.sh.sr;obtain⟨w1,w2,w3,w4,w5,w6⟩:=kz hx.sh.hr ds (by omega);have ol:=OM hx hn hm;have fl:=vt hx hn hm ds hm;unfold ca;rw[h1,a0d,Hb (by have:=hx.sh.c6;omega) (by omega) hq hx.sh.cap,a0d];simp only[jn];have key:=V5 ds (λb d=>b++outs x.S d) id (λk b=>b.length<=4*k) (b0:=[]) (f:=λ((s49,s50):Int × (List Int))=>
   if (decide (s49<(ds.length:Int))) then
    (ix ds s49).bind λv53=>
    (w9 (Mj x ds).S v53).bind λv54=>
    (jI v54.1.Fields).bind λv55=>
    (app 8 s50 v55).bind λv56=>
    some (Sum.inl (u4 (s49+1),v56))
   else
   some (.inr s50)) (by omega) (by simp) (λk hk b hb=>?_) (λb hb=>by simp)
 .rw[key,a0d,rZ,zcj];dsimp only[id];rw[show (Mj x ds).T=x.T from rfl,w1,a0d];have ol2:=ol;rw[zL] at ol2;rw[J0 (by omega) (by omega),a0d];have k1:=Lt (y:=⟨(Mj x ds).S,(Mj x ds).Roots,(Mj x ds).b7,(lO x.T ds).1,(Mj x ds).Q⟩) hR hn hm (by omega) (K:=λe=>(lp (S:=Int × b9) (E:=b9) (λ((s35,s36):Int × b9)=>
     if (decide (s35<((ds.flatMap (outs x.S)++(lO x.T ds).2).length:Int))) then
      (ix (ds.flatMap (outs x.S)++(lO x.T ds).2) s35).bind λv39=>
      (E3 s36 v39).bind λv40=>
      some (.inl (u4 (s35+1),v40))
     else
     some (.inr s36)) (0,e)).bind λe34=>some e34)
  refine zct k1 ?_;have g:=eT ds hR hn hm;have k2:=DQ (y:=wS (⟨(Mj x ds).S,(Mj x ds).Roots,(Mj x ds).b7,(lO x.T ds).1,(Mj x ds).Q⟩:Hp) (oW x.S ds)) g.sr _ (by omega) (Su hx hn hm) (K:=λe34=>some e34);refine zct k2 ?_;rfl
 .have hd:=hm _ (zh hk);have f4:=Jm hx hn hm hd;have o4:=JQ hx hn hm hd;simp only[we,hk,ul,zY,r9 hk,a0d,show (Mj x ds).S=x.S from rfl,yI hR hd,FJ _ (by omega:(ob x.S ds[k]).Fields.length<=1000000)];have e:nz (ob x.S ds[k]).Fields=outs x.S ds[k]:=rfl;rw[e,J0 (by omega) (by omega),a0d,n9];exact⟨rfl,by rw[zL];omega⟩
end
theorem Ri{x:Hp}(hR:SR x.S)(hS:SL x){ds:List Int}(hn:ds.Nodup)(hm:∀d∈ds,d∈lv x.S)(t:Tb):SL (jM x ds t):=λk hk=>by
 have g:=eT ds hR hn hm;have hk:k∈lv (oW x.S ds):=hk;rw[g.lv,zj,zG] at hk;have e:ob (jM x ds t).S k=ob x.S k:=g.ob k hk.1 hk.2;rw[e];exact hS k hk.1
theorem MU{x:Hp}(hR:SR x.S)(hS:SL x){ds:List Int}(hn:ds.Nodup)(hm:∀d∈ds,d∈lv x.S):SL (gV x ds):=
 DS _ (x:=jM x ds (lO x.T ds).1) (eT ds hR hn hm).sr (Ri hR hS hn hm _)
theorem Pb{x:Hp}(hR:SR x.S)(hS:SL x){h:Int}(hh:h∈lv x.S):SL (gQ x h):=by
 have hok:=Kp hR hh;have r1:=bZ (o:=fL (ob x.S h)) hR hh rfl hok;refine SL.E8 (x:=⟨df x.S h (fL (ob x.S h)),x.Roots,x.b7,x.T,⟨x.Q.L ++ [Bc x h],x.Q.Cap⟩⟩) (λk hk=>?_) r1 h;dsimp only at hk |-;rw[iV (o:=fL (ob x.S h)) hR hh rfl hok] at hk;rw[gw (o:=fL (ob x.S h)) hR hh rfl hok (rB hR hk)];split;·exact hS h hh
 .exact hS k hk
theorem WN{x:Hp}(hx:K6 x)(hS:SL x):SL (GK x):=by
 cases h:zr x with
 | nil=>rw[od h];exact hS
 | cons z l=>
  have hz:=(de.1 (show z∈zr x by rw[h];exact zg ..)).1;rw[kq h];split;·exact Pb hx.sh.sr hS hz
  .exact MU hx.sh.sr hS (by simp) (by simpa using hz)
theorem Ii{x:Hp}(hx:K6 x)(hS:SL x)(n:Nat):SL (oU n x):=by
 induction n with
 | zero=>exact hS
 | succ n ih=>rw[fM];exact WN (Q2 hx n) ih
theorem Ko{x:Hp}(hx:K6 x)(hS:SL x):SL (bJ x):=Ii hx hS 100
section
variable{x:Hp}(hx:K6 x)(hS:SL x)
include hx hS
theorem Mi{z:Int}(hz:z∈zr x):(x.Q.L++jN x.b7 [z]).length<=30:=by
 have h1:=(AY hx hz).sh.q30;have hzl:=(de.1 hz).1;rw[(sZ hx.sh.sr (ds:=[z]) (by simp) (by simpa using hzl)).2.2.2] at h1;exact h1
theorem LS(h:zr x = []):((eF x).bind λv4=>
  if ((v4.length:Int)==0) then
   some (Sum.inr x)
  else
  (ix v4 0).bind λv5=>
  (w9 x.S v5).bind λv6=>
  (P5 v6.1).bind λv7=>
  if v7 then
   (X8 x v5).bind λv8=>
   some (.inl v8)
  else
  (cut v4 0 1).bind λv9=>
  (ca x v9).bind λv10=>
  some (Sum.inl (α:=Hp) (β:=Hp) v10))=some (.inr x):=by
 rw[zero_eq hx.sh.sr,a0d,h];rfl
theorem Zc(z:Int)(l:List Int):cut (z::l) 0 1=some [z]:=by
 unfold cut;rw[zb (by simp;omega)];simp
theorem HZ(h:zr x ≠ []):((eF x).bind λv4=>
  if ((v4.length:Int)==0) then
   some (Sum.inr x)
  else
  (ix v4 0).bind λv5=>
  (w9 x.S v5).bind λv6=>
  (P5 v6.1).bind λv7=>
  if v7 then
   (X8 x v5).bind λv8=>
   some (.inl v8)
  else
  (cut v4 0 1).bind λv9=>
  (ca x v9).bind λv10=>
  some (Sum.inl (α:=Hp) (β:=Hp) v10))=some (.inl (GK x)):=by
 cases hz:zr x with
 | nil=>exact absurd hz h
 | cons z l=>
  have hzm:z∈zr x:=by rw[hz];exact zg ..
  have hzl:=(de.1 hzm).1;have hR:=hx.sh.sr;rw[zero_eq hR,a0d,hz,za (by simp;omega),show ix (z::l) 0=some z from rfl,a0d,yI hR hzl,a0d,JT,a0d,kq hz];by_cases hd:due (ob x.S z)=true
  .rw[zb hd,zb hd,Cp hx hS (rB hR hzl),a0d];unfold YV;rw[zb ⟨hzl,hd⟩]
  .rw[za hd,za hd,Zc hx hS,a0d,Jb hx (ds:=[z]) (by simp) (by simpa using hzl) (Mi hx hS hzm) (by rw[tV hR [z] (by simp) (by simpa using rB hR hzl),Oc hzl]),a0d]
theorem jF:R9 x=some (bJ x):=by
 obtain⟨n,hn,h1,h2,h3⟩:=vZ hx;unfold R9;refine mf (λj=>oU j x) rfl n (λ_=>True) (by omega) trivial (λk hk _=>.inl ⟨?_,trivial⟩) (λ_=>⟨oU n x,?_,by rw[h3]⟩)
 .have:=HZ (Q2 hx k) (Ii hx hS k) (h2 k hk);rw[<-fM] at this;exact this
 .exact LS (Q2 hx n) (Ii hx hS n) h1
end
def P7(n l m e:Int):Int:=if n<l\/n > m then e else 0
def cR(a b c:Int):Int:=if a≠0 then a else if b≠0 then b else c
def y6(k a b c:Int):Int:=
 if k=1 then cR (P7 a 0 5 6) (P7 b 0 4 1) (P7 c (-1) 5 13)
 else if k=2\/k=9\/k=10 then cR (P7 a 0 5 6) (P7 b 0 5 6) 0
 else if k=3 then P7 a 0 5 6
 else if k=4 then cR (P7 a 0 5 6) (P7 b 0 5 6) (P7 c 0 3 5)
 else if k=5 then cR (P7 a 0 5 6) (P7 b 0 3 5) (P7 c (-1) 5 6)
 else if k=6 then cR (P7 a 0 5 7) (P7 b (-1) 5 6) (P7 c (-1) 5 13)
 else if k=7 then cR (P7 a 0 5 6) (P7 b 0 5 7) 0
 else if k=8 then cR (P7 a 0 5 6) (P7 b (-1) 5 6) 0
 else if k=11 then 0
 else if k=12 then P7 a 0 200 12
 else 14
def DO:l5:=⟨some 251,0,5,6⟩
def SH:l5:=⟨some 252,0,5,6⟩
def Yd:l5:=⟨some 252,-1,5,6⟩
def Yk:l5:=⟨some 254,-1,5,13⟩
def wu:List (Int × List l5):=[(1,[DO,⟨some 252,0,4,1⟩,Yk]),(2,[DO,SH]),(3,[DO]),(4,[DO,SH,⟨some 254,0,3,5⟩]),
 (5,[DO,⟨some 252,0,3,5⟩,⟨some 254,-1,5,6⟩]),(6,[⟨some 251,0,5,7⟩,Yd,Yk]),(7,[DO,⟨some 252,0,5,7⟩]),(8,[DO,Yd]),(9,[DO,SH]),(10,[DO,SH]),(11,[]),(12,[⟨some 251,0,200,12⟩])]
theorem Hf:nm=some wu:=by kernel_rfl
def iv(o:g7)(d:l5):Int:=if d.part=some 251 then o.A else if d.part=some 252 then o.B else o.C
def rh(o:g7)(d:l5):Bool:=decide (iv o d<d.least)||decide (iv o d > d.most)
def tF(o:g7):List l5->Int ⊕ Unit
 | []=>.inr ()
 | d::ds=>if rh o d then .inl d.e else tF o ds
theorem Fb(o:g7)(d:l5)(ds:List l5):tF o (d::ds)=if rh o d then .inl d.e else tF o ds:=rfl
def Ix(d:l5):Prop:=d.part=some 251\/d.part=some 252\/d.part=some 254
theorem Wg(o:g7){d:l5}(h:Ix d):tH d.part o=some (iv o d):=by
 unfold iv;rcases h with h | h | h
 .rw[h];rfl
 .rw[h];rfl
 .rw[h];rfl
theorem Vz(o:g7)(ds:List l5)(hl:ds.length<=10)(hp:∀d∈ds,Ix d):lp (S:=Int) (E:=Int ⊕ Unit) (λ(s11:Int)=>
   if (decide (s11<(ds.length:Int))) then
    (ix ds s11).bind λv13=>
    (tH v13.part o).bind λv14=>
    if ((decide (v14<v13.least))||(decide (v14 > v13.most))) then
     some (.inr (.inl v13.e))
    else
    some (.inl (u4 (s11+1)))
   else
   some (.inr (.inr ()))) 0=some (tF o ds):=by
 refine oa (Ce ds.length (λk=>tF o ds=tF o (ds.drop k)) (λe=>e=tF o ds) (by omega) rfl (λk hk hP=>?_) (λhP=>?_))
 .rw[zb (by simpa using hk),r9 hk,a0d,Wg o (hp _ (zh hk)),a0d];rw[List.drop_eq_getElem_cons hk,Fb] at hP;by_cases c:rh o ds[k]=true
  .rw[zb (show ((decide (iv o ds[k]<ds[k].least))||(decide (iv o ds[k] > ds[k].most)))=true from c)];rw[zb c] at hP;exact .inr ⟨_,rfl,hP.symm⟩
  .rw[za (show ¬((decide (iv o ds[k]<ds[k].least))||(decide (iv o ds[k] > ds[k].most)))=true from c),n9];rw[za c] at hP;exact .inl ⟨rfl,hP⟩
 .rw[List.drop_length] at hP;exact⟨_,za (by simp),hP.symm⟩
theorem Ru:∀p∈wu,p.2.length<=10/\∀d∈p.2,Ix d:=by
 have:wu.all (λp=>decide (p.2.length<=10)&&p.2.all λd=>(d.part==some 251)||(d.part==some 252)||(d.part==some 254))=true:=by kernel_rfl
 intro p hp;have:=zf.1 this p hp;rw[zy,zG,zf] at this;refine⟨this.1,λd hd=>?_⟩;have:=this.2 d hd;simp only[zbu,pu] at this;unfold Ix;rcases this with (h | h) | h
 .exact .inl h
 .exact .inr (.inl h)
 .exact .inr (.inr h)
theorem JI{m:List (Int × List l5)}{k:Int}{v:List l5}(h:A1 m k=some v):(k,v)∈m:=by
 induction m with
 | nil=>cases h
 | cons p m ih=>
  unfold A1 at h;split at h
  .rename_i c;have:k=p.1:=by simpa using c
   cases h;subst this;exact zg ..
  .exact zn _ (ih h)
def uT(o:g7)(ds:List l5):Int:=match tF o ds with
 | .inl e=>e
 | .inr _=>0
theorem Ts(o:g7):uT o []=0:=rfl
theorem uU(o:g7)(d:l5)(ds:List l5):uT o (d::ds)=if rh o d then d.e else uT o ds:=by
 unfold uT;rw[Fb];cases rh o d <;> rfl
theorem Dl(o:g7)(d:l5):P7 (iv o d) d.least d.most d.e=if rh o d then d.e else 0:=by
 unfold P7 rh;by_cases h:iv o d<d.least\/iv o d > d.most
 .rw[zb h,zb (by simpa using h)]
 .rw[za h,za (by simpa using h)]
theorem Tq(o:g7)(d:l5):uT o [d]=P7 (iv o d) d.least d.most d.e:=by rw[uU,Ts,Dl]
theorem PL(o:g7)(d e:l5)(h1:d.e≠0):uT o [d,e]=cR (P7 (iv o d) d.least d.most d.e) (P7 (iv o e) e.least e.most e.e) 0:=by
 rw[uU,Tq,Dl o d];unfold cR;cases rh o d
 .simp only[zA,un,ne_eq,not_true_eq_false];split;·rfl
  .rename_i h;simpa using h
 .simp[h1]
theorem Tr(o:g7)(d e f:l5)(h1:d.e≠0)(h2:e.e≠0):uT o [d,e,f]=cR (P7 (iv o d) d.least d.most d.e) (P7 (iv o e) e.least e.most e.e) (P7 (iv o f) f.least f.most f.e):=by
 rw[uU,uU,Tq,Dl o d,Dl o e];unfold cR;cases rh o d <;> cases rh o e <;> simp[h1,h2]
theorem NX(o:g7):(match A1 wu o.Kind with
  | none=>14
  | some ds=>uT o ds)=y6 o.Kind o.A o.B o.C:=by
 obtain⟨k,a,b,c⟩:=o;dsimp only;by_cases h:1<=k/\k<=12
 .have:k=1\/k=2\/k=3\/k=4\/k=5\/k=6\/k=7\/k=8\/k=9\/k=10\/k=11\/k=12:=by omega
  rcases this with rfl | rfl | rfl | rfl | rfl | rfl | rfl | rfl | rfl | rfl | rfl | rfl
  .exact Tr _ _ _ _ (by decide) (by decide)
  .exact PL _ _ _ (by decide)
  .exact Tq _ _
  .exact Tr _ _ _ _ (by decide) (by decide)
  .exact Tr _ _ _ _ (by decide) (by decide)
  .exact Tr _ _ _ _ (by decide) (by decide)
  .exact PL _ _ _ (by decide)
  .exact PL _ _ _ (by decide)
  .exact PL _ _ _ (by decide)
  .exact PL _ _ _ (by decide)
  .rfl
  .exact Tq _ _
 .have e:A1 wu k=none:=by
   cases hm:A1 wu k with
   | none=>rfl
   | some v=>
    have:=JI hm;simp only[wu,zM,Prod.mk.injEq,zcm,or_false] at this;omega
  rw[e];unfold y6;repeat rw[za (by omega)]
theorem pb(o:g7):W8 o=some (y6 o.Kind o.A o.B o.C):=by
 rw[<-NX];unfold W8;rw[Hf,a0d];cases h:A1 wu o.Kind with
 | none=>rfl
 | some ds=>
  obtain⟨h1,h2⟩:=Ru _ (JI h);rw[za (by simp)];simp only[jn,ut];rw[Vz o ds h1 h2,a0d];unfold uT;cases tF o ds <;> rfl
theorem RG(n l m e:Int):dT n l m e=some (P7 n l m e):=by
 unfold dT P7;by_cases h:n<l\/n > m
 .rw[zb h,zb (by simpa using h)]
 .rw[za h,za (by simpa using h)]
theorem NA(a b c:Int):cJ a b c=some (cR a b c):=by
 unfold cJ cR;by_cases h:a=0
 .by_cases g:b=0
  .rw[za (by simpa using h),za (by simpa using g),za (by simpa using h),za (by simpa using g)]
  .rw[za (by simpa using h),zb (by simpa using g),za (by simpa using h),zb (by simpa using g)]
 .rw[zb (by simpa using h),zb (by simpa using h)]
theorem Je(o:fE):gu o=some (y6 o.Kind o.A o.B o.C):=by
 unfold gu y6;simp only[RG,NA,a0d,jn];by_cases h:1<=o.Kind/\o.Kind<=12
 .have:o.Kind=1\/o.Kind=2\/o.Kind=3\/o.Kind=4\/o.Kind=5\/o.Kind=6\/o.Kind=7\/o.Kind=8\/o.Kind=9\/o.Kind=10\/o.Kind=11\/o.Kind=12:=by omega
  rcases this with h | h | h | h | h | h | h | h | h | h | h | h <;> rw[h] <;> rfl
 .have n:∀j:Int,1<=j->j<=12->(o.Kind==j)=false:=λj h1 h2=>by
   rw[beq_eq_false_iff_ne];omega
  simp only[n 1 (by omega) (by omega),n 2 (by omega) (by omega),n 3 (by omega) (by omega),n 4 (by omega) (by omega),n 5 (by omega) (by omega),n 6 (by omega) (by omega),n 7 (by omega) (by omega),n 8 (by omega) (by omega),n 9 (by omega) (by omega),n 10 (by omega) (by omega),n 11 (by omega) (by omega),n 12 (by omega) (by omega),zA,un];repeat rw[za (by omega)]
theorem SQ{x:Hp}(hx:K6 x){ds:List Int}:(x.Q.L++jN x.b7 ds).length<=30:=by
 have hS:=hx.sh;have c6:=hS.c6;have h24:(lv x.S).length<=24:=L4 (z8.2 hS.sr);have htd:(x.Q.L++jN x.b7 ds).Pairwise λa b=>¬(a.Kind=b.Kind/\a.At=b.At):=by
  rw[zat];refine⟨hS.td,BO ..,λa ha b hb q=>?_⟩;obtain⟨w,hw,rfl,hh,_⟩:=gM.1 hb;have hi:x.b7[w].Intact=true:=by
   unfold ji at hh;rw[zy,zy] at hh;exact hh.1.1
  have:=((hS.cl w hw).2.2.2.2 hi).2;rw[zbl] at this;exact this (gU.2 ⟨a,ha,q.1,q.2⟩)
 have:=AK (m:=lv x.S) htd λt ht=>by
  rcases zu.1 ht with q | q
  .rcases (hS.tk t q).2.2 with c | c
   .exact .inl ⟨c.1,c.2.1⟩
   .exact .inr c
  .obtain⟨w,hw,rfl,_,_⟩:=gM.1 q;exact .inr ⟨rfl,by dsimp only;omega,by dsimp only;omega⟩
 omega
section
variable{x:Hp}(hB:HB x)
include hB
end
structure ED (x y:Hp):Prop where
 lv:∀h∈lv y.S,h∈lv x.S
 bw:y.S.Serial=x.S.Serial
 len:y.S.S.b7.length=x.S.S.b7.length
 ob:∀h∈Sh.lv y.S,(ob y.S h).Serial=(ob x.S h).Serial/\(Sh.ob y.S h).Prog=(Sh.ob x.S h).Prog/\(Sh.ob y.S h).Fields=(Sh.ob x.S h).Fields/\((Sh.ob x.S h).Started=true->(Sh.ob y.S h).Started=true)
 rt:y.Roots=x.Roots
 cn:y.b7.length=x.b7.length
 cl:∀i (h:i<y.b7.length) (h':i<x.b7.length),y.b7[i]=⟨x.b7[i].Target,x.b7[i].Intact&&decide (x.b7[i].Target∈Sh.lv y.S),x.b7[i].Call⟩
 q:∃l,y.Q=⟨x.Q.L++l,x.Q.Cap⟩/\(∀t∈l,t.Kind=1->t.At∈Sh.lv x.S/\(Sh.ob x.S t.At).Started=false)/\∀h∈Sh.lv y.S,(Sh.ob y.S h).Started=true->(Sh.ob x.S h).Started=false->∃t∈l,t.Kind=1/\t.At=h
 rc:∀h,bh x.S x.T (oO x) h->bh y.S y.T (oO y) h
 has:∀k v,Has y.T k v->Has x.T k v
theorem ED.refl{x:Hp}(hx:jJ x):ED x x:=by
 refine⟨λ_ h=>h,rfl,rfl,λh _=>⟨rfl,rfl,rfl,id⟩,rfl,rfl,λi h h'=>?_,⟨[],by simp,by simp,λh _ a b=>?_⟩,λ_ h=>h,λ_ _ h=>h⟩
 .have:=(hx.cl i h).2.2.2.2;cases hI:x.b7[i].Intact;·rw[Bool.false_and,<-hI]
  .rw[zB (this hI).1,Bool.and_self,<-hI]
 .rw[a] at b;cases b
theorem ED.trans{x y z:Hp}(a:ED x y)(b:ED y z):ED x z:=by
 obtain⟨l1,q1,q2,q3⟩:=a.q;obtain⟨l2,r1,r2,r3⟩:=b.q;refine⟨λh hh=>a.lv h (b.lv h hh),b.bw.trans a.bw,b.len.trans a.len,λh hh=>?_,b.rt.trans a.rt,b.cn.trans a.cn,λi h h'=>?_,⟨l1++l2,?_,λt ht hk=>?_,λh hh s1 s2=>?_⟩,λh hh=>b.rc h (a.rc h hh),λk v hh=>a.has k v (b.has k v hh)⟩
 .obtain⟨b1,b2,b3,b4⟩:=b.ob h hh;obtain⟨a1,a2,a3,a4⟩:=a.ob h (b.lv h hh);exact⟨b1.trans a1,b2.trans a2,b3.trans a3,λq=>b4 (a4 q)⟩
 .have hy:i<y.b7.length:=by rw[a.cn];exact h'
  rw[b.cl i h hy,a.cl i hy h'];dsimp only;congr 1;rw[Bool.and_assoc];congr 1;by_cases q:x.b7[i].Target∈Sh.lv z.S
  .rw[zB q,zB (b.lv _ q)];rfl
  .rw[zQ q,Bool.and_false]
 .rw[r1,q1,zai]
 .rcases zu.1 ht with q | q
  .exact q2 t q hk
  .obtain⟨e1,e2⟩:=r2 t q hk;refine⟨a.lv _ e1,?_⟩;cases hs:(Sh.ob x.S t.At).Started;·rfl
   .rw[(a.ob _ e1).2.2.2 hs] at e2;cases e2
 .cases hs:(Sh.ob y.S h).Started
  .obtain⟨t,ht,e⟩:=r3 h hh s1 hs;exact⟨t,t8 _ ht,e⟩
  .obtain⟨t,ht,e⟩:=q3 h (b.lv h hh) hs s2;exact⟨t,t7 _ ht,e⟩
theorem Kl(s:b6)(h:Int)(o:n0):(df s h o).S.b7.length=s.S.b7.length:=K0 ..
theorem SE{x:Hp}(hx:K6 x){z:Int}(hz:z∈lv x.S)(hs:(ob x.S z).Started=false):ED x (gQ x z):=by
 have hR:=hx.sh.sr;obtain⟨k,e1,e2,e3,e4⟩:=nH hR hz;have l1:=DJ hR hz;have hob:∀h∈lv x.S,(ob (gQ x z).S h).Serial=(ob x.S h).Serial/\(ob (gQ x z).S h).Prog=(ob x.S h).Prog/\(ob (gQ x z).S h).Fields=(ob x.S h).Fields/\((ob (gQ x z).S h).Started=true↔(ob x.S h).Started=true\/h=z):=λh hh=>by
  obtain⟨n,e⟩:=Ak hR hz hh;rw[e];by_cases q:h=z
  .subst q;rw[zb rfl];exact⟨rfl,rfl,rfl,by simp⟩
  .rw[za q];exact⟨rfl,rfl,rfl,by simp[q]⟩
 have hot:∀h∈oO x,h∈oO (gQ x z):=λh hh=>by
  unfold oO at hh |-;rw[e1,e4];rcases zu.1 hh with q | q
  .exact t7 _ q
  .refine t8 _ ?_;obtain⟨t,ht,a,b⟩:=mh.1 q;exact mh.2 ⟨t,t7 _ ht,a,b⟩
 have rf:=ED.refl hx.sh;refine⟨λh hh=>by rw[l1] at hh;exact hh,k.bw,k.len.trans (Kl ..),λh hh=>?_,e1,by rw[e2],λi h h'=>?_,⟨[Bc x z],by rw[e4],λt ht hk=>?_,λh hh s1 s2=>?_⟩,λh hh=>?_,λk v hh=>by rw[e3] at hh;exact hh⟩
 .rw[l1] at hh;obtain⟨a,b,c,d⟩:=hob h hh;exact⟨a,b,c,λq=>d.2 (.inl q)⟩
 .have e5:(gQ x z).b7[i]=x.b7[i]:=by simp only[e2]
  rw[e5,l1];exact rf.cl i h' h'
 .rw[zp] at ht;subst ht;exact⟨hz,hs⟩
 .rw[l1] at hh;rcases (hob h hh).2.2.2.1 s1 with q | q
  .rw[q] at s2;cases s2
  .exact⟨Bc x z,List.mem_singleton_self _,rfl,q.symm⟩
 .induction hh with
  | base h1 h2=>exact .base (hot _ h1) (by rw[l1];exact h2)
  | step h0 h1 h2 ih=>
   refine .step ih ?_ (by rw[l1];exact h2);unfold outs at h1 |-;rw[(hob _ h0.live).2.2.1];exact h1
  | pair h1 h0 h2 ih=>exact .pair (by rw[e3];exact h1) ih (by rw[l1];exact h2)
theorem Rj{x:Hp}(hx:K6 x){z:Int}(hz:z∈zr x):ED x (gV x [z]):=by
 have hR:=hx.sh.sr;have hzl:=(de.1 hz).1;have h0:z≠0:=λe=>eZ hR (e▸hzl);have hfree:=Et hx hz;have hn:([z]:List Int).Nodup:=by simp
 have hm:∀d ∈ [z],d∈lv x.S:=by simpa using hzl
 have g:=eT [z] hR hn hm;have k:=(iz ([z].flatMap (outs x.S)++(lO x.T [z]).2) (x:=jM x [z] (lO x.T [z]).1) g.sr).1;obtain⟨e1,e2,e3,e4⟩:=sZ hR hn hm;obtain⟨_,w2,_,_,w5,w6⟩:=kz hx.sh.hr [z] (by simp);have l1:∀h,h∈lv (gV x [z]).S↔h∈lv x.S/\h≠z:=λh=>by
  rw[GW hR hn hm,zj,zG,zp]
 have hob:∀h∈lv (gV x [z]).S,(ob (gV x [z]).S h).Serial=(ob x.S h).Serial/\(ob (gV x [z]).S h).Prog=(ob x.S h).Prog/\(ob (gV x [z]).S h).Fields=(ob x.S h).Fields/\(ob (gV x [z]).S h).Started=(ob x.S h).Started:=λh hh=>by
  obtain⟨a,b⟩:=(l1 h).1 hh;obtain⟨n,e⟩:=GX hR hn hm a (by simpa using b);rw[e];exact⟨rfl,rfl,rfl,rfl⟩
 refine⟨λh hh=>((l1 h).1 hh).1,k.bw.trans g.bw,k.len.trans g.len,λh hh=>?_,e1,by rw[e2];simp[lS],λi h h'=>?_,⟨jN x.b7 [z],by rw[e4],λt ht hk=>?_,λh hh s1 s2=>?_⟩,λh hh=>?_,λk v hh=>?_⟩
 .obtain⟨a,b,c,d⟩:=hob h hh;exact⟨a,b,c,λq=>d.trans q⟩
 .have e5:(gV x [z]).b7[i]=rO [z] x.b7[i]:=by
   simp only[e2];exact t6 _
  rw[e5];have hc:=(hx.sh.cl i h').2.2.2.2;unfold rO ji;cases hI:x.b7[i].Intact;·rw[za (by simp),Bool.false_and,<-hI]
  .have ht:=(hc hI).1;have ht0:x.b7[i].Target≠0:=λe=>eZ hR (e▸ht);by_cases q:x.b7[i].Target=z
   .rw[zb (by simp[q,h0]),zQ (λr=>((l1 _).1 r).2 q)];rfl
   .rw[za (by simp[q]),zB ((l1 _).2 ⟨ht,q⟩),Bool.and_self,<-hI]
 .obtain⟨w,hw,rfl,_,_⟩:=gM.1 ht;simp at hk
 .rw[(hob h hh).2.2.2,s2] at s1;cases s1
 .unfold lk at hfree;have key:bh (gV x [z]).S (gV x [z]).T (oO (gV x [z])) h/\h≠z:=by
   induction hh with
   | base h1 h2=>
    rename_i a;have hne:a≠z:=λe=>by
     subst e;exact Gu h0 (by omega:T3 (oO x) a=0) h1
    refine⟨.base ?_ ((l1 _).2 ⟨h2,hne⟩),hne⟩;unfold oO at h1 |-;rw[e1,e4,yK _ _ _ λt ht=>by
     obtain⟨w,_,rfl,_⟩:=gM.1 ht;simp]
    exact h1
   | step q0 q1 q2 ih=>
    rename_i a b;have hne:b≠z:=λe=>by
     subst e;have:=Dp (y:=b) q0.live;have h1:=jw.2 ⟨h0,q1⟩;omega
    refine⟨.step ih.1 ?_ ((l1 _).2 ⟨q2,hne⟩),hne⟩;unfold outs at q1 |-;rw[(hob _ ((l1 _).2 ⟨q0.live,ih.2⟩)).2.2.1];exact q1
   | pair q1 q0 q2 ih=>
    rename_i a b;have hne:b≠z:=λe=>by
     subst e;have:=DF q1 h0;omega
    exact⟨.pair (by rw[e3];exact (w5 _ _).2 ⟨by simpa using ih.2,q1⟩) ih.1 ((l1 _).2 ⟨q2,hne⟩),hne⟩
  exact key.1
 .rw[e3] at hh;exact ((w5 _ _).1 hh).2
theorem Tf{x:Hp}(hx:K6 x):ED x (GK x):=by
 cases h:zr x with
 | nil=>rw[od h];exact ED.refl hx.sh
 | cons z l=>
  have hz:z∈zr x:=by rw[h];exact zg ..
  rw[kq h];split
  .rename_i q;unfold due at q;rw[zy,zG,zb9] at q;exact SE hx (de.1 hz).1 q.2
  .exact Rj hx hz
theorem Td{x:Hp}(hx:K6 x)(n:Nat):ED x (oU n x):=by
 induction n with
 | zero=>exact ED.refl hx.sh
 | succ n ih=>rw[fM];exact ih.trans (Tf (Q2 hx n))
theorem mM{x:Hp}(hx:K6 x):ED x (bJ x):=Td hx 100
theorem JE{T E R:Type}{f:T × Int->Option ((T × Int) ⊕ E)}{t0:T}{κ:E->Option R}{r:R}(n:Nat)(P:Nat->T->Prop)(hn:n<4611686018427387904)(h0:P 0 t0)
  (hs:∀k t,k<n->P k t->∃t',f (t,(k:Int))=some (.inl (t',((k+1:Nat):Int)))/\P (k+1) t')(he:∀t,P n t->∃e,f (t,(n:Int))=some (.inr e)/\κ e=some r):(lp f (t0,0)).bind κ=some r:=by
 refine RR (λ(s:T × Int)=>∃k:Nat,s.2=(k:Int)/\k<=n/\P k s.1) (λs=>n-s.2.toNat) ⟨0,rfl,zW _,h0⟩ (by show n-_<_;omega) ?_;rintro⟨t,_⟩ ⟨k,rfl,hk,hP⟩;rcases zD k n with h1 | h1
 .obtain⟨t',k1,k2⟩:=hs k t h1 hP;exact .inl ⟨_,k1,⟨k+1,rfl,h1,k2⟩,by show n-_<n-_;simp;omega⟩
 .have:k=n:=by omega
  subst this;exact .inr (he t hP)
section
variable{x:Hp}(hB:HB x)
include hB
end
structure Ks (s s':b6):Prop where
 sr:SR s'
 bw:s'.Serial=s.Serial
 lv:lv s'=lv s
 ob:∀h∈Sh.lv s,(ob s' h).Serial=(ob s h).Serial
theorem Ks.refl{s:b6}(hR:SR s):Ks s s:=⟨hR,rfl,rfl,λ_ _=>rfl⟩
theorem Ks.trans{a b c:b6}(h:Ks a b)(q:Ks b c):Ks a c:=⟨q.sr,q.bw.trans h.bw,q.lv.trans h.lv,λk hk=>(q.ob k (by rw[h.lv];exact hk)).trans (h.ob k hk)⟩
theorem wo.ks{s s':b6}(hR:SR s)(k:wo s s'):Ks s s':=⟨k.sr,k.bw,k.lv,λh hh=>by
 obtain⟨n,e⟩:=k.ob h (by have:=H2 hR hh;omega);rw[e]⟩
theorem Kn.ks{s s':b6}(k:Kn s s')(e:s'.Serial=s.Serial):Ks s s':=⟨k.sr,e,k.lv,λh hh=>by
 obtain⟨n,m,e⟩:=k.ob h hh;rw[e]⟩
theorem WB{s:b6}(hR:SR s){h:Int}(hh:h∈lv s){o:n0}(hs:o.Serial=(ob s h).Serial)(ho:AZ s o):Ks s (df s h o):=⟨bZ hR hh hs ho,rfl,iV hR hh hs ho,λk hk=>by
 rw[gw hR hh hs ho (by have:=H2 hR hk;omega)];split;·rename_i e;subst e;exact hs
 .rfl⟩
theorem DX{x:Hp}(hR:SR x.S)(h:Int):Ks x.S (E8 x h).S:=(I1 hR h λc=>E7).ks hR
theorem DT{x:Hp}(hR:SR x.S)(h:Int):Ks x.S (aK x h).S:=(I1 hR h λc=>Q0).ks hR
theorem Au(x:Hp)(h:Int):(aK x h).Roots=x.Roots/\(aK x h).b7=x.b7/\(aK x h).T=x.T/\(aK x h).Q=x.Q:=AF x h lD
theorem du{x:Hp}(hR:SR x.S)(r:Nat)(h:Int):Ks x.S (G6 x r h).S:=
 (DX hR h).trans (DT (x:=wR (E8 x h) (x.Roots.set r h)) (km hR h) _)
theorem BR{x:Hp}(hR:SR x.S){h:Int}(hh:h∈lv x.S){n:Nat}(hn:n<(ob x.S h).Fields.length)(v:Int):Ks x.S (bP x h n v).S:=by
 have k1:=DX hR v;have hh1:h∈lv (E8 x v).S:=by rw[k1.lv];exact hh
 have hof:(ob (E8 x v).S h).Fields=(ob x.S h).Fields:=by
  obtain⟨n,e⟩:=(I1 hR v (f:=Z7) λc=>E7).ob h (by have:=H2 hR hh;omega);show (ob (uO x v Z7).S h).Fields=_;rw[e]
 have ho:AZ (E8 x v).S (rX (ob (E8 x v).S h) ((ob x.S h).Fields.set n v)):=by
  have:=K5 k1.sr hh1;refine⟨this.s1,this.s2,this.st,this.wk,this.p1,this.p2,?_⟩;have h4:=this.fl;rw[hof] at h4;simpa using h4
 have k2:=WB (o:=rX (ob (E8 x v).S h) ((ob x.S h).Fields.set n v)) k1.sr hh1 rfl ho;exact (k1.trans k2).trans (DT (x:=wS (E8 x v) (df (E8 x v).S h (rX (ob (E8 x v).S h) ((ob x.S h).Fields.set n v)))) k2.sr _)
theorem pn(x:Hp)(h:Int)(n:Nat)(v:Int):(bP x h n v).Roots=x.Roots/\(bP x h n v).b7=x.b7/\(bP x h n v).T=x.T/\(bP x h n v).Q=x.Q:=by
 obtain⟨a,b,c,d⟩:=Au (wS (E8 x v) (df (E8 x v).S h (rX (ob (E8 x v).S h) ((ob x.S h).Fields.set n v)))) ((ob x.S h).Fields.getD n 0);obtain⟨a',b',c',d'⟩:=uJ x v;exact⟨a.trans a',b.trans b',c.trans c',d.trans d'⟩
theorem FN{x:Hp}(hR:SR x.S)(v:Int)(t:Tb)(old:Int):Ks x.S (ja x v t old).S:=
 (DX hR v).trans (DT (x:=wT (E8 x v) t) (km hR v) old)
theorem sy(x:Hp)(v:Int)(t:Tb)(old:Int):(ja x v t old).Roots=x.Roots/\(ja x v t old).b7=x.b7/\(ja x v t old).T=t/\(ja x v t old).Q=x.Q:=by
 obtain⟨a,b,c,d⟩:=Au (wT (E8 x v) t) old;obtain⟨a',b',c',d'⟩:=uJ x v;exact⟨a.trans a',b.trans b',c,d.trans d'⟩
theorem Vh{s:b6}(hR:SR s){i:Nat}(hi:i<s.S.b7.length)(h2:(ce s i).State=2):Ks s (Ew s i):=⟨Dh hR hi,rfl,Df hR hi h2,λh hh=>by rw[Dg hR hi h2 hh]⟩
theorem VG{x:Hp}(hR:SR x.S)(h:Int){d:Int}(hd:U6 x.S h (D7 h)->0<=(ce x.S (D7 h)).Val.Weak+d):Ks x.S (iN x h d).S:=by
 unfold iN;split
 .rename_i q;exact (nA hR q.1 q.2.1 (hd q)).ks rfl
 .exact Ks.refl hR
theorem Oq(x:Hp)(h d:Int):(iN x h d).Roots=x.Roots/\(iN x h d).b7=x.b7/\(iN x h d).T=x.T/\(iN x h d).Q=x.Q:=by
 unfold iN;split <;> exact⟨rfl,rfl,rfl,rfl⟩
theorem Mf(x:Hp)(h:Int):(qh x h).Roots=x.Roots/\(qh x h).b7=x.b7/\(qh x h).T=x.T/\(qh x h).Q=x.Q:=by
 unfold qh;split;·split <;> exact⟨rfl,rfl,rfl,rfl⟩
 .exact⟨rfl,rfl,rfl,rfl⟩
theorem Kv{x:Hp}(hR:SR x.S)(h:Int)(hd:U6 x.S h (D7 h)->1<=(ce x.S (D7 h)).Val.Weak):Ks x.S (qh x h).S:=by
 unfold qh;split
 .rename_i q;have hd:=hd q;have kn:=nA (d:=-1) hR q.1 q.2.1 (by omega);split
  .rename_i c;have hi1:D7 h<(mi x.S (D7 h) (-1)).S.b7.length:=by rw[kn.len];exact q.1
   have hce:ce (mi x.S (D7 h) (-1)) (D7 h)=⟨(ce x.S (D7 h)).State,(ce x.S (D7 h)).Gen,YZ (ce x.S (D7 h)).Val ((ce x.S (D7 h)).Val.Weak + -1)⟩:=by
    rw[fh hR q.1 q.2.1,zb rfl]
   have h2:(ce (mi x.S (D7 h) (-1)) (D7 h)).State=2:=by rw[hce];exact c.1
   exact (kn.ks rfl).trans (Vh kn.sr hi1 h2)
  .exact kn.ks rfl
 .exact Ks.refl hR
theorem Gz{x:Hp}(hx:K6 x){n:Nat}(hn:n<6)(h call:Int):Ks x.S (cT x n h call).S:=by
 have hR:=hx.sh.sr;have hnl:n<x.b7.length:=by have:=hx.sh.c6;omega
 have ok:∀k i,U6 x.S k i->0<=(ce x.S i).Val.Weak:=λk i q=>(hR.ok i q.1 q.2.1).wk;have tw:∀i,U6 x.S (mO x n) i->1<=(ce x.S i).Val.Weak:=λi q=>by
  have htg:mO x n=x.b7[n].Target:=by
   unfold mO;rw[zd,zc hnl];rfl
  have r:=q.LR hR;have p:=uk hnl (by rw[<-htg];omega);rw[<-htg,q.2.2] at p;have:=(hx.wk i q.1 q.2.1).1;omega
 unfold cT;have s1:Ks x.S (iN (wC x (x.b7.set n (fP h call))) h 1).S:=VG (x:=wC x (x.b7.set n (fP h call))) hR h λq=>by
  have:=ok _ _ q;dsimp only;omega
 by_cases q:U6 x.S h (D7 h)
 .have e:iN (wC x (x.b7.set n (fP h call))) h 1=wS (wC x (x.b7.set n (fP h call))) (mi x.S (D7 h) 1):=by
   unfold iN;rw[zb q]
  have hd:=ok _ _ q;have kn:=nA (d:=1) hR q.1 q.2.1 (by omega);rw[e] at s1 |-;refine s1.trans (Kv (x:=wS (wC x (x.b7.set n (fP h call))) (mi x.S (D7 h) 1)) kn.sr _ λq2=>?_);dsimp only at q2 |-;have q3:=(kn.ad _ _).1 q2;have:=tw _ q3;rw[fh hR q.1 q.2.1];split
  .rename_i e2;rw[e2] at this;show 1<=(ce x.S (D7 h)).Val.Weak+1;omega
  .exact this
 .have e:iN (wC x (x.b7.set n (fP h call))) h 1=wC x (x.b7.set n (fP h call)):=by
   unfold iN;rw[za q]
  rw[e] at s1 |-;exact s1.trans (Kv (x:=wC x (x.b7.set n (fP h call))) hR _ λq2=>tw _ q2)
theorem AS(x:Hp)(n:Nat)(h call:Int):(cT x n h call).Roots=x.Roots/\(cT x n h call).b7=x.b7.set n (fP h call)/\(cT x n h call).T=x.T/\(cT x n h call).Q=x.Q:=by
 obtain⟨a,b,c,d⟩:=Mf (iN (wC x (x.b7.set n (fP h call))) h 1) (mO x n);obtain⟨a',b',c',d'⟩:=Oq (wC x (x.b7.set n (fP h call))) h 1;exact⟨a.trans a',b.trans b',c.trans c',d.trans d'⟩
abbrev YT(s:b6)(n:Nat)(p:Int):n0:=⟨s.Serial+1,0,0,p,false,List.replicate n 0⟩
def dA(s:b6)(i n:Nat)(p:Int):b6:=⟨⟨s.S.b7.set i ⟨1,(ce s i).Gen,YT s n p⟩,s.S.Last⟩,s.Serial+1⟩
section
variable{s:b6}(hR:SR s){i:Nat}(hi:i<s.S.b7.length)(h0:(ce s i).State=0){n:Nat}(hn:n<=4){p:Int}(hp : -1<=p/\p<=5)
include hR hi h0 hn hp
theorem jX:(dA s i n p).S.b7.length=s.S.b7.length:=by simp[dA]
theorem mj(j:Nat):ce (dA s i n p) j=if j=i then ⟨1,(ce s i).Gen,YT s n p⟩ else ce s j:=yG hi _ _ j
theorem FH:SR (dA s i n p):=by
 have hser:=hR.bw;have hc:=hR.cell i hi;have hnt:¬Th (ce s i):=λh=>by
  rcases h with h | h <;> omega
 refine⟨by rw[jX hR hi h0 hn hp];exact hR.len,hR.l0,hR.l9,by show 0<=s.Serial+1;omega,λj hj=>?_,λj hj ht=>?_,λj hj ht=>?_,λj k hj hk a b e=>?_⟩
 .rw[jX hR hi h0 hn hp] at hj;rw[mj hR hi h0 hn hp];split;·exact⟨show (0:Int)<=1 by decide,show (1:Int)<=3 by decide,hc.2.2.1,hc.2.2.2⟩
  .exact hR.cell j hj
 .rw[jX hR hi h0 hn hp] at hj;rw[mj hR hi h0 hn hp] at ht |-;split at ht;·exact absurd (.inl rfl) ht
  .rename_i e;rw[za e];exact hR.no j hj ht
 .rw[jX hR hi h0 hn hp] at hj;rw[mj hR hi h0 hn hp] at ht |-;split at ht
  .rename_i e;rw[zb e];exact⟨by show 1<=s.Serial+1;omega,zag _,zag 0,zag 0,hp.1,hp.2,by simpa using hn⟩
  .rename_i e;rw[za e];have:=hR.ok j hj ht;exact⟨this.s1,by show _<=s.Serial+1;have:=this.s2;omega,this.st,this.wk,this.p1,this.p2,this.fl⟩
 .rw[jX hR hi h0 hn hp] at hj hk;rw[mj hR hi h0 hn hp] at a e;rw[mj hR hi h0 hn hp] at b e;have old:∀m,m<s.S.b7.length->Th (ce s m)->(ce s m).Val.Serial≠s.Serial+1:=λm hm t q=>by
   have:=(hR.ok m hm t).s2;omega
  by_cases ej:j=i <;> by_cases ek:k=i
  .rw[ej,ek]
  .rw[za ek] at b e;rw[zb ej] at e;exact absurd e.symm (old k hk b)
  .rw[za ej] at a e;rw[zb ek] at e;exact absurd e (old j hj a)
  .rw[za ej] at a e;rw[za ek] at b e;exact hR.dif j k hj hk a b e
theorem Ab{k:Int}{j:Nat}(q:U6 s k j):j≠i:=λe=>by
 subst e;rcases q.2.1 with h | h <;> omega
theorem On{k:Int}{j:Nat}:U6 (dA s i n p) k j↔U6 s k j\/(j=i/\k=cu s i):=by
 unfold U6;rw[jX hR hi h0 hn hp,mj hR hi h0 hn hp];by_cases e:j=i
 .rw[zb e];subst e;constructor
  .rintro⟨a,b,c⟩;exact .inr ⟨rfl,c⟩
  .rintro (⟨a,b,c⟩ | ⟨_,c⟩);·exact absurd rfl (Ab hR hi h0 hn hp ⟨a,b,c⟩)
   .exact⟨hi,.inl rfl,c⟩
 .rw[za e];constructor;·exact .inl
  .rintro (h | ⟨h,_⟩);·exact h
   .exact absurd h e
theorem Cj:lv (dA s i n p)=lv s ++ [cu s i]:=by
 have e:=HA (s:=s) (z8.2 hR) hi (by rw[<-M9 hi];exact h0) (YT s n p) rfl (gK (z8.2 hR));unfold dA;rw[show (ce s i).Gen=s.S.b7[i].Gen by rw[M9 hi]];have e2:cu s i=1+(i:Int)+32*s.S.b7[i].Gen:=by unfold cu;rw[M9 hi]
 rw[e2];have:=gK (z8.2 (by have:=FH hR hi h0 hn hp;unfold dA at this;rw[show (ce s i).Gen=s.S.b7[i].Gen by rw[M9 hi]] at this;exact this));rw[e] at this;exact (zJ this).symm
theorem Oo:cu s i∉lv s:=λh=>by
 obtain⟨j,q⟩:=(ic hR).1 h;have:i=j:=by
  have a:=q.2.2;have b:=q.1;unfold cu at a;have:=hR.len;omega
 subst this;have:=q.2.1;omega
theorem Ck{k:Int}(hk:k∈lv s):ob (dA s i n p) k=ob s k:=by
 obtain⟨j,q⟩:=(ic hR).1 hk;have hj:=Ab hR hi h0 hn hp q.d;have q2:At (dA s i n p) k j:=by
  refine⟨by rw[jX hR hi h0 hn hp];exact q.1,?_,?_⟩ <;> rw[mj hR hi h0 hn hp,za hj]
  .exact q.2.1
  .exact q.2.2
 rw[E9 (FH hR hi h0 hn hp) q2,E9 hR q,mj hR hi h0 hn hp,za hj]
theorem vE:ob (dA s i n p) (cu s i)=YT s n p:=by
 have q2:At (dA s i n p) (cu s i) i:=by
  refine⟨by rw[jX hR hi h0 hn hp];exact hi,?_,?_⟩ <;> rw[mj hR hi h0 hn hp,zb rfl]
  rfl
 rw[E9 (FH hR hi h0 hn hp) q2,mj hR hi h0 hn hp,zb rfl]
end
theorem Kt{l:List Int}{h:Int}(e:h∉l):T3 l h=0:=Nat.eq_zero_of_not_pos λq=>e (jw.1 q).2
theorem Ac{x:Hp}(hx:K6 x){i:Nat}(hi:i<x.S.S.b7.length)(h0:(ce x.S i).State=0){n:Nat}(hn:n<=4){p:Int}(hp : -1<=p/\p<=5):K6 (wS x (dA x.S i n p)):=by
 have hR:=hx.sh.sr;have hS:=FH hR hi h0 hn hp;have hl:=Cj hR hi h0 hn hp;have hnew:=Oo hR hi h0 hn hp;have mem:∀ {k},k∈lv x.S->k∈lv (dA x.S i n p):=λhk=>by rw[hl];exact t7 _ hk
 have mem0:∀ {k},k=0\/k∈lv x.S->k=0\/k∈lv (dA x.S i n p):=λhk=>hk.imp id mem;have hpos:=tN hR hi;have split:∀ {k},k∈lv (dA x.S i n p)->k∈lv x.S\/k=cu x.S i:=λhk=>by
  rw[hl] at hk;rcases zu.1 hk with q | q
  .exact .inl q
  .exact .inr (zp.1 q)
 have rep:∀v∈List.replicate n (0:Int),v=0:=λv hv=>(za9.1 hv).2;have ntgt:∀j (hj:j<x.b7.length),x.b7[j].Target≠cu x.S i:=λj hj e=>by
  obtain⟨q,hq⟩:=(hx.sh.cl j hj).2.2.2.1 (by rw[e];omega);rw[e] at hq;have:q=i:=by
   have a:=hq.2.2;have b:=hq.1;unfold cu at a;have:=hR.len;omega
  exact Ab hR hi h0 hn hp hq this
 refine⟨⟨hS,hx.sh.hr,hx.sh.r6,hx.sh.c6,hx.sh.cap,hx.sh.q30,λt ht=>?_,hx.sh.td,λh hh=>mem0 (hx.sh.rt h hh),λh hh v hv=>?_,λk v hk=>?_,λj hj=>?_⟩,λj hj ht=>?_,λh hh hs=>?_⟩
 .obtain⟨a,b,c⟩:=hx.sh.tk t ht;refine⟨a,b,c.imp (λ⟨d,e,f⟩=>⟨d,mem e,?_⟩) id⟩;show (ob (dA x.S i n p) t.At).Started=true;rw[Ck hR hi h0 hn hp e];exact f
 .rcases split hh with q | q
  .have hv':v∈(ob (dA x.S i n p) h).Fields:=hv;rw[Ck hR hi h0 hn hp q] at hv';exact mem0 (hx.sh.fl h q v hv')
  .subst q;have hv':v∈(ob (dA x.S i n p) (cu x.S i)).Fields:=hv;rw[vE hR hi h0 hn hp] at hv';exact .inl (rep v hv')
 .obtain⟨a,b⟩:=hx.sh.pr k v hk;exact⟨mem a,mem b⟩
 .obtain⟨a,b,c,d,e⟩:=hx.sh.cl j hj;refine⟨a,b,c,λq=>?_,λq=>⟨mem (e q).1,(e q).2⟩⟩;obtain⟨m,hm⟩:=d q;exact⟨m,(On hR hi h0 hn hp).2 (.inl hm)⟩
 .have hj':j<x.S.S.b7.length:=by have:j<(dA x.S i n p).S.b7.length:=hj;rwa [jX hR hi h0 hn hp] at this
  show (ce (dA x.S i n p) j).Val.Weak=(jC x.b7 (1+(j:Int)+32*(ce (dA x.S i n p) j).Gen):Int)/\_;have ht':Th (ce (dA x.S i n p) j):=ht;rw[mj hR hi h0 hn hp] at ht' |-;by_cases e:j=i
  .subst e;rw[zb rfl];refine⟨?_,λq=>absurd (show (1:Int)=2 from q) (by decide)⟩;show (0:Int)=(jC x.b7 (cu x.S j):Int);have:jC x.b7 (cu x.S j)=0:=by
    unfold jC;rw[List.countP_eq_zero];intro c hc;obtain⟨m,hm,rfl⟩:=wt hc;have:=ntgt m hm;simp[this]
   rw[this];rfl
  .rw[za e] at ht' |-;exact hx.wk j hj' ht'
 .have hinn:∀y,kK (dA x.S i n p) y=kK x.S y:=λy=>by
   unfold kK;rw[hl,ms,List.sum_append];have e1:(lv x.S).map (λk=>T3 (outs (dA x.S i n p) k) y)=(lv x.S).map λk=>T3 (outs x.S k) y:=zt λk hk=>by
    unfold outs;rw[Ck hR hi h0 hn hp hk]
   rw[e1];have e2:outs (dA x.S i n p) (cu x.S i) = []:=by
    refine za4.2 λv hv=>?_;have h1:=gp.1 hv;rw[vE hR hi h0 hn hp] at h1;exact h1.2 (rep v h1.1)
   simp[e2,I2]
  have hnm:∀y,lk (wS x (dA x.S i n p)) y=lk x y:=λy=>by
   unfold lk;show kK (dA x.S i n p) y+own x.T y+T3 (oO x) y=_;rw[hinn]
  rw[hnm];have hs':(ob (dA x.S i n p) h).Strong<12:=hs;show (ob (dA x.S i n p) h).Strong=_;rcases split hh with q | q
  .rw[Ck hR hi h0 hn hp q] at hs' |-;exact hx.fair h q hs'
  .subst q;rw[vE hR hi h0 hn hp];have h1:lk x (cu x.S i)=0:=by
    unfold lk;have a1:kK x.S (cu x.S i)=0:=by
     unfold kK;have:=Ij (λk=>T3 (outs x.S k) (cu x.S i)) 0 (lv x.S) λk hk=>Nat.le_of_eq<|Kt λq=>by
      have q2:=gp.1 q;rcases hx.sh.fl k hk _ q2.1 with e | e
      .exact q2.2 e
      .exact hnew e
     omega
    have a2:own x.T (cu x.S i)=0:=by
     unfold own;rw[List.countP_eq_zero];intro c hc;have:=(hx.sh.pr _ _ (cD.1 hc)).2;have hne:c.Val≠cu x.S i:=λe=>hnew (e▸this);simp[hne]
    have a3:T3 (oO x) (cu x.S i)=0:=Kt λq=>by
     unfold oO at q;rcases zu.1 q with q | q
     .have q2:=gp.1 q;rcases hx.sh.rt _ q2.1 with e | e
      .exact q2.2 e
      .exact hnew e
     .obtain⟨t,ht,k1,k2⟩:=mh.1 q;rcases (hx.sh.tk t ht).2.2 with ⟨_,b,_⟩ | ⟨b,_⟩;·exact hnew (k2▸b)
      .omega
    omega
   rw[h1,I2];rfl
structure Ev (x y:Hp):Prop where
 lv:∀h∈lv y.S,(h∈Sh.lv x.S/\(ob y.S h).Serial=(ob x.S h).Serial)\/(h∉Sh.lv x.S/\(ob y.S h).Serial=x.S.Serial+1)
 s1:x.S.Serial<=y.S.Serial
 s2:y.S.Serial<=x.S.Serial+1
theorem Ev.refl(x:Hp):Ev x x:=⟨λh hh=>.inl ⟨hh,rfl⟩,by omega,by omega⟩
theorem Ks.ev{x y:Hp}(k:Ks x.S y.S):Ev x y:=⟨λh hh=>by
 rw[k.lv] at hh;exact .inl ⟨hh,k.ob h hh⟩,by rw[k.bw];omega,by rw[k.bw];omega⟩
theorem Ev.ks{x y z:Hp}(e:Ev x y)(k:Ks y.S z.S):Ev x z:=⟨λh hh=>by
 rw[k.lv] at hh;rw[k.ob h hh];exact e.lv h hh,by rw[k.bw];exact e.s1,by rw[k.bw];exact e.s2⟩
theorem Ev.ZY{x y z:Hp}(e:Ev x y)(s:ED y z):Ev x z:=⟨λh hh=>by
 rw[(s.ob h hh).1];exact e.lv h (s.lv h hh),by rw[s.bw];exact e.s1,by rw[s.bw];exact e.s2⟩
theorem XY{x:Hp}(hx:K6 x){i:Nat}(hi:i<x.S.S.b7.length)(h0:(ce x.S i).State=0){n:Nat}(hn:n<=4){p:Int}(hp : -1<=p/\p<=5):Ev x (wS x (dA x.S i n p)):=⟨λh hh=>by
 have hR:=hx.sh.sr;have hh':h∈lv (dA x.S i n p):=hh;show (_/\(ob (dA x.S i n p) h).Serial=_)\/_/\(ob (dA x.S i n p) h).Serial=_;rw[Cj hR hi h0 hn hp] at hh';rcases zu.1 hh' with q | q
 .exact .inl ⟨q,by rw[Ck hR hi h0 hn hp q]⟩
 .rw[zp.1 q];exact .inr ⟨Oo hR hi h0 hn hp,by rw[vE hR hi h0 hn hp]⟩,by show _<=x.S.Serial+1;omega,zag _⟩
def Cw(x y:Hp)(w:Int):Prop:=∀i:Nat,(i:Int)≠w->(y.b7.getD i cz).Target=(x.b7.getD i cz).Target/\((y.b7.getD i cz).Intact=true->(x.b7.getD i cz).Intact=true)
theorem Cw.refl(x:Hp)(w:Int):Cw x x w:=λi _=>⟨rfl,id⟩
theorem Cw.same{x y:Hp}(h:y.b7=x.b7)(w:Int):Cw x y w:=λi _=>by rw[h];exact⟨rfl,id⟩
theorem Cw.trans{x y z:Hp}{w:Int}(a:Cw x y w)(b:Cw y z w):Cw x z w:=λi hi=>⟨(b i hi).1.trans (a i hi).1,λq=>(a i hi).2 ((b i hi).2 q)⟩
theorem ED.cw{x y:Hp}(s:ED x y)(w:Int):Cw x y w:=λi _=>by
 by_cases h:i<x.b7.length
 .have h':i<y.b7.length:=by rw[s.cn];exact h
  rw[Jp h,Jp h',s.cl i h' h];exact⟨rfl,λq=>(zy _ _▸q).1⟩
 .have h':¬i<y.b7.length:=by rw[s.cn];exact h
  rw[zd,zd,pi (by omega),pi (by omega)];exact⟨rfl,id⟩
theorem Cw.set{x y:Hp}{w:Nat}{c:k8}(h:y.b7=x.b7.set w c):Cw x y w:=λi hi=>by
 rw[h,zd,zd,List.getElem?_set_ne (by omega)];exact⟨rfl,id⟩
def Xj(s:b6)(i:Nat):Prop:=i<s.S.b7.length/\(ce s i).State=0/\∀j,j<i->(ce s j).State≠0
theorem Og{s:b6}(hR:SR s)(hb:s.Serial<9223372036854775807)(a p:Int) :
  (¬(0<=a/\a<=4)/\X9 s a p=some (s,0,1)) \/
  ((0<=a/\a<=4)/\¬(-1<=p/\p<=5)/\X9 s a p=some (s,0,13)) \/
  ((0<=a/\a<=4)/\(-1<=p/\p<=5)/\(∀i,i<s.S.b7.length->(ce s i).State≠0)/\X9 s a p=some (s,0,4)) \/
  ((0<=a/\a<=4)/\(-1<=p/\p<=5)/\∃i,Xj s i/\X9 s a p=some (dA s i a.toNat p,cu s i,0)):=by
 have hs':=hR.bw;have hR':=z8.2 hR;unfold X9 qM;by_cases ha:0<=a/\a<=4
 .right;obtain⟨ha1,ha2⟩:=ha;obtain⟨n,rfl⟩:∃n:Nat,a=n:=⟨a.toNat,by omega⟩;rw[za (by simp;omega),lf (by omega) (by omega)];simp only[a0d];by_cases hp : -1<=p/\p<=5
  .right;unfold W4;simp only[a0d];have e1:(decide (p >= -1)&&decide (p<6))=true:=by simp;omega
   rw[e1];have hl:ZJ s.S:=⟨lL hR',hR'.l0,hR'.l9,λi hi=>DV hR' i hi⟩;rcases Eh hl ⟨s.Serial+1,0,0,p,false,List.replicate n 0⟩ with ⟨i,hi,h0,hf,e⟩ | ⟨hf,e⟩
   .right;refine⟨⟨ha1,ha2⟩,hp,i,⟨hi,by rw[M9 hi];exact h0,λj hj=>by rw[M9 (by omega)];exact hf j hj⟩,?_⟩;simp only[zb8,zA,un,zbz];rw[show u4 (s.Serial+1)=s.Serial+1 from O1 (by omega) (by omega),e];unfold dA cu;rw[M9 hi];simp
   .left;refine⟨⟨ha1,ha2⟩,hp,λi hi=>by rw[M9 hi];exact hf i hi,?_⟩;simp only[zb8,zA,un,zbz];rw[show u4 (s.Serial+1)=s.Serial+1 from O1 (by omega) (by omega),e];simp
  .left;refine⟨⟨ha1,ha2⟩,hp,?_⟩;unfold W4;simp only[a0d];have e1:(decide (p >= -1)&&decide (p<6))=false:=by rw[zbl];simp;omega
   rw[e1];simp
 .left;refine⟨ha,?_⟩;rw[zb (by simp;omega)];simp
def sd(x:Hp)(r:Int):Int:=if r<0 then 0 else x.Roots.getD r.toNat 0
def Ba(x:Hp)(r:Int):Int × Int:=if sd x r=0 then (0,2) else (sd x r,0)
def bw(x:Hp)(h:Int):Int:=(ob x.S h).Serial
theorem BZ{n l m e:Int}(he:e≠0)(h:P7 n l m e=0):l<=n/\n<=m:=by
 unfold P7 at h;split at h;·exact absurd h he
 .omega
theorem Hr{a b c:Int}(h:cR a b c=0):a=0/\b=0/\c=0:=by
 unfold cR at h;split at h;·contradiction
 .split at h;·contradiction
  .omega
theorem tT{k a b c:Int}(h:y6 k a b c=0):1<=k/\k<=12:=by
 refine Decidable.byContradiction λq=>?_;have:y6 k a b c=14:=by
  unfold y6;repeat rw[za (by omega)]
 omega
theorem UH{a b c:Int}(h:y6 1 a b c=0):(0<=a/\a<=5)/\(0<=b/\b<=4) /\ -1<=c/\c<=5:=by
 obtain⟨h1,h2,h3⟩:=Hr (show cR (P7 a 0 5 6) (P7 b 0 4 1) (P7 c (-1) 5 13)=0 from h);exact⟨BZ (by decide) h1,BZ (by decide) h2,BZ (by decide) h3⟩
theorem MZ{a b c:Int}(h:y6 2 a b c=0):(0<=a/\a<=5)/\(0<=b/\b<=5):=by
 obtain⟨h1,h2,_⟩:=Hr (show cR (P7 a 0 5 6) (P7 b 0 5 6) 0=0 from h);exact⟨BZ (by decide) h1,BZ (by decide) h2⟩
theorem Xo{a b c:Int}(h:y6 3 a b c=0):0<=a/\a<=5:=BZ (by decide) (show P7 a 0 5 6=0 from h)
theorem UI{a b c:Int}(h:y6 4 a b c=0):(0<=a/\a<=5)/\(0<=b/\b<=5)/\0<=c/\c<=3:=by
 obtain⟨h1,h2,h3⟩:=Hr (show cR (P7 a 0 5 6) (P7 b 0 5 6) (P7 c 0 3 5)=0 from h);exact⟨BZ (by decide) h1,BZ (by decide) h2,BZ (by decide) h3⟩
theorem UJ{a b c:Int}(h:y6 5 a b c=0):(0<=a/\a<=5)/\(0<=b/\b<=3) /\ -1<=c/\c<=5:=by
 obtain⟨h1,h2,h3⟩:=Hr (show cR (P7 a 0 5 6) (P7 b 0 3 5) (P7 c (-1) 5 6)=0 from h);exact⟨BZ (by decide) h1,BZ (by decide) h2,BZ (by decide) h3⟩
theorem Rm{a b c:Int}(h:y6 6 a b c=0):(0<=a/\a<=5)/\(-1<=b/\b<=5) /\ -1<=c/\c<=5:=by
 obtain⟨h1,h2,h3⟩:=Hr (show cR (P7 a 0 5 7) (P7 b (-1) 5 6) (P7 c (-1) 5 13)=0 from h);exact⟨BZ (by decide) h1,BZ (by decide) h2,BZ (by decide) h3⟩
theorem UK{a b c:Int}(h:y6 7 a b c=0):(0<=a/\a<=5)/\(0<=b/\b<=5):=by
 obtain⟨h1,h2,_⟩:=Hr (show cR (P7 a 0 5 6) (P7 b 0 5 7) 0=0 from h);exact⟨BZ (by decide) h1,BZ (by decide) h2⟩
theorem UL{a b c:Int}(h:y6 8 a b c=0):(0<=a/\a<=5)/\(-1<=b/\b<=5):=by
 obtain⟨h1,h2,_⟩:=Hr (show cR (P7 a 0 5 6) (P7 b (-1) 5 6) 0=0 from h);exact⟨BZ (by decide) h1,BZ (by decide) h2⟩
theorem UM{a b c:Int}(h:y6 9 a b c=0):(0<=a/\a<=5)/\(0<=b/\b<=5):=MZ (show y6 2 a b c=0 from h)
theorem TE{a b c:Int}(h:y6 10 a b c=0):(0<=a/\a<=5)/\(0<=b/\b<=5):=MZ (show y6 2 a b c=0 from h)
section
variable{x:Hp}(hx:jJ x)
include hx
theorem Uc{r:Int}(h:0<=r/\r<=5):ix x.Roots r=some (sd x r):=by
 have:=hx.r6;obtain⟨n,rfl⟩:∃n:Nat,r=n:=⟨r.toNat,by omega⟩;have hn:n<x.Roots.length:=by omega
 rw[r9 hn];unfold sd;rw[za (by omega),zN,zd,zc hn];rfl
theorem Ig{r:Int}(h:¬(0<=r/\r<=5)):sd x r=0:=by
 have:=hx.r6;unfold sd;split;·rfl
 .rw[zd,pi (by omega)];rfl
theorem eE(r:Int):sd x r=0\/sd x r∈lv x.S:=by
 by_cases h:0<=r/\r<=5
 .have e:=Uc hx h;unfold ix at e;rw[zb h.1] at e;exact hx.rt _ (zi e)
 .exact .inl (Ig hx h)
theorem kp(r:Int):sd x r<=9223372036854775807:=by
 rcases eE hx r with h | h
 .omega
 .have:=H2 hx.sr h;omega
theorem nU(r:Int):O6 x r=some (sd x r):=by
 have h6:=hx.r6;unfold O6;by_cases h:0<=r/\r<=5
 .rw[za (by simp;omega),Uc hx h];rfl
 .rw[zb (by simp;omega),Ig hx h]
theorem jD(r:Int):P1 x r=some (Ba x r):=by
 unfold P1 Ba;rw[nU hx,a0d];by_cases h:sd x r=0
 .rw[zb (by simpa using h),zb h]
 .rw[za (by simpa using h),za h]
theorem WD{h:Int}(hh:h<=9223372036854775807):fe x h=some (bw x h):=by
 obtain⟨e,h1,_⟩:=iJ (z8.2 hx.sr) hh;unfold fe;rw[h1];rfl
theorem IW(r:Int):dP x r=some (bw x (sd x r)):=by
 unfold dP;rw[nU hx,a0d,WD hx (kp hx r)];rfl
theorem Gk:bw x 0=0:=by
 unfold bw;rw[wB (z8.2 hx.sr) (by omega) (eZ hx.sr)]
end
theorem WG{x z:Hp}(hx:jJ x)(k:Ks x.S z.S){h:Int}(hh:h=0\/h∈lv x.S):bw z h=bw x h:=by
 rcases hh with e | e
 .subst e;unfold bw;rw[wB (z8.2 hx.sr) (by omega) (eZ hx.sr),wB (z8.2 k.sr) (by omega) (eZ k.sr)]
 .exact k.ob h e
theorem SW{x z:Hp}(h:z.Roots=x.Roots)(r:Int):sd z r=sd x r:=by unfold sd;rw[h]
noncomputable def Bk(x:Hp)(o:g7)(v:Hp × Int):Option (Hp × Int × Int):=
 if (v.2 != 0) then some (x,0,v.2) else (R9 v.1).bind λv5=>(Z8 v.1 v5 o).bind λv6=>some (v5,v6,0)
theorem rp{x:Hp}{o:g7}{n:Option Nat}(hc:y6 o.Kind o.A o.B o.C=0)(hk:∃l,gL=some l/\A1 l o.Kind=some n):u6 x o=(xD n ⟨x,o⟩).bind (Bk x o):=by
 obtain⟨l,h1,h2⟩:=hk;unfold u6;rw[pb,hc,a0d,za (by simp),h1,a0d,h2,za (by simp)];rfl
theorem Ni{x:Hp}{o:g7}(hc:y6 o.Kind o.A o.B o.C≠0):u6 x o=some (x,0,y6 o.Kind o.A o.B o.C)/\True:=by
 constructor
 .unfold u6;rw[pb,a0d,zb (by simpa using hc)]
 .trivial
section
variable{x:Hp}{a b c:Int}
theorem Ze(hc:y6 1 a b c=0):u6 x ⟨1,a,b,c⟩=(Y8 ⟨x,⟨1,a,b,c⟩⟩).bind (Bk x ⟨1,a,b,c⟩):=rp (o:=⟨1,a,b,c⟩) (n:=some 203) hc ⟨_,rfl,rfl⟩
theorem Zf(hc:y6 2 a b c=0):u6 x ⟨2,a,b,c⟩=(L5 ⟨x,⟨2,a,b,c⟩⟩).bind (Bk x ⟨2,a,b,c⟩):=rp (o:=⟨2,a,b,c⟩) (n:=some 204) hc ⟨_,rfl,rfl⟩
theorem Zg(hc:y6 3 a b c=0):u6 x ⟨3,a,b,c⟩=(bE ⟨x,⟨3,a,b,c⟩⟩).bind (Bk x ⟨3,a,b,c⟩):=rp (o:=⟨3,a,b,c⟩) (n:=some 205) hc ⟨_,rfl,rfl⟩
theorem Zh(hc:y6 4 a b c=0):u6 x ⟨4,a,b,c⟩=(bF ⟨x,⟨4,a,b,c⟩⟩).bind (Bk x ⟨4,a,b,c⟩):=rp (o:=⟨4,a,b,c⟩) (n:=some 206) hc ⟨_,rfl,rfl⟩
theorem Zi(hc:y6 5 a b c=0):u6 x ⟨5,a,b,c⟩=(aG ⟨x,⟨5,a,b,c⟩⟩).bind (Bk x ⟨5,a,b,c⟩):=rp (o:=⟨5,a,b,c⟩) (n:=some 207) hc ⟨_,rfl,rfl⟩
theorem US(hc:y6 6 a b c=0):u6 x ⟨6,a,b,c⟩=(M1 ⟨x,⟨6,a,b,c⟩⟩).bind (Bk x ⟨6,a,b,c⟩):=rp (o:=⟨6,a,b,c⟩) (n:=some 208) hc ⟨_,rfl,rfl⟩
theorem Zj(hc:y6 7 a b c=0):u6 x ⟨7,a,b,c⟩=(aS ⟨x,⟨7,a,b,c⟩⟩).bind (Bk x ⟨7,a,b,c⟩):=rp (o:=⟨7,a,b,c⟩) (n:=some 209) hc ⟨_,rfl,rfl⟩
theorem Zk(hc:y6 8 a b c=0):u6 x ⟨8,a,b,c⟩=(bG ⟨x,⟨8,a,b,c⟩⟩).bind (Bk x ⟨8,a,b,c⟩):=rp (o:=⟨8,a,b,c⟩) (n:=some 210) hc ⟨_,rfl,rfl⟩
theorem Zl(hc:y6 9 a b c=0):u6 x ⟨9,a,b,c⟩=(cC ⟨x,⟨9,a,b,c⟩⟩).bind (Bk x ⟨9,a,b,c⟩):=rp (o:=⟨9,a,b,c⟩) (n:=some 211) hc ⟨_,rfl,rfl⟩
theorem Xt(hc:y6 10 a b c=0):u6 x ⟨10,a,b,c⟩=(T7 ⟨x,⟨10,a,b,c⟩⟩).bind (Bk x ⟨10,a,b,c⟩):=rp (o:=⟨10,a,b,c⟩) (n:=some 212) hc ⟨_,rfl,rfl⟩
theorem CU{k:Int}(hk:k=11\/k=12)(hc:y6 k a b c=0):u6 x ⟨k,a,b,c⟩=some (x,0,14)/\True:=by
 constructor
 .unfold u6;rw[pb,hc,a0d,za (by simp)];rcases hk with rfl | rfl <;> rfl
 .trivial
variable{y:mG}
end
section
variable{s:b6}(hR:SR s){i:Nat}(hi:i<s.S.b7.length)
include hR hi
end
theorem XW{s:b6}(hR:SR s)(hb:s.Serial<9223372036854775807)(a p:Int) :
  (∃e,e≠0/\X9 s a p=some (s,0,e)/\True) \/
  ((0<=a/\a<=4)/\(-1<=p/\p<=5)/\∃i,Xj s i/\X9 s a p=some (dA s i a.toNat p,cu s i,0)/\True):=by
 rcases Og hR hb a p with ⟨h1,e⟩ | ⟨h1,h2,e⟩ | ⟨h1,h2,h3,e⟩ | ⟨h1,h2,i,h3,e⟩;·exact .inl ⟨1,by decide,e,trivial⟩
 .exact .inl ⟨13,by decide,e,trivial⟩
 .exact .inl ⟨4,by decide,e,trivial⟩
 .exact .inr ⟨h1,h2,i,h3,e,trivial⟩
abbrev ZV(o:g7):fE:=⟨o.Kind,o.A,o.B,o.C⟩
structure Dn (x:Hp) (o:g7) (z:Hp) (v:Int):Prop where
 rt:K6 z
 sl:SL z
 ev:Ev x z
 cw:Cw x z (if o.Kind=6 then o.A else -1)
 mc:u6 x o=some (bJ z,v,0)
 rf:True
def Er(x:Hp)(o:g7)(e:Int):Prop:=e≠0/\u6 x o=some (x,0,e)/\True
theorem XZ{x:Hp}(hx:K6 x)(hS:SL x){i:Nat}(hi:i<x.S.S.b7.length)(h0:(ce x.S i).State=0){n:Nat}(hn:n<=4){p:Int}(hp : -1<=p/\p<=5):SL (wS x (dA x.S i n p)):=λk hk=>by
 have hR:=hx.sh.sr;have hk':k∈lv (dA x.S i n p):=hk;show (ob (dA x.S i n p) k).Strong<=_;rw[Cj hR hi h0 hn hp] at hk';rcases zu.1 hk' with q | q
 .rw[Ck hR hi h0 hn hp q];exact hS k q
 .rw[zp.1 q,vE hR hi h0 hn hp];show (0:Int)<=_;decide
theorem vW{y:Hp}(hy:K6 y){a:Int}(ha:0<=a/\a<=5){h:Int}(hh:h=0\/h∈lv y.S):sd (bJ (G6 y a.toNat h)) a=h/\bw (bJ (G6 y a.toNat h)) h=bw y h:=by
 have hz:=bX hy (r:=a.toNat) (by omega) hh;have st:=mM hz;have w:=nW hz;have e1:(bJ (G6 y a.toNat h)).Roots=y.Roots.set a.toNat h:=st.rt.trans (kl y a.toNat h).1;have h6:=hy.sh.r6;have e2:sd (bJ (G6 y a.toNat h)) a=h:=by
  unfold sd;rw[za (by omega),e1,zd,List.getElem?_set_self (by omega)];rfl
 refine⟨e2,?_⟩;have k:=du hy.sh.sr a.toNat h;rcases eE w.sh a with q | q
 .rw[e2] at q;subst q;rw[Gk w.sh,Gk hy.sh]
 .rw[e2] at q;have h1:=(st.ob h q).1;have h2:=st.lv h q;rw[k.lv] at h2;exact h1.trans (k.ob h h2)
section
variable{x:Hp}{a b c:Int}
theorem kR{o:g7}{y:Hp}{e:Int}(he:e≠0):Bk x o (y,e)=some (x,0,e):=by
 unfold Bk;rw[zb (by simpa using he)]
theorem TG{z:Hp}(hz:K6 z)(hS:SL z){k:Int}(hk:k≠5/\k≠6/\k≠8/\k≠10):Bk x ⟨k,a,b,c⟩ (z,0)=some (bJ z,bw (bJ z) (sd (bJ z) a),0):=by
 unfold Bk Z8;rw[za (by simp),jF hz hS,a0d];simp only[jn];rw[za (by simp;omega),za (by simp;omega)];have:(k==8)=false:=by simp;omega
 rw[this,za (by simp),za (by simp;omega),IW (nW hz).sh];rfl
theorem Il{o:g7}{v e:Int}(he:e≠0):C5 ⟨x,o⟩ v e=some (x,e):=by
 unfold C5;rw[zb (by simpa using he)]
variable(hx:K6 x)(hS:SL x)
include hx hS
theorem qK{k:Int}(ha:0<=a/\a<=5){h:Int}(hh:h=0\/h∈lv x.S):C5 ⟨x,⟨k,a,b,c⟩⟩ h 0=some (G6 x a.toNat h,0):=by
 unfold C5;rw[za (by simp),Kh hx hS a (tW hx hS hh),za (by omega),zb hh];rfl
theorem mP{k:Int}(hk:k=2\/k=3\/k=4\/k=7\/k=9)(hc:y6 k a b c=0)(ha:0<=a/\a<=5){h:Int}(hh:h=0\/h∈lv x.S)
  (h1:u6 x ⟨k,a,b,c⟩=Bk x ⟨k,a,b,c⟩ (G6 x a.toNat h,0))(h2:True):Dn x ⟨k,a,b,c⟩ (G6 x a.toNat h) (bw x h):=by
 have hz:=bX hx (r:=a.toNat) (by omega) hh;have zS:=pR hx.sh.sr hS a.toNat h;obtain⟨e1,e2⟩:=vW hx ha hh;refine⟨hz,zS,(du hx.sh.sr a.toNat h).ev,Cw.same (kl x a.toNat h).2.1 _,?_,?_⟩;·rw[h1,TG hz zS (by omega),e1,e2]
 .trivial
theorem d2(hc:y6 2 a b c=0):Dn x ⟨2,a,b,c⟩ (G6 x a.toNat (sd x b)) (bw x (sd x b)):=by
 obtain⟨ha,hb⟩:=MZ hc;refine mP hx hS (.inl rfl) hc ha (eE hx.sh b) ?_ ?_
 .rw[Zf hc];unfold L5;rw[nU hx.sh,a0d,qK hx hS ha (eE hx.sh b)];rfl
 .trivial
theorem d3(hc:y6 3 a b c=0):Dn x ⟨3,a,b,c⟩ (G6 x a.toNat 0) 0:=by
 have ha:=Xo hc;have:=mP (b:=b) (c:=c) hx hS (.inr (.inl rfl)) hc ha (h:=0) (.inl rfl) ?_ ?_;·rwa [Gk hx.sh] at this
 .rw[Zg hc];unfold bE;rw[qK hx hS ha (.inl rfl)];rfl
 .trivial
theorem d4(hc:y6 4 a b c=0):(sd x b=0/\Er x ⟨4,a,b,c⟩ 2)\/(∃e,K1 x.S (sd x b) c=some (0,e)/\Er x ⟨4,a,b,c⟩ e) \/
  (sd x b∈lv x.S/\∃n:Nat,c=n/\∃hn:n<(ob x.S (sd x b)).Fields.length,Dn x ⟨4,a,b,c⟩ (G6 x a.toNat (ob x.S (sd x b)).Fields[n]) (bw x (ob x.S (sd x b)).Fields[n])):=by
 obtain⟨ha,hb,_⟩:=UI hc;have hm:u6 x ⟨4,a,b,c⟩=_:=Zh hc;unfold bF at hm;rw[jD hx.sh,a0d] at hm;by_cases h0:sd x b=0
 .refine .inl ⟨h0,by decide,?_,?_⟩
  .rw[hm];unfold Ba;rw[zb h0,zb (by simp),a0d,kR (by decide)]
  .trivial
 .have has:Ba x b=(sd x b,0):=by unfold Ba;rw[za h0]
  rw[has,za (by simp)] at hm;right;rcases wv hx hS (sd x b) c (kp hx.sh b) with ⟨e,he,f1,f2⟩ | ⟨hl,n,hn0,hn,f1,f2⟩
  .refine .inl ⟨e,f1,he,?_,?_⟩
   .rw[hm];dsimp only;rw[f1,a0d,Il he,a0d,a0d,kR he]
   .trivial
  .refine .inr ⟨hl,n,hn0,hn,?_⟩;have hv:=hx.sh.fl _ hl _ (zh hn);refine mP hx hS (by omega) hc ha hv ?_ ?_
   .rw[hm];dsimp only;rw[f1,a0d,qK hx hS ha hv];rfl
   .trivial
theorem RM{n:Nat}(hn:n<6):∃h:n<x.b7.length,cQ x.b7 n=some (if x.b7[n].Target=0\/x.b7[n].Intact=false then (0,9) else (x.b7[n].Target,0))/\True:=by
 have c6:=hx.sh.c6;have hl:n<x.b7.length:=by omega
 refine⟨hl,?_,?_⟩
 .unfold cQ ky;have:(decide ((n:Int)>=0)&&decide ((n:Int)<(x.b7.length:Int)))=true:=by simp;omega
  rw[this,a0d,za (by simp),r9 hl,a0d];by_cases q:x.b7[n].Target=0\/x.b7[n].Intact=false
  .rw[zb q,zb (by rcases q with q | q <;> simp[q])]
  .rw[za q,za (by simpa using q)]
 .trivial
theorem d7(hc:y6 7 a b c=0):∃h:b.toNat<x.b7.length,((x.b7[b.toNat].Intact=false/\Er x ⟨7,a,b,c⟩ 9) \/
  (x.b7[b.toNat].Intact=true/\Dn x ⟨7,a,b,c⟩ (G6 x a.toNat x.b7[b.toNat].Target) (bw x x.b7[b.toNat].Target))):=by
 obtain⟨ha,hb⟩:=UK hc;obtain⟨n,rfl⟩:∃n:Nat,b=n:=⟨b.toNat,by omega⟩;obtain⟨hl,l1,l2⟩:=RM hx hS (n:=n) (by omega);rw[zN];refine⟨hl,?_⟩;have hm:u6 x ⟨7,a,n,c⟩=_:=Zj hc;unfold aS at hm;rw[show cQ (r8.mk x ⟨7,a,n,c⟩).x.b7 (r8.mk x ⟨7,a,n,c⟩).o.B=_ from l1,a0d] at hm;have cl:=hx.sh.cl n hl;cases hI:x.b7[n].Intact
 .left;rw[zb (.inr hI)] at hm;refine⟨rfl,by decide,?_,?_⟩
  .rw[hm];dsimp only;rw[Il (by decide),a0d,a0d];exact kR (e:=9) (by decide)
  .trivial
 .right;have ht:=(cl.2.2.2.2 hI).1;have ht0:x.b7[n].Target≠0:=λe=>eZ hx.sh.sr (e▸ht);rw[za (by simp[ht0,hI])] at hm;refine⟨rfl,mP hx hS (by omega) hc ha (.inr ht) ?_ trivial⟩;rw[hm];dsimp only;rw[qK hx hS ha (.inr ht)];rfl
theorem d9(hc:y6 9 a b c=0):(sd x b=0/\Er x ⟨9,a,b,c⟩ 2)\/(sd x b∈lv x.S/\(∀v,¬Has x.T (sd x b) v)/\Er x ⟨9,a,b,c⟩ 9) \/
  (sd x b∈lv x.S/\∃v,Has x.T (sd x b) v/\Dn x ⟨9,a,b,c⟩ (G6 x a.toNat v) (bw x v)):=by
 obtain⟨ha,hb⟩:=UM hc;have hT:=hx.sh.hr;have hm:u6 x ⟨9,a,b,c⟩=_:=Zl hc;unfold cC at hm;rw[jD hx.sh,a0d] at hm;by_cases h0:sd x b=0
 .refine .inl ⟨h0,by decide,?_,?_⟩
  .rw[hm];unfold Ba;rw[zb h0,zb (by simp),a0d,kR (by decide)]
  .trivial
 .have has:Ba x b=(sd x b,0):=by unfold Ba;rw[za h0]
  have hl:=(eE hx.sh b).resolve_left h0;rw[has,za (by simp)] at hm;dsimp only at hm;unfold vn at hm;right;by_cases hv:∃v,Has x.T (sd x b) v
  .obtain⟨v,hv⟩:=hv;rw[Jq hT hv] at hm;refine .inr ⟨hl,v,hv,mP hx hS (by omega) hc ha (.inr (hx.sh.pr _ _ hv).2) ?_ trivial⟩;rw[hm,a0d,a0d];dsimp only;rw[qK hx hS ha (.inr (hx.sh.pr _ _ hv).2)];rfl
  .have hv':∀v,¬Has x.T (sd x b) v:=λv q=>hv ⟨v,q⟩;rw[Lo hT hv'] at hm;refine .inl ⟨hl,hv',by decide,?_,?_⟩
   .rw[hm,a0d,a0d];dsimp only;rw[Il (by decide),a0d,a0d];exact kR (e:=9) (by decide)
   .trivial
end
section
variable{x:Hp}{a b c:Int}
theorem TF{z:Hp}(hz:K6 z)(hS:SL z){k:Int}{r:Int}(hk:k=5/\r=c\/(k=6\/k=8)/\r=b):Bk x ⟨k,a,b,c⟩ (z,0)=some (bJ z,bw z (sd z r),0):=by
 unfold Bk Z8;rw[za (by simp),jF hz hS,a0d];simp only[jn];rcases hk with ⟨rfl,rfl⟩ | ⟨rfl | rfl,rfl⟩
 .rw[zb (by rfl),IW hz.sh];rfl
 .rw[za (by decide),zb (by rfl),zb (by rfl),IW hz.sh];rfl
 .rw[za (by decide),za (by decide),zb (by rfl),IW hz.sh];rfl
variable(hx:K6 x)(hS:SL x)
include hx hS
theorem sx{z:Hp}(hz:K6 z)(zS:SL z)(k:Ks x.S z.S)(er:z.Roots=x.Roots){kd r:Int}(hk:kd=5/\r=c\/(kd=6\/kd=8)/\r=b)(hc:y6 kd a b c=0)(cw:Cw x z (if kd=6 then a else -1))
  (h1:u6 x ⟨kd,a,b,c⟩=Bk x ⟨kd,a,b,c⟩ (z,0))(h2:True):Dn x ⟨kd,a,b,c⟩ z (bw x (sd x r)):=by
 refine⟨hz,zS,k.ev,cw,?_,?_⟩;·rw[h1,TF hz zS hk,SW er,WG hx.sh k (eE hx.sh r)]
 .trivial
theorem d5(hc:y6 5 a b c=0):(sd x a=0/\Er x ⟨5,a,b,c⟩ 2)\/(∃e,aE x (sd x a) b (sd x c)=some (x,e)/\Er x ⟨5,a,b,c⟩ e) \/
  (sd x a∈lv x.S/\∃n:Nat,b=n/\n<(ob x.S (sd x a)).Fields.length/\Dn x ⟨5,a,b,c⟩ (bP x (sd x a) n (sd x c)) (bw x (sd x c))):=by
 obtain⟨ha,hb,hcc⟩:=UJ hc;have hm:u6 x ⟨5,a,b,c⟩=_:=Zi hc;unfold aG at hm;rw[jD hx.sh,a0d] at hm;by_cases h0:sd x a=0
 .have has:Ba x a=(0,2):=by unfold Ba;rw[zb h0]
  rw[has,zb (by simp)] at hm;refine .inl ⟨h0,by decide,?_,?_⟩
  .rw[hm,a0d];exact kR (e:=2) (by decide)
  .trivial
 .have has:Ba x a=(sd x a,0):=by unfold Ba;rw[za h0]
  rw[has,za (by simp)] at hm;dsimp only at hm;rw[nU hx.sh,a0d] at hm;right;rcases yv hx hS (sd x a) b (sd x c) (kp hx.sh a) (kp hx.sh c) with ⟨e,he,f1,f2⟩ | ⟨hl,hv,n,hn0,hn,f1,f2⟩
  .refine .inl ⟨e,f1,he,?_,?_⟩;·rw[hm,f1,a0d,a0d,kR he]
   .trivial
  .refine .inr ⟨hl,n,hn0,hn,sx hx hS (CZ hx hl hn hv) (Lh hx.sh.sr hS hl _ _) (BR hx.sh.sr hl hn _) (pn _ _ _ _).1 (.inl ⟨rfl,rfl⟩) hc (Cw.same (pn _ _ _ _).2.1 _) ?_ ?_⟩
   .rw[hm,f1];rfl
   .trivial
theorem d6(hc:y6 6 a b c=0):(sd x b=0/\Er x ⟨6,a,b,c⟩ 2)\/(∃e,T0 x a (sd x b) c=some (x,e)/\Er x ⟨6,a,b,c⟩ e) \/
  (wX x.Q a=false/\Dn x ⟨6,a,b,c⟩ (cT x a.toNat (sd x b) c) (bw x (sd x b))):=by
 obtain⟨ha,hb,hcc⟩:=Rm hc;have hm:u6 x ⟨6,a,b,c⟩=_:=US hc;unfold M1 at hm;have key:(u6 x ⟨6,a,b,c⟩=(((T0 x a (sd x b) c).bind λv1=>some (v1.1,v1.2)).bind (Bk x ⟨6,a,b,c⟩))/\True)\/(sd x b=0/\Er x ⟨6,a,b,c⟩ 2):=by
  by_cases h1:b = -1
  .subst h1;left;rw[Ig hx.sh (r:=-1) (by omega)];refine⟨?_,trivial⟩;rw[hm,zb (by rfl)]
  .rw[za (by simpa using h1),jD hx.sh,a0d] at hm;by_cases h0:sd x b=0
   .have has:Ba x b=(0,2):=by unfold Ba;rw[zb h0]
    rw[has,zb (by simp)] at hm;refine .inr ⟨h0,by decide,?_,?_⟩
    .rw[hm,a0d];exact kR (e:=2) (by decide)
    .trivial
   .have has:Ba x b=(sd x b,0):=by unfold Ba;rw[za h0]
    rw[has,za (by simp)] at hm;exact .inl ⟨hm,trivial⟩
 rcases key with ⟨hm,hnm⟩ | key
 .right;rcases Eo hx a (sd x b) c (kp hx.sh b) hcc with ⟨e,he,f1,f2⟩ | ⟨hh,n,rfl,hn,hw,f1,f2⟩
  .refine .inl ⟨e,f1,he,?_,?_⟩;·rw[hm,f1,a0d,a0d,kR he]
   .trivial
  .rw[zN];obtain⟨r1,r2,_,_⟩:=AS x n (sd x b) c;refine .inr ⟨hw,sx hx hS (wO hx hn hh hcc hw) (GA hx hS hn _ _) (Gz hx hn _ _) r1 (.inr ⟨.inl rfl,rfl⟩) hc (by rw[zb rfl];exact Cw.set r2) ?_ ?_⟩
   .rw[hm,f1];rfl
   .trivial
 .exact .inl key
theorem d8(hc:y6 8 a b c=0):(sd x a=0/\Er x ⟨8,a,b,c⟩ 2)\/(sd x a∈lv x.S/\∃e,cv x (sd x a) (sd x b)=some (x,e)/\Er x ⟨8,a,b,c⟩ e) \/
  (sd x a∈lv x.S/\∃r,V1 x.T (sd x a) (sd x b)=some r/\r.2.2=0/\Dn x ⟨8,a,b,c⟩ (ja x (sd x b) r.1 r.2.1) (bw x (sd x b))):=by
 obtain⟨ha,hb⟩:=UL hc;have hm:u6 x ⟨8,a,b,c⟩=_:=Zk hc;unfold bG at hm;rw[jD hx.sh,a0d] at hm;by_cases h0:sd x a=0
 .have has:Ba x a=(0,2):=by unfold Ba;rw[zb h0]
  rw[has,zb (by simp)] at hm;refine .inl ⟨h0,by decide,?_,?_⟩
  .rw[hm,a0d];exact kR (e:=2) (by decide)
  .trivial
 .have has:Ba x a=(sd x a,0):=by unfold Ba;rw[za h0]
  have hl:=(eE hx.sh a).resolve_left h0;rw[has,za (by simp)] at hm;dsimp only at hm;rw[nU hx.sh,a0d] at hm;right;rcases Sw hx hS (sd x a) (sd x b) (kp hx.sh a) (kp hx.sh b) with ⟨e,he,f1,f2⟩ | ⟨hl,hv,r,r1,r2,f1,f2⟩
  .refine .inl ⟨hl,e,f1,he,?_,?_⟩;·rw[hm,f1,a0d,a0d,kR he]
   .trivial
  .refine .inr ⟨hl,r,r1,r2,sx hx hS (FO hx hl hv r1 r2) (OQ hx.sh.sr hS _ _ _) (FN hx.sh.sr _ _ _) (sy _ _ _ _).1 (.inr ⟨.inr rfl,rfl⟩) hc (Cw.same (sy _ _ _ _).2.1 _) ?_ ?_⟩
   .rw[hm,f1];rfl
   .trivial
theorem d10(hz:zr x = [])(hc:y6 10 a b c=0):Dn x ⟨10,a,b,c⟩ x (if sd x a=sd x b then 1 else 0):=by
 obtain⟨ha,hb⟩:=TE hc;refine⟨hx,hS,Ev.refl x,Cw.refl x _,?_,?_⟩
 .rw[Xt hc];unfold T7 Bk Z8;rw[a0d,za (by simp),jF hx hS,a0d];simp only[jn];rw[za (by decide),za (by decide),za (by decide),zb (by rfl),nU hx.sh,a0d,nU hx.sh,a0d];by_cases q:sd x a=sd x b
  .rw[zb (by simpa using q),zb q];rfl
  .rw[za (by simpa using q),za q];rfl
 .trivial
theorem d1(hb:x.S.Serial<9223372036854775807)(hc:y6 1 a b c=0):(∃e,X9 x.S b c=some (x.S,0,e)/\Er x ⟨1,a,b,c⟩ e) \/
  (b.toNat<=4/\(-1<=c/\c<=5)/\∃i,Xj x.S i/\Dn x ⟨1,a,b,c⟩ (G6 (wS x (dA x.S i b.toNat c)) a.toNat (cu x.S i)) (x.S.Serial+1)):=by
 obtain⟨ha,hbb,hcc⟩:=UH hc;have hR:=hx.sh.sr;have hm:u6 x ⟨1,a,b,c⟩=_:=Ze hc;unfold Y8 at hm;dsimp only at hm;rcases XW hR hb b c with ⟨e,he,f1,f2⟩ | ⟨_,_,i,hF,f1,f2⟩
 .refine .inl ⟨e,f1,he,?_,?_⟩;·rw[hm,f1,a0d,zb (by simpa using he),a0d,kR he]
  .trivial
 .refine .inr ⟨by omega,hcc,i,hF,?_⟩;obtain⟨hi,h0,_⟩:=hF;have hn:b.toNat<=4:=by omega
  have hy:=Ac hx hi h0 hn hcc;have yS:=XZ hx hS hi h0 hn hcc;have hh:cu x.S i=0\/cu x.S i∈lv (wS x (dA x.S i b.toNat c)).S:=.inr (by
   show _∈lv (dA x.S i b.toNat c);rw[Cj hR hi h0 hn hcc];exact t8 _ (zp.2 rfl))
  have hz:=bX hy (r:=a.toNat) (by omega) hh;have zS:=pR hy.sh.sr yS a.toNat (cu x.S i);obtain⟨e1,e2⟩:=vW hy ha hh;have e3:bw (wS x (dA x.S i b.toNat c)) (cu x.S i)=x.S.Serial+1:=by
   show (ob (dA x.S i b.toNat c) (cu x.S i)).Serial=_;rw[vE hR hi h0 hn hcc]
  refine⟨hz,zS,(XY hx hi h0 hn hcc).ks (du hy.sh.sr a.toNat _),Cw.same (kl (wS x (dA x.S i b.toNat c)) a.toNat _).2.1 _,?_,?_⟩
  .rw[hm,f1,a0d,za (by simp)];dsimp only;rw[show C5 ⟨⟨dA x.S i b.toNat c,x.Roots,x.b7,x.T,x.Q⟩,⟨1,a,b,c⟩⟩ (cu x.S i) 0=_ from qK hy yS ha hh,a0d,a0d,TG hz zS (by omega),e1,e2,e3]
  .trivial
end
theorem UT{x:Hp}(hx:K6 x)(hS:SL x)(hz:zr x = [])(hb:x.S.Serial<9223372036854775807)(o:g7):(∃e,Er x o e)\/∃z v,Dn x o z v:=by
 obtain⟨k,a,b,c⟩:=o;by_cases hc:y6 k a b c=0
 .have:=tT hc;have hk:k=1\/k=2\/k=3\/k=4\/k=5\/k=6\/k=7\/k=8\/k=9\/k=10\/k=11\/k=12:=by omega
  rcases hk with rfl | rfl | rfl | rfl | rfl | rfl | rfl | rfl | rfl | rfl | rfl | rfl
  .rcases d1 hx hS hb hc with ⟨e,_,h⟩ | ⟨_,_,i,_,h⟩;·exact .inl ⟨e,h⟩
   .exact .inr ⟨_,_,h⟩
  .exact .inr ⟨_,_,d2 hx hS hc⟩
  .exact .inr ⟨_,_,d3 hx hS hc⟩
  .rcases d4 hx hS hc with ⟨_,h⟩ | ⟨e,_,h⟩ | ⟨_,n,_,_,h⟩;·exact .inl ⟨_,h⟩
   .exact .inl ⟨_,h⟩
   .exact .inr ⟨_,_,h⟩
  .rcases d5 hx hS hc with ⟨_,h⟩ | ⟨e,_,h⟩ | ⟨_,n,_,_,h⟩;·exact .inl ⟨_,h⟩
   .exact .inl ⟨_,h⟩
   .exact .inr ⟨_,_,h⟩
  .rcases d6 hx hS hc with ⟨_,h⟩ | ⟨e,_,h⟩ | ⟨_,h⟩;·exact .inl ⟨_,h⟩
   .exact .inl ⟨_,h⟩
   .exact .inr ⟨_,_,h⟩
  .obtain⟨_,⟨_,h⟩ | ⟨_,h⟩⟩:=d7 hx hS hc;·exact .inl ⟨_,h⟩
   .exact .inr ⟨_,_,h⟩
  .rcases d8 hx hS hc with ⟨_,h⟩ | ⟨_,e,_,h⟩ | ⟨_,r,_,_,h⟩;·exact .inl ⟨_,h⟩
   .exact .inl ⟨_,h⟩
   .exact .inr ⟨_,_,h⟩
  .rcases d9 hx hS hc with ⟨_,h⟩ | ⟨_,_,h⟩ | ⟨_,v,_,h⟩;·exact .inl ⟨_,h⟩
   .exact .inl ⟨_,h⟩
   .exact .inr ⟨_,_,h⟩
  .exact .inr ⟨_,_,d10 hx hS hz hc⟩
  .obtain⟨h1,h2⟩:=CU (x:=x) (a:=a) (b:=b) (c:=c) (.inl rfl) hc;exact .inl ⟨14,by decide,h1,h2⟩
  .obtain⟨h1,h2⟩:=CU (x:=x) (a:=a) (b:=b) (c:=c) (.inr rfl) hc;exact .inl ⟨14,by decide,h1,h2⟩
 .obtain⟨h1,h2⟩:=Ni (x:=x) (o:=⟨k,a,b,c⟩) hc;exact .inl ⟨_,hc,h1,h2⟩
noncomputable def jz(x:Hp)(o:g7):Hp × Int × Int:=(u6 x o).getD (x,0,0)
structure WY (x:Hp) (o:g7) (y:Hp) (v e:Int):Prop where
 rt:K6 y
 sl:SL y
 zr:zr y = []
 ev:Ev x y
 cw:Cw x y (if o.Kind=6 then o.A else -1)
 er:e≠0->y=x/\v=0
 mc:u6 x o=some (y,v,e)
 rf:True
theorem Dn.ZU{x z:Hp}{o:g7}{v:Int}(d:Dn x o z v):WY x o (bJ z) v 0:=by
 have st:=mM d.rt;exact⟨nW d.rt,Ko d.rt d.sl,Cu d.rt,d.ev.ZY st,d.cw.trans (st.cw _),λh=>absurd rfl h,d.mc,d.rf⟩
theorem Sa{x:Hp}(hx:K6 x)(hS:SL x)(hz:zr x = [])(hb:x.S.Serial<9223372036854775807)(o:g7):∃y v e,WY x o y v e:=by
 rcases UT hx hS hz hb o with ⟨e,h1,h2,h3⟩ | ⟨z,v,d⟩;·exact⟨x,0,e,hx,hS,hz,Ev.refl x,Cw.refl x _,λ_=>⟨rfl,rfl⟩,h2,h3⟩
 .exact⟨_,_,_,d.ZU⟩
theorem um{x:Hp}(hx:K6 x)(hS:SL x)(hz:zr x = [])(hb:x.S.Serial<9223372036854775807)(o:g7):WY x o (jz x o).1 (jz x o).2.1 (jz x o).2.2:=by
 obtain⟨y,v,e,h⟩:=Sa hx hS hz hb o;have:jz x o=(y,v,e):=by unfold jz;rw[h.mc];rfl
 rw[this];exact h
noncomputable def runs(x:Hp)(l:List g7):Hp × List Int:=l.foldl (λp o=>((jz p.1 o).1,p.2 ++ [(jz p.1 o).2.1])) (x,[])
theorem qH(x:Hp)(l:List g7)(o:g7):runs x (l ++ [o])=((jz (runs x l).1 o).1,(runs x l).2 ++ [(jz (runs x l).1 o).2.1]):=by
 unfold runs;rw[zas];rfl
theorem Ay{x:Hp}(hx:K6 x)(hS:SL x)(hz:zr x = [])(l:List g7)(hb:x.S.Serial+l.length<9223372036854775807)(P:Hp->Prop)(h0:P x)
  (hs:∀(y:Hp) (o:g7),o∈l->K6 y->WY y o (jz y o).1 (jz y o).2.1 (jz y o).2.2->P y->P (jz y o).1):∀k,k<=l.length ->
  K6 (runs x (l.take k)).1/\SL (runs x (l.take k)).1/\zr (runs x (l.take k)).1 = []/\(runs x (l.take k)).1.S.Serial<=x.S.Serial+k/\(runs x (l.take k)).2.length=k/\P (runs x (l.take k)).1
 | 0,_=>⟨hx,hS,hz,by show x.S.Serial<=_;omega,rfl,h0⟩
 | k+1,hk=>by
  obtain⟨a1,a2,a3,a4,a5,a6⟩:=Ay hx hS hz l hb P h0 hs k (by omega);have hk':k<l.length:=by omega
  have n:=um a1 a2 a3 (by omega) l[k];rw[V2 hk',qH];exact⟨n.rt,n.sl,n.zr,by have:=n.ev.s2;show (jz _ _).1.S.Serial<=_;omega,by simp[a5],hs _ _ (zh hk') a1 n a6⟩
theorem run_eq{x:Hp}(hx:K6 x)(hS:SL x)(hz:zr x = [])(l:List g7)(hl:l.length<=1000)(hb:x.S.Serial+l.length<9223372036854775807) :
  ig x l=some (runs x l)/\True:=by
 have all:=Ay hx hS hz l hb (λ_=>True) trivial (λ_ _ _ _ _ _=>trivial);constructor
 .unfold ig;simp only[jn];refine bD (T:=Hp × List Int) l.length (λk acc=>acc=runs x (l.take k)) (by omega) rfl (λk acc hk hP=>?_) (λacc hP=>?_)
  .subst hP;obtain⟨a1,a2,a3,a4,a5,_⟩:=all k (by omega);have n:=um a1 a2 a3 (by omega) l[k];refine .inl ⟨_,?_,rfl⟩;rw[V2 hk,qH];show (if _ then _ else _)=_;rw[zb (by simpa using hk),r9 hk,a0d,n.mc,a0d,J0 (by omega) (by rw[a5];simp;omega),a0d,n9]
  .subst hP;refine⟨runs x (l.take l.length),?_,?_⟩
   .show (if _ then _ else _)=_;rw[za (by simp)]
   .rw[zV]
 .trivial
section
variable{x:Hp}(hB:HB x)
include hB
end
def qW(k:Nat)(l:Int)(p:Nat):Hp:=⟨⟨⟨List.replicate k ⟨0,0,z0⟩,l⟩,0⟩,List.replicate 6 0,List.replicate 6 ⟨0,false,-1⟩,List.replicate p ⟨0,0,0⟩,⟨[],30⟩⟩
theorem NM{k p:Nat}{l:Int}(hk:1<=k/\k<=24)(hl:0<=l/\l<=9)(hp:1<=p/\p<=8) :
  md k l p=some (qW k l p)/\uB k l p=some (hO (qW k l p))/\K6 (qW k l p)/\SL (qW k l p)/\zr (qW k l p) = []:=by
 have e1:jH k l=some (qW k l p).S:=by
  unfold jH aL;rw[za (by simp;omega),lf (by omega) (by omega)];rfl
 obtain⟨a,h1,h2,h3,_⟩:=Yf k l;rw[e1] at h1;have ha:=zJ h1;subst ha;have hR:SR (qW k l p).S:=z8.1 h3;have hce:∀i,ce (qW k l p).S i=⟨0,0,z0⟩:=λi=>by
  unfold ce qW;dsimp only;rw[zd,List.getElem?_replicate];split <;> rfl
 have hlv:lv (qW k l p).S = []:=za4.2 λh hh=>by
  obtain⟨i,q⟩:=(ic hR).1 hh;have:=q.2.1;rw[hce] at this;cases this
 refine⟨?_,?_,⟨⟨hR,(WR (V:=Int) (λ_ _=>True) hp.1 hp.2).1,rfl,rfl,rfl,zW _,(λt ht=>nomatch ht),List.Pairwise.nil,(λh hh=>.inl (za9.1 hh).2),λh hh=>?_,λa v hv=>?_,λi hi=>?_⟩,λi hi ht=>?_,λh hh=>?_⟩,λh hh=>?_,?_⟩
 .unfold md;rw[za (by simp;omega),e1,a0d,show mk 8 6 (0:Int)=some (List.replicate 6 0) from rfl,a0d];refine sN (a:=List.replicate 6 ⟨0,false,-1⟩) (by kernel_rfl) ?_;rw[VK hp.1 hp.2,a0d];refine sN (a:=⟨[],30⟩) (by kernel_rfl) ?_;rfl
 .unfold uB;rw[za (by simp;omega),h2,a0d,show mk 8 6 (0:Int)=some (List.replicate 6 0) from rfl,a0d];refine sN (a:=List.replicate 6 ⟨0,false,-1⟩) (by kernel_rfl) ?_;unfold Ka;rw[za (by simp;omega),lf (by omega) (by omega),a0d,a0d];refine sN (a:=⟨[],30⟩) (by kernel_rfl) ?_;unfold hO qW;dsimp only;rw[zcg,zcg];rfl
 .rw[hlv] at hh;cases hh
 .obtain⟨i,hi,_⟩:=hv;have:=hi.2.1;rw[show (qW k l p).T=List.replicate p ⟨0,0,0⟩ from rfl,vQ] at this;cases this
 .have:(qW k l p).b7[i]=⟨0,false,-1⟩:=List.getElem_replicate ..;rw[this];exact⟨by decide,by decide,λ_=>rfl,λh=>absurd rfl h,λh=>by cases h⟩
 .rw[hce] at ht;rcases ht with h | h <;> cases h
 .rw[hlv] at hh;cases hh
 .rw[hlv] at hh;cases hh
 .unfold zr;rw[hlv];rfl
section
variable{x:Hp}(hB:HB x)
include hB
end
def Gc(o:g7):fE:=⟨o.Kind,o.A,o.B,o.C⟩
abbrev CO(o:g7):Int:=y6 o.Kind o.A o.B o.C
theorem Jh(k a b c:Int):V4 [k,a,b,c]=some (if y6 k a b c≠0 then (⟨0,0,0,0⟩,y6 k a b c) else (⟨k,a,b,c⟩,0)):=by
 unfold V4;rw[za (by simp)];show (W8 ⟨k,a,b,c⟩).bind _=_;rw[pb,a0d];by_cases h:y6 k a b c=0
 .rw[za (by simpa using h),za (by simpa using h)]
 .rw[zb (by simpa using h),zb h]
theorem Ng(k a b c:Int):kf [k,a,b,c]=some (if y6 k a b c≠0 then (⟨0,0,0,0⟩,y6 k a b c) else (⟨k,a,b,c⟩,0)):=by
 unfold kf;rw[za (by simp)];show (gu ⟨k,a,b,c⟩).bind _=_;rw[Je,a0d];by_cases h:y6 k a b c=0
 .rw[za (by simpa using h),za (by simpa using h)]
 .rw[zb (by simpa using h),zb h]
theorem four(l:List Int):(∃k a b c,l = [k,a,b,c])\/l.length≠4:=by
 match l with
 | []=>exact .inr (by simp)
 | [_]=>exact .inr (by simp)
 | [_,_]=>exact .inr (by simp)
 | [_,_,_]=>exact .inr (by simp)
 | [k,a,b,c]=>exact .inl ⟨k,a,b,c,rfl⟩
 | _::_::_::_::_::l=>exact .inr (by simp)
theorem CT{l:List Int}(h:l.length≠4):V4 l=some (⟨0,0,0,0⟩,14)/\kf l=some (⟨0,0,0,0⟩,14):=by
 unfold V4 kf;have:(((l.length:Int) != 4))=true:=by simp;omega
 rw[zb this,zb this];exact⟨rfl,rfl⟩
def bN(l:List Int):g7 × Int:=(V4 l).getD (⟨0,0,0,0⟩,0)
theorem ES(l:List Int):V4 l=some (bN l)/\kf l=some (Gc (bN l).1,(bN l).2):=by
 unfold bN;rcases four l with ⟨k,a,b,c,rfl⟩ | h
 .rw[Jh,Ng];refine⟨rfl,?_⟩;rw[ut];by_cases h:y6 k a b c≠0
  .rw[zb h,zb h];rfl
  .rw[za h,za h];rfl
 .rw[(CT h).1,(CT h).2];exact⟨rfl,rfl⟩
def pL(o:g7):Bool:=((decide (o.Kind>=1))&&(decide (o.Kind<=10)))&&(CO o==0)
def uv(p:List g7):Bool:=decide (p.length<=6)&&p.all pL
def fC(l:List (List g7)):Bool:=decide (l.length<=6)&&l.all uv
section
variable{l:List (List g7)}(hl:l.length<=12)(hp:∀p∈l,p.length<=12)
include hl hp
theorem FR:fZ l=some (fC l):=by
 unfold fZ fC;by_cases h6:l.length > 6
 .rw[zb (by simp;omega),zQ (by omega)];rfl
 .rw[za (by simp;omega),zB (by omega),zbd];simp only[jn];have key:=Dq (f:=λ(s23:Int)=>
   if (decide (s23<(l.length:Int))) then
     (ix l s23).bind λv34=>
     if (decide ((v34.length:Int) > 6)) then
      some (.inr (.inl false))
     else
     (lp (S:=Int) (E:=Bool ⊕ Unit) (λ(s36:Int)=>
      if (decide (s36<(v34.length:Int))) then
       (ix v34 s36).bind λv38=>
       (fY v38).bind λv39=>
       (B9 ((!v39)==false) 0 (W8 v38)).bind λv40=>
       if ((!v39)||(v40 != 0)) then
        some (.inr (.inl false))
       else
       some (.inl (u4 (s36+1)))
      else
      some (.inr (.inr ()))) 0).bind λe35=>
     match e35 with
     | .inl w=>some (.inr (.inl w))
     | .inr w=>some (Sum.inl (u4 (s23+1)))
   else
   some (.inr (.inr ()))) l uv (.inr ()) (Sum.inl (β:=Unit) false) (by omega) (λk hk=>?_) (by simp)
  .refine sN key ?_;cases l.all uv <;> rfl
  .rw[zb (by simpa using hk),r9 hk,a0d];unfold uv;have hm:=hp _ (zh hk);generalize l[k]=p at hm |-;by_cases hq:p.length > 6
   .rw[zb (by simp;omega),zQ (by omega)];rfl
   .rw[za (by simp;omega),zB (by omega),zbd];have k2:=Dq (f:=λ(s36:Int)=>
      if (decide (s36<(p.length:Int))) then
       (ix p s36).bind λv38=>
       (fY v38).bind λv39=>
       (B9 ((!v39)==false) 0 (W8 v38)).bind λv40=>
       if ((!v39)||(v40 != 0)) then
        some (.inr (.inl false))
       else
       some (Sum.inl (u4 (s36+1)))
      else
      some (.inr (.inr ()))) p pL (.inr ()) (Sum.inl (β:=Unit) false) (by omega) (λj hj=>?_) (by simp)
    .refine zct (sN k2 (r:=if p.all pL=true then some (.inl (u4 ((k:Int)+1))) else some (.inr (.inl false))) ?_) ?_;·cases p.all pL <;> rfl
     .rw[n9]
    .rw[zb (by simpa using hj),r9 hj,a0d,pb];unfold pL fY;rw[a0d,n9];cases ((decide (p[j].Kind>=1))&&(decide (p[j].Kind<=10)));·rfl
     .by_cases h:CO p[j]=0
      .have e:y6 p[j].Kind p[j].A p[j].B p[j].C=0:=h;rw[e,h];rfl
      .have e1:(y6 p[j].Kind p[j].A p[j].B p[j].C != 0)=true:=by simpa using h
       have e2:(CO p[j]==0)=false:=by simpa using h
       rw[e2];refine sN (a:=CO p[j]) rfl ?_;rw[show (CO p[j] != 0)=true from e1];rfl
theorem HO:qC (l.map (List.map Gc))=some (fC l):=by
 unfold qC fC;rw[zl];by_cases h6:l.length > 6
 .rw[zb (by simp;omega),zQ (by omega)];rfl
 .rw[za (by simp;omega),zB (by omega),zbd];simp only[jn];have key:=Dq (f:=λ(s23:Int)=>
   if (decide (s23<(l.length:Int))) then
     (ix (l.map (List.map Gc)) s23).bind λv34=>
     if (decide ((v34.length:Int) > 6)) then
      some (.inr (.inl false))
     else
     (lp (S:=Int) (E:=Bool ⊕ Unit) (λ(s36:Int)=>
      if (decide (s36<(v34.length:Int))) then
       (ix v34 s36).bind λv38=>
       (qB v38).bind λv39=>
       (B9 ((!v39)==false) 0 (gu v38)).bind λv40=>
       if ((!v39)||(v40 != 0)) then
        some (.inr (.inl false))
       else
       some (.inl (u4 (s36+1)))
      else
      some (.inr (.inr ()))) 0).bind λe35=>
     match e35 with
     | .inl w=>some (.inr (.inl w))
     | .inr w=>some (Sum.inl (u4 (s23+1)))
   else
   some (.inr (.inr ()))) l uv (.inr ()) (Sum.inl (β:=Unit) false) (by omega) (λk hk=>?_) (by simp)
  .refine sN key ?_;cases l.all uv <;> rfl
  .rw[zb (by simpa using hk),qy,r9 hk,ww,a0d,zl];unfold uv;have hm:=hp _ (zh hk);generalize l[k]=p at hm |-;by_cases hq:p.length > 6
   .rw[zb (by simp;omega),zQ (by omega)];rfl
   .rw[za (by simp;omega),zB (by omega),zbd];have k2:=Dq (f:=λ(s36:Int)=>
      if (decide (s36<(p.length:Int))) then
       (ix (p.map Gc) s36).bind λv38=>
       (qB v38).bind λv39=>
       (B9 ((!v39)==false) 0 (gu v38)).bind λv40=>
       if ((!v39)||(v40 != 0)) then
        some (.inr (.inl false))
       else
       some (Sum.inl (u4 (s36+1)))
      else
      some (.inr (.inr ()))) p pL (.inr ()) (Sum.inl (β:=Unit) false) (by omega) (λj hj=>?_) (by simp)
    .refine zct (sN k2 (r:=if p.all pL=true then some (.inl (u4 ((k:Int)+1))) else some (.inr (.inl false))) ?_) ?_;·cases p.all pL <;> rfl
     .rw[n9]
    .rw[zb (by simpa using hj),qy,r9 hj,ww,a0d,Je];unfold pL qB;rw[a0d,n9];rw[show (Gc p[j]).Kind=p[j].Kind from rfl];cases ((decide (p[j].Kind>=1))&&(decide (p[j].Kind<=10)));·rfl
     .by_cases h:CO p[j]=0
      .have e:y6 p[j].Kind (Gc p[j]).A (Gc p[j]).B (Gc p[j]).C=0:=h;rw[e,h];rfl
      .have e1:(y6 p[j].Kind p[j].A p[j].B p[j].C != 0)=true:=by simpa using h
       have e2:(CO p[j]==0)=false:=by simpa using h
       rw[e2];refine sN (a:=CO p[j]) rfl ?_;rw[show (CO p[j] != 0)=true from e1];rfl
end
noncomputable def GI(x:Hp):List Int:=Lp x.S x.T
noncomputable def dJ(x:Hp):List Int:=Xb x.S x.T (GI x)
theorem bC{x:Hp}{h:Int}:h∈dJ x↔h∈lv x.S/\¬bh x.S x.T (GI x) h:=by
 classical
 unfold dJ Xb;rw[zj,zG]
section
variable{x:Hp}(hx:K6 x)
include hx
theorem eR:(dJ x).Nodup:=zb7 _ (tX (z8.2 hx.sh.sr))
theorem cX:∀d∈dJ x,d∈lv x.S:=λd hd=>(bC.1 hd).1
theorem Ki{h:Int}(hl:h∈lv x.S)(hs:(ob x.S h).Strong<12):LV x.S x.T h=(T3 (oO x) h:Int):=Nn.2 hx.fair h hl hs
theorem Dj{h:Int}(hl:h∈lv x.S)(ho:h∈oO x):h∈GI x:=by
 refine qw.2 ⟨hl,?_⟩;by_cases hs:(ob x.S h).Strong<12
 .left;rw[Ki hx hl hs];have:=jw.2 ⟨λe=>eZ hx.sh.sr (e▸hl),ho⟩;omega
 .exact .inr (by omega)
theorem Hw{h:Int}(hh:h∈GI x):h∈lv x.S/\(h∈oO x\/12<=(ob x.S h).Strong):=by
 obtain⟨hl,hs⟩:=qw.1 hh;refine⟨hl,?_⟩;by_cases q:(ob x.S h).Strong<12
 .rcases hs with hs | hs
  .rw[Ki hx hl q] at hs;exact .inl (jw.1 (by omega)).2
  .omega
 .exact .inr (by omega)
theorem Rz:∀d∈dJ x,d∉oO x:=λd hd q=>by
 obtain⟨a,b⟩:=bC.1 hd;exact b (.base (Dj hx a q) a)
theorem Ry:∀h∈lv x.S,h∉dJ x->∀v∈(ob x.S h).Fields,v∉dJ x:=λh hh hn v hv q=>by
 obtain⟨a,b⟩:=bC.1 q;have hr:bh x.S x.T (GI x) h:=qr λr=>hn (bC.2 ⟨hh,r⟩);exact b (.step hr (gp.2 ⟨hv,λe=>eZ hx.sh.sr (e▸a)⟩) a)
theorem RA:∀k v,Has x.T k v->k∉dJ x->v∉dJ x:=λk v hk hn q=>by
 obtain⟨a,b⟩:=bC.1 q;have hr:bh x.S x.T (GI x) k:=qr λr=>hn (bC.2 ⟨(hx.sh.pr k v hk).1,r⟩);exact b (.pair hk hr a)
theorem dZ:K6 (gV x (dJ x)):=BM hx (eR hx) (cX hx) (Rz hx) (Ry hx) (RA hx)
end
theorem As:∀(l:List Int) {x:Hp} (hR:SR x.S) {h:Int} (hh:h∈lv x.S) (hs:12<=(ob x.S h).Strong),12<=(ob (l.foldl aK x).S h).Strong
 | [],_,_,_,_,hs=>hs
 | v::l,x,hR,h,hh,hs=>by
  have k1:=I1 hR v (f:=lD) λc=>Q0;refine As l (x:=aK x v) k1.sr (by
   show h∈lv (uO x v lD).S;rw[k1.lv];exact hh) ?_
  show 12<=(ob (uO x v lD).S h).Strong;rw[wc (x:=x) hR (h:=v) (f:=lD) (λc=>Q0) hh];split
  .unfold lD;rw[zb hs];omega
  .exact hs
section
variable{x:Hp}(hx:K6 x)
include hx
theorem yE{h:Int}:h∈lv (gV x (dJ x)).S↔bh x.S x.T (GI x) h:=by
 rw[GW hx.sh.sr (eR hx) (cX hx),zj,zG,bC];constructor
 .rintro⟨a,b⟩;exact qr λr=>b ⟨a,r⟩
 .intro r;exact⟨r.live,λq=>q.2 r⟩
theorem XD{h:Int}(hh:h∈lv (gV x (dJ x)).S):(ob (gV x (dJ x)).S h).Serial=(ob x.S h).Serial/\(ob (gV x (dJ x)).S h).Prog=(ob x.S h).Prog/\(ob (gV x (dJ x)).S h).Fields=(ob x.S h).Fields/\(ob (gV x (dJ x)).S h).Started=(ob x.S h).Started:=by
 have r:=(yE hx).1 hh;obtain⟨n,e⟩:=GX hx.sh.sr (eR hx) (cX hx) r.live (λq=>(bC.1 q).2 r);rw[e];exact⟨rfl,rfl,rfl,rfl⟩
theorem NB{h:Int}(hh:h∈lv (gV x (dJ x)).S)(hs:12<=(ob x.S h).Strong):12<=(ob (gV x (dJ x)).S h).Strong:=by
 have r:=(yE hx).1 hh;have g:=eT (dJ x) hx.sh.sr (eR hx) (cX hx);have hn:h∉dJ x:=λq=>(bC.1 q).2 r;refine As _ (x:=jM x (dJ x) (lO x.T (dJ x)).1) g.sr ?_ ?_
 .show h∈lv (oW x.S (dJ x));rw[g.lv,zj];exact⟨r.live,by simpa using hn⟩
 .show 12<=(ob (oW x.S (dJ x)) h).Strong;rw[g.ob h r.live hn];exact hs
theorem Vd:oO (gV x (dJ x))=oO x:=by
 obtain⟨e1,_,_,e4⟩:=sZ hx.sh.sr (eR hx) (cX hx);unfold oO;rw[e1,e4,yK _ _ _ λt ht=>by
  obtain⟨w,_,rfl,_⟩:=gM.1 ht;simp]
theorem Rx{h:Int}(hh:bh x.S x.T (GI x) h):bh (gV x (dJ x)).S (gV x (dJ x)).T (GI (gV x (dJ x))) h:=by
 have w:=dZ hx;obtain⟨_,_,e3,_⟩:=sZ hx.sh.sr (eR hx) (cX hx);have hlen:(dJ x).length<=1000:=by
  have:=ab (eR hx) (cX hx);have:=L4 (z8.2 hx.sh.sr);omega
 obtain⟨_,_,_,_,w5,_⟩:=kz hx.sh.hr (dJ x) hlen;induction hh with
 | base h1 h2=>
  have hl:=(yE hx).2 (.base h1 h2);refine .base ?_ hl;rcases (Hw hx h1).2 with q | q
  .exact Dj w hl (by rw[Vd hx];exact q)
  .exact qw.2 ⟨hl,.inr (NB hx hl q)⟩
 | step q0 q1 q2 ih=>
  refine .step ih ?_ ((yE hx).2 (.step q0 q1 q2));unfold outs at q1 |-;rw[(XD hx ((yE hx).2 q0)).2.2.1];exact q1
 | pair q1 q0 q2 ih=>
  refine .pair ?_ ih ((yE hx).2 (.pair q1 q0 q2));rw[e3];exact (w5 _ _).2 ⟨λq=>(bC.1 q).2 q0,q1⟩
theorem Fc:dJ (gV x (dJ x)) = []:=za4.2 λh hh=>by
 obtain⟨a,b⟩:=bC.1 hh;exact b (Rx hx ((yE hx).1 a))
end
theorem EO{x:Hp}(hx:K6 x)(hg:dJ x = []):zr x = []:=za4.2 λh hh=>by
 have hl:=(de.1 hh).1;have hs:=(de.1 hh).2;have hf:=Et hx hh;have h0:h≠0:=λe=>eZ hx.sh.sr (e▸hl);have r:bh x.S x.T (GI x) h:=qr λr=>by
  have:h∈dJ x:=bC.2 ⟨hl,r⟩;rw[hg] at this;cases this
 unfold lk at hf;cases r with
 | base h1 h2=>
  rcases (Hw hx h1).2 with q | q
  .have:=jw.2 ⟨h0,q⟩;omega
  .omega
 | step q0 q1 q2=>
  have:=Dp (y:=h) q0.live;have h1:=jw.2 ⟨h0,q1⟩;omega
 | pair q1 q0 q2=>
  have:=DF q1 h0;omega
theorem yF{x:Hp}(hx:K6 x):bJ (gV x (dJ x))=gV x (dJ x):=PA (EO (dZ hx) (Fc hx))
theorem NN{c:Int}(h:0<=c):1<=Z7 c:=by unfold Z7;split <;> (try split) <;> omega
theorem HP{x:Hp}(hR:SR x.S){h:Int}(hh:h∈lv x.S){k:Int}(hk:k∈lv x.S):(ob (gQ x h).S k).Strong=if k=h then Z7 (ob x.S k).Strong else (ob x.S k).Strong:=by
 have oko:=K5 hR hh;have ho:AZ x.S (fL (ob x.S h)):=⟨oko.s1,oko.s2,oko.st,oko.wk,oko.p1,oko.p2,oko.fl⟩;have r1:=bZ (o:=fL (ob x.S h)) hR hh rfl ho;have l1:lv (df x.S h (fL (ob x.S h)))=lv x.S:=iV (o:=fL (ob x.S h)) hR hh rfl ho;have hr:=H2 hR hk;have e1:(ob (df x.S h (fL (ob x.S h))) k).Strong=(ob x.S k).Strong:=by
  rw[gw (o:=fL (ob x.S h)) hR hh rfl ho (by omega)];split;·rename_i e;subst e;rfl
  .rfl
 have:=wc (x:=⟨df x.S h (fL (ob x.S h)),x.Roots,x.b7,x.T,⟨x.Q.L ++ [Bc x h],x.Q.Cap⟩⟩) r1 (h:=h) (f:=Z7) (λc=>E7) (k:=k) (by
  show k∈lv (df x.S h (fL (ob x.S h)));rw[l1];exact hk)
 rw[show (ob (gQ x h).S k).Strong=_ from this];show (if k=h then Z7 (ob (df x.S h (fL (ob x.S h))) k).Strong else (ob (df x.S h (fL (ob x.S h))) k).Strong)=_;rw[e1]
theorem Wo{x:Hp}(hx:K6 x)(hz:zr x = []){h:Int}(hh:h∈lv x.S):zr (gQ x h) = []:=za4.2 λk hk=>by
 obtain⟨a,b⟩:=de.1 hk;rw[DJ hx.sh.sr hh] at a;rw[HP hx.sh.sr hh a] at b;have h0:=(K5 hx.sh.sr a).st;have hn:(ob x.S k).Strong≠0:=λq=>by
  have:k∈zr x:=de.2 ⟨a,q⟩;rw[hz] at this;cases this
 split at b;·have:=NN h0;omega
 .exact hn b
structure Qd (x y:Hp) (l:List Int):Prop where
 rt:K6 y
 sl:SL y
 zr:zr y = []
 lv:lv y.S=lv x.S
 ob:∀k∈Sh.lv x.S,∃n,Sh.ob y.S k=Bz (if k∈l then fL (Sh.ob x.S k) else Sh.ob x.S k) n
 ro:y.Roots=x.Roots
 ce:y.b7=x.b7
 t:y.T=x.T
 q:y.Q=⟨x.Q.L++l.map (Bc x),x.Q.Cap⟩
 bw:y.S.Serial=x.S.Serial
theorem SD{x:Hp}(hR:SR x.S){h:Int}(hh:h∈lv x.S):(gQ x h).S.Serial=x.S.Serial:=(nH hR hh).1.bw
theorem Al:∀(l:List Int) {x:Hp},K6 x->SL x->Sh.zr x = []->l.Nodup->(∀h∈l,h∈Sh.lv x.S/\due (Sh.ob x.S h)=true)->Qd x (l.foldl gQ x) l
 | [],x,hx,hS,hz,_,_=>⟨hx,hS,hz,rfl,λk hk=>⟨(Sh.ob x.S k).Strong,by rw[za (by simp)];rfl⟩,rfl,rfl,rfl,by simp,rfl⟩
 | h::l,x,hx,hS,hz,hn,hd=>by
  obtain⟨hl,hdu⟩:=hd h (zg ..);have hR:=hx.sh.sr;rw[me] at hn;have q2:=hdu;unfold due at q2;rw[zy,zG,zb9] at q2;have h1:=vU hx hl q2.1 q2.2;have h2:=Pb hR hS hl;have h3:=Wo hx hz hl;have lq:=DJ hR hl;have oq:∀k∈Sh.lv x.S,k≠h->∃n,Sh.ob (gQ x h).S k=Bz (Sh.ob x.S k) n:=λk hk hne=>by
   obtain⟨n,e⟩:=Ak hR hl hk;rw[za hne] at e;exact⟨n,e⟩
  have ih:=Al l h1 h2 h3 hn.2 λk hk=>by
   obtain⟨a,b⟩:=hd k (zn _ hk);obtain⟨n,e⟩:=oq k a λe=>hn.1 (e▸hk);refine⟨by rw[lq];exact a,?_⟩;rw[e];exact b
  obtain⟨_,k1,k2,k3,k4⟩:=nH hR hl;refine⟨ih.rt,ih.sl,ih.zr,ih.lv.trans lq,λk hk=>?_,ih.ro.trans k1,ih.ce.trans k2,ih.t.trans k3,?_,ih.bw.trans (SD hR hl)⟩
  .obtain⟨n,e⟩:=ih.ob k (by rw[lq];exact hk);obtain⟨m,e2⟩:=Ak hR hl hk;refine⟨n,?_⟩;show Sh.ob (l.foldl gQ (gQ x h)).S k=_;rw[e];by_cases c:k=h
   .subst c;rw[za hn.1,zb (zg ..),e2,zb rfl]
   .rw[za c] at e2;by_cases c2:k∈l
    .rw[zb c2,zb (zn _ c2),e2]
    .rw[za c2,za (λq=>by
      rcases zM.1 q with r | r
      .exact c r
      .exact c2 r),e2]
  .show (l.foldl gQ (gQ x h)).Q=_;rw[ih.q,k4];have:l.map (Bc (gQ x h))=l.map (Bc x):=zt λk hk=>by
    obtain⟨a,_⟩:=hd k (zn _ hk);obtain⟨n,e⟩:=oq k a λe=>hn.1 (e▸hk);show (⟨1,k,(Sh.ob (gQ x h).S k).Prog⟩:g6)=⟨1,k,(Sh.ob x.S k).Prog⟩;rw[e]
   rw[this];simp
noncomputable def kE(x:Hp):List Int:=(dJ x).filter λh=>due (Sh.ob x.S h)
noncomputable def Bb(x:Hp):Hp:=if kE x = [] then gV x (dJ x) else (kE x).foldl gQ x
theorem nh{x:Hp}:∀h∈kE x,h∈Sh.lv x.S/\due (Sh.ob x.S h)=true:=λh hh=>by
 obtain⟨a,b⟩:=zj.1 hh;exact⟨(bC.1 a).1,b⟩
theorem yl{x:Hp}(hx:K6 x):(kE x).Nodup:=zb7 _ (eR hx)
theorem MT{x:Hp}(hx:K6 x)(hS:SL x)(hz:zr x = []):Qd x ((kE x).foldl gQ x) (kE x):=Al _ hx hS hz (yl hx) nh
theorem Hd{x:Hp}(hx:K6 x)(hS:SL x)(hz:zr x = []):K6 (Bb x)/\SL (Bb x)/\zr (Bb x) = []:=by
 unfold Bb;split;·exact⟨dZ hx,MU hx.sh.sr hS (eR hx) (cX hx),EO (dZ hx) (Fc hx)⟩
 .have q:=MT hx hS hz;exact⟨q.rt,q.sl,q.zr⟩
theorem UP{y:Hp}(h:kE y = []):Bb y=gV y (dJ y):=by
 unfold Bb;rw[zb h]
section
variable{x:Hp}(hx:K6 x)
include hx
end
structure Rs (x:Hp) (n:Nat):Prop where
 rt:K6 x
 sl:SL x
 zr:zr x = []
 bw:x.S.Serial<=n
section
variable{x:Hp}(hx:K6 x)(hS:SL x)
include hx hS
theorem MW:V0 x=some (dJ x):=by
 have hB:=XI hx hS;unfold V0;rw[Hu (z8.2 hx.sh.sr) hx.sh.hr hB.tb hB.fb hB.sb];rfl
theorem Dc:(dJ x).length<=24:=zP (zE ..) (L4 (z8.2 hx.sh.sr))
theorem UD:gH x=some (kE x):=by
 have hR:=hx.sh.sr;have hl:=Dc hx hS;unfold gH;rw[MW hx hS,a0d];unfold K4;simp only[jn];refine sN (a:=kE x) ?_ rfl;refine bD (dJ x).length (λk b=>b=((dJ x).take k).filter λh=>due (Sh.ob x.S h)) (by omega) rfl (λk b hk hP=>?_) (λb hP=>?_)
 .subst hP;have hm:=cX hx _ (zh hk);have hle:(((dJ x).take k).filter λh=>due (Sh.ob x.S h)).length<=24:=zP (zE ..) (by simp;omega);refine .inl ⟨_,?_,rfl⟩;rw[zb (by simpa using hk),r9 hk,a0d,V2 hk,zbb];unfold iH;rw[yI hR hm,a0d,a0d];have e:(decide ((ob x.S (dJ x)[k],(0:Int)).1.Prog>=0) && !(ob x.S (dJ x)[k],(0:Int)).1.Started)=due (ob x.S (dJ x)[k]):=rfl;rw[e];cases hd:due (ob x.S (dJ x)[k])
  .rw[za (by simp),n9];simp[hd]
  .rw[zb rfl,J0 (by omega) (by simp;omega),a0d,n9];simp[hd]
 .subst hP;refine⟨_,za (by simp),?_⟩;rw[zV];rfl
noncomputable def MX(x:Hp):Int:=if kE x = [] then ((lv x.S).length:Int)-((lv (Bb x).S).length:Int) else 0
omit hx hS in
theorem VB {l:List Int} (hn:l.Nodup) (hm:∀d∈l,d∈lv x.S):YR x l=l:=by
 have key:∀(l b:List Int),(b++l).Nodup->(∀d∈l,d∈lv x.S)->l.foldl (λb h=>if h∈lv x.S/\h∉b then b ++ [h] else b) b=b++l:=by
  intro l;induction l with
  | nil=>intro b _ _;simp
  | cons a l ih=>
   intro b hn hm;rw[zaj];have ha:a∉b:=λq=>by
    rw[zbs] at hn;exact hn.2.2 a q a (zg ..) rfl
   rw[zb ⟨hm a (zg ..),ha⟩,ih (b ++ [a]) (by simpa using hn) λd hd=>hm d (zn _ hd)];simp
 exact key l [] (by simpa using hn) hm
variable(hz:zr x = [])
include hz
theorem Tg{k:Nat}(hk:k<(kE x).length):(((kE x).take k).foldl gQ x)=(((kE x).take k).foldl gQ x)/\K6 (((kE x).take k).foldl gQ x)/\SL (((kE x).take k).foldl gQ x)/\(kE x)[k]∈lv (((kE x).take k).foldl gQ x).S/\due (ob (((kE x).take k).foldl gQ x).S (kE x)[k])=true:=by
 have hn:=yl hx;have q:=Al ((kE x).take k) hx hS hz ((zca ..).nodup hn) λh hh=>nh h (zaf hh);obtain⟨a,b⟩:=nh (kE x)[k] (zh hk);refine⟨rfl,q.rt,q.sl,by rw[q.lv];exact a,?_⟩;obtain⟨n,e⟩:=q.ob _ a;have hnot:(kE x)[k]∉(kE x).take k:=λh=>by
  have:=V2 hk;have hs:((kE x).take (k+1)).Nodup:=(zca ..).nodup hn;rw[this,zbs] at hs;exact hs.2.2 _ h _ (List.mem_singleton_self _) rfl
 rw[e,za hnot];exact b
theorem IZ:(kE x).length<=24:=zP (zE ..) (Dc hx hS)
theorem UO:aQ x=some (Bb x,((kE x).length:Int),MX x):=by
 have hR:=hx.sh.sr;have hl:=IZ hx hS hz;obtain⟨c1,c2,c3⟩:=Hd hx hS hz;unfold aQ;rw[UD hx hS,a0d];simp only[jn];refine bD (kE x).length (λk b=>b=((kE x).take k).foldl gQ x) (by omega) rfl (λk b hk hP=>?_) (λb hP=>?_)
 .subst hP;obtain⟨_,r1,r2,r3,r4⟩:=Tg hx hS hz hk;refine .inl ⟨_,?_,rfl⟩;rw[zb (by simpa using hk),r9 hk,a0d,Cp r1 r2 (rB r1.sh.sr r3),a0d,n9,V2 hk,zas];unfold YV;rw[zb ⟨r3,r4⟩];rfl
 .subst hP;refine⟨_,za (by simp),?_⟩;rw[zV];by_cases hb:kE x = []
  .have e:Bb x=gV x (dJ x):=UP hb;rw[za (by simp[hb])];unfold MX;rw[zb hb,e,hb];have h1:=eR hx;have h2:=cX hx;have hlive:=gK (z8.2 hR);have hlive2:=gK (z8.2 (dZ hx).sh.sr);have l1:=L4 (z8.2 hR);have l2:=L4 (z8.2 (dZ hx).sh.sr);show (V0 x).bind _=_;rw[MW hx hS,a0d,List.foldl_nil,Jb hx h1 h2 (SQ hx) (by rw[tV hR _ (by have:=Dc hx hS;omega) λh hh=>rB hR (h2 h hh),VB h1 h2]),a0d,jF (dZ hx) (by rw[<-e];exact c2),a0d,yF hx,hlive,a0d,hlive2,a0d,O1 (by omega) (by omega)];rfl
  .have:0<(kE x).length:=List.length_pos_iff.2 hb;rw[zb (by simp;omega)];unfold MX Bb;rw[za hb,za hb]
end
theorem Rq{x:Hp}(hx:K6 x)(hS:SL x)(hz:zr x = []):(Bb x).S.Serial=x.S.Serial:=by
 unfold Bb;split
 .have g:=eT (dJ x) hx.sh.sr (eR hx) (cX hx);exact (iz ((dJ x).flatMap (outs x.S)++(lO x.T (dJ x)).2) (x:=jM x (dJ x) (lO x.T (dJ x)).1) g.sr).1.bw.trans g.bw
 .exact (MT hx hS hz).bw
def Sv(s s':b6):Prop:=s'.S.b7.length=s.S.b7.length/\∀i,i<s.S.b7.length->(ce s i).Gen<=(ce s' i).Gen/\((ce s' i).Gen=(ce s i).Gen->((ce s i).State≠0->(ce s' i).State≠0)/\((ce s' i).State=1->(ce s i).State=0\/((ce s i).State=1/\((ce s i).Val.Started=true->(ce s' i).Val.Started=true))))
theorem Sv.refl(s:b6):Sv s s:=⟨rfl,λi _=>⟨zag _,λ_=>⟨id,λh=>.inr ⟨h,id⟩⟩⟩⟩
theorem Sv.trans{a b c:b6}(h:Sv a b)(q:Sv b c):Sv a c:=by
 obtain⟨h1,h2⟩:=h;obtain⟨q1,q2⟩:=q;refine⟨q1.trans h1,λi hi=>?_⟩;obtain⟨a1,a2⟩:=h2 i hi;obtain⟨b1,b2⟩:=q2 i (by omega);refine⟨by omega,λe=>?_⟩;obtain⟨a3,a4⟩:=a2 (by omega);obtain⟨b3,b4⟩:=b2 (by omega);refine⟨λh=>b3 (a3 h),λh=>?_⟩;rcases b4 h with r | ⟨r,r'⟩
 .exact .inl (qr λn=>a3 n r)
 .rcases a4 r with k | ⟨k,k'⟩
  .exact .inl k
  .exact .inr ⟨k,λs=>r' (k' s)⟩
def Iz(s:b6)(h:Int):Prop:=∃(i:Nat) (g:Int),i<s.S.b7.length/\h=1+(i:Int)+32*g/\(g<(ce s i).Gen\/(g=(ce s i).Gen/\(ce s i).State≠0/\((ce s i).State=1->(ce s i).Val.Started=true)))
theorem Sv.Yy{s s':b6}(h:Sv s s'){k:Int}(q:Iz s k):Iz s' k:=by
 obtain⟨i,g,hi,e,q⟩:=q;obtain⟨h1,h2⟩:=h;obtain⟨a,b⟩:=h2 i hi;refine⟨i,g,by omega,e,?_⟩;rcases q with q | ⟨q1,q2,q3⟩
 .exact .inl (by omega)
 .by_cases c:(ce s' i).Gen=(ce s i).Gen
  .obtain⟨b1,b2⟩:=b c;refine .inr ⟨by omega,b1 q2,λr=>?_⟩;rcases b2 r with k | ⟨k1,k2⟩
   .exact absurd k q2
   .exact k2 (q3 k1)
  .exact .inl (by omega)
theorem LZ{s:b6}(hR:SR s){h:Int}(hh:h∈lv s)(hs:(ob s h).Started=false):¬Iz s h:=by
 rintro⟨i,g,hi,e,q⟩;obtain⟨j,hj⟩:=(ic hR).1 hh;have hl:=hR.len;have hij:i=j:=by
  have:=hj.2.2;have:=hj.1;omega
 subst hij;have:=hj.2.2;rcases q with q | ⟨q1,q2,q3⟩
 .omega
 .rw[E9 hR hj,q3 hj.2.1] at hs;cases hs
theorem wo.sv{s s':b6}(hR:SR s)(k:wo s s'):Sv s s':=⟨k.len,λi hi=>by
 obtain⟨a,b,_,_,_⟩:=k.ce i hi;refine⟨by omega,λ_=>⟨by omega,λh=>.inr ⟨by omega,λq=>?_⟩⟩⟩;have h1:At s (cu s i) i:=⟨hi,by omega,rfl⟩;have h2:At s' (cu s i) i:=⟨by rw[k.len];exact hi,h,by rw[b];rfl⟩;have hl:=H2 hR ((ic hR).2 ⟨i,h1⟩);obtain⟨n,e⟩:=k.ob (cu s i) (by omega);rw[E9 k.sr h2,E9 hR h1] at e;rw[e];exact q⟩
theorem Pu{s:b6}(hR:SR s){h:Int}(hh:h∈lv s){o:n0}(hs:o.Serial=(ob s h).Serial)(ho:AZ s o)(hst:(ob s h).Started=true->o.Started=true):Sv s (df s h o):=⟨Kl s h o,λi hi=>by
 have q:=o6 hR hh;rw[AA hR hh hs ho];split
 .rename_i e;subst e;refine⟨zag _,λ_=>⟨id,λr=>.inr ⟨q.2.1,λk=>hst ?_⟩⟩⟩;rw[E9 hR q];exact k
 .exact⟨zag _,λ_=>⟨id,λr=>.inr ⟨r,id⟩⟩⟩⟩
theorem Om{s:b6}(hR:SR s){i:Nat}(hi:i<s.S.b7.length)(ht:Th (ce s i))(d:Int):Sv s (mi s i d):=⟨K0 ..,λj hj=>by
 rw[fh hR hi ht];split
 .rename_i e;subst e;exact⟨zag _,λ_=>⟨id,λr=>.inr ⟨r,id⟩⟩⟩
 .exact⟨zag _,λ_=>⟨id,λr=>.inr ⟨r,id⟩⟩⟩⟩
theorem Vi{s:b6}{i:Nat}(hi:i<s.S.b7.length):Sv s (Ew s i):=⟨W3 ..,λj hj=>by
 unfold Ew;rw[L0 hi];by_cases e:j=i
 .subst e;rw[zb rfl];split;·exact⟨zag _,λ_=>⟨λ_=>(by decide:(3:Int)≠0),λr=>absurd (show (3:Int)=1 from r) (by decide)⟩⟩
  .refine⟨by show _<=(ce s j).Gen+1;omega,λr=>?_⟩;have:(ce s j).Gen+1=(ce s j).Gen:=r;omega
 .rw[za e];exact⟨zag _,λ_=>⟨id,λr=>.inr ⟨r,id⟩⟩⟩⟩
theorem Gn.sv{s s':b6}{ds:List Int}(g:Gn s s' ds):Sv s s':=⟨g.len,λj hj=>by
 rw[g.ce];split
 .unfold GG;split
  .split;·exact⟨zag _,λ_=>⟨λ_=>(by decide:(3:Int)≠0),λr=>absurd (show (3:Int)=1 from r) (by decide)⟩⟩
   .refine⟨by show _<=(Sh.ce s j).Gen+1;omega,λr=>?_⟩;have:(Sh.ce s j).Gen+1=(Sh.ce s j).Gen:=r;omega
  .exact⟨zag _,λ_=>⟨λ_=>(by decide:(2:Int)≠0),λr=>absurd (show (2:Int)=1 from r) (by decide)⟩⟩
 .exact⟨zag _,λ_=>⟨id,λr=>.inr ⟨r,id⟩⟩⟩⟩
theorem Ya{s:b6}(hR:SR s){i:Nat}(hi:i<s.S.b7.length)(h0:(ce s i).State=0){n:Nat}(hn:n<=4){p:Int}(hp : -1<=p/\p<=5):Sv s (dA s i n p):=⟨jX hR hi h0 hn hp,λj hj=>by
 rw[mj hR hi h0 hn hp];split
 .rename_i e;subst e;exact⟨zag _,λ_=>⟨λr=>absurd h0 r,λ_=>.inl h0⟩⟩
 .exact⟨zag _,λ_=>⟨id,λr=>.inr ⟨r,id⟩⟩⟩⟩
theorem Ib{x:Hp}(hR:SR x.S)(h:Int):Sv x.S (E8 x h).S:=(I1 hR h (f:=Z7) λc=>E7).sv hR
theorem DU{x:Hp}(hR:SR x.S)(h:Int):Sv x.S (aK x h).S:=(I1 hR h (f:=lD) λc=>Q0).sv hR
theorem Gi{x:Hp}(hR:SR x.S)(r:Nat)(h:Int):Sv x.S (G6 x r h).S:=
 (Ib hR h).trans (DU (x:=wR (E8 x h) (x.Roots.set r h)) (km hR h) _)
theorem Li{x:Hp}(hR:SR x.S){h:Int}(hh:h∈lv x.S){n:Nat}(hn:n<(ob x.S h).Fields.length)(v:Int):Sv x.S (bP x h n v).S:=by
 have k1:=DX hR v;have hh1:h∈lv (E8 x v).S:=by rw[k1.lv];exact hh
 have hof:(ob (E8 x v).S h).Fields=(ob x.S h).Fields:=by
  obtain⟨n,e⟩:=(I1 hR v (f:=Z7) λc=>E7).ob h (by have:=H2 hR hh;omega);show (ob (uO x v Z7).S h).Fields=_;rw[e]
 have ho:AZ (E8 x v).S (rX (ob (E8 x v).S h) ((ob x.S h).Fields.set n v)):=by
  have:=K5 k1.sr hh1;refine⟨this.s1,this.s2,this.st,this.wk,this.p1,this.p2,?_⟩;have h4:=this.fl;rw[hof] at h4;simpa using h4
 have k2:=Pu (o:=rX (ob (E8 x v).S h) ((ob x.S h).Fields.set n v)) k1.sr hh1 rfl ho id;exact ((Ib hR v).trans k2).trans (DU (x:=wS (E8 x v) (df (E8 x v).S h (rX (ob (E8 x v).S h) ((ob x.S h).Fields.set n v)))) (bZ (o:=rX (ob (E8 x v).S h) ((ob x.S h).Fields.set n v)) k1.sr hh1 rfl ho) _)
theorem OR{x:Hp}(hR:SR x.S)(v:Int)(t:Tb)(old:Int):Sv x.S (ja x v t old).S:=
 (Ib hR v).trans (DU (x:=wT (E8 x v) t) (km hR v) old)
theorem VI{x:Hp}(hR:SR x.S)(h d:Int):Sv x.S (iN x h d).S:=by
 unfold iN;split
 .rename_i q;exact Om hR q.1 q.2.1 d
 .exact Sv.refl _
theorem Tm{x:Hp}(hR:SR x.S)(h:Int):Sv x.S (qh x h).S:=by
 unfold qh;split
 .rename_i q;have k:=Om hR q.1 q.2.1 (-1);split;·exact k.trans (Vi (by rw[k.1];exact q.1))
  .exact k
 .exact Sv.refl _
theorem PM{x:Hp}(hx:K6 x)(n:Nat)(h call:Int):Sv x.S (cT x n h call).S:=by
 have hR:=hx.sh.sr;unfold cT;have s1:Sv x.S (iN (wC x (x.b7.set n (fP h call))) h 1).S:=VI (x:=wC x (x.b7.set n (fP h call))) hR h 1;refine s1.trans (Tm ?_ _);unfold iN;split
 .rename_i q;have:=(hR.ok _ q.1 q.2.1).wk;exact vD hR q.1 q.2.1 (by omega)
 .exact hR
theorem UE{x:Hp}(hR:SR x.S){ds:List Int}(hn:ds.Nodup)(hm:∀d∈ds,d∈lv x.S):Sv x.S (gV x ds).S:=by
 have g:=eT ds hR hn hm;exact g.sv.trans ((iz (ds.flatMap (outs x.S)++(lO x.T ds).2) (x:=jM x ds (lO x.T ds).1) g.sr).1.sv g.sr)
theorem Wn{x:Hp}(hR:SR x.S){h:Int}(hh:h∈lv x.S):Sv x.S (gQ x h).S:=by
 have oko:=K5 hR hh;have ho:AZ x.S (fL (ob x.S h)):=⟨oko.s1,oko.s2,oko.st,oko.wk,oko.p1,oko.p2,oko.fl⟩;exact (Pu (o:=fL (ob x.S h)) hR hh rfl ho λ_=>rfl).trans ((nH hR hh).1.sv (bZ (o:=fL (ob x.S h)) hR hh rfl ho))
theorem WO{x:Hp}(hx:K6 x):Sv x.S (GK x).S:=by
 cases h:zr x with
 | nil=>rw[od h];exact Sv.refl _
 | cons z l=>
  have hz:z∈zr x:=by rw[h];exact zg ..
  have hzl:=(de.1 hz).1;rw[kq h];split;·exact Wn hx.sh.sr hzl
  .exact UE hx.sh.sr (by simp) (by simpa using hzl)
theorem WL{x:Hp}(hx:K6 x)(n:Nat):Sv x.S (oU n x).S:=by
 induction n with
 | zero=>exact Sv.refl _
 | succ n ih=>rw[fM];exact ih.trans (WO (Q2 hx n))
theorem SY{x:Hp}(hx:K6 x):Sv x.S (bJ x).S:=WL hx 100
structure Fw (x y:Hp):Prop where
 sv:Sv x.S y.S
 q:∃l,y.Q=⟨x.Q.L++l,x.Q.Cap⟩/\∀t∈l,t.Kind=1->¬Iz x.S t.At
theorem Fw.of{x y:Hp}(h:Sv x.S y.S)(q:y.Q=x.Q):Fw x y:=⟨h,[],by rw[q,zap],λt ht=>by cases ht⟩
theorem Fw.refl(x:Hp):Fw x x:=Fw.of (Sv.refl _) rfl
theorem Fw.trans{x y z:Hp}(a:Fw x y)(b:Fw y z):Fw x z:=by
 obtain⟨l,q1,q2⟩:=a.q;obtain⟨m,r1,r2⟩:=b.q;refine⟨a.sv.trans b.sv,l++m,by rw[r1,q1,zai],λt ht hk=>?_⟩;rcases zu.1 ht with h | h
 .exact q2 t h hk
 .exact λs=>r2 t h hk (a.sv.Yy s)
theorem Ec{x:Hp}(hx:K6 x):Fw x (bJ x):=by
 obtain⟨l,q1,q2,_⟩:=(mM hx).q;exact⟨SY hx,l,q1,λt ht hk=>LZ hx.sh.sr (q2 t ht hk).1 (q2 t ht hk).2⟩
theorem ki{x:Hp}(hR:SR x.S)(r:Nat)(h:Int):Fw x (G6 x r h):=Fw.of (Gi hR r h) (kl x r h).2.2.2
theorem Xu{x:Hp}(hx:K6 x)(hS:SL x)(hz:zr x = [])(hb:x.S.Serial<9223372036854775807)(o:g7):(∃e,Er x o e)\/∃z v,Dn x o z v/\Fw x z:=by
 have hR:=hx.sh.sr;obtain⟨k,a,b,c⟩:=o;by_cases hc:y6 k a b c=0
 .have:=tT hc;have hk:k=1\/k=2\/k=3\/k=4\/k=5\/k=6\/k=7\/k=8\/k=9\/k=10\/k=11\/k=12:=by omega
  rcases hk with rfl | rfl | rfl | rfl | rfl | rfl | rfl | rfl | rfl | rfl | rfl | rfl
  .rcases d1 hx hS hb hc with ⟨e,_,h⟩ | ⟨hn,hcc,i,hF,h⟩;·exact .inl ⟨e,h⟩
   .obtain⟨hi,h0,_⟩:=hF;have k1:Fw x (wS x (dA x.S i b.toNat c)):=Fw.of (Ya hR hi h0 hn hcc) rfl;exact .inr ⟨_,_,h,k1.trans (ki (x:=wS x (dA x.S i b.toNat c)) (FH hR hi h0 hn hcc) _ _)⟩
  .exact .inr ⟨_,_,d2 hx hS hc,ki hR _ _⟩
  .exact .inr ⟨_,_,d3 hx hS hc,ki hR _ _⟩
  .rcases d4 hx hS hc with ⟨_,h⟩ | ⟨e,_,h⟩ | ⟨_,n,_,_,h⟩;·exact .inl ⟨_,h⟩
   .exact .inl ⟨_,h⟩
   .exact .inr ⟨_,_,h,ki hR _ _⟩
  .rcases d5 hx hS hc with ⟨_,h⟩ | ⟨e,_,h⟩ | ⟨hl,n,_,hn,h⟩;·exact .inl ⟨_,h⟩
   .exact .inl ⟨_,h⟩
   .exact .inr ⟨_,_,h,Fw.of (Li hR hl hn _) (pn _ _ _ _).2.2.2⟩
  .rcases d6 hx hS hc with ⟨_,h⟩ | ⟨e,_,h⟩ | ⟨_,h⟩;·exact .inl ⟨_,h⟩
   .exact .inl ⟨_,h⟩
   .exact .inr ⟨_,_,h,Fw.of (PM hx _ _ _) (AS _ _ _ _).2.2.2⟩
  .obtain⟨_,⟨_,h⟩ | ⟨_,h⟩⟩:=d7 hx hS hc;·exact .inl ⟨_,h⟩
   .exact .inr ⟨_,_,h,ki hR _ _⟩
  .rcases d8 hx hS hc with ⟨_,h⟩ | ⟨_,e,_,h⟩ | ⟨_,r,_,_,h⟩;·exact .inl ⟨_,h⟩
   .exact .inl ⟨_,h⟩
   .exact .inr ⟨_,_,h,Fw.of (OR hR _ _ _) (sy _ _ _ _).2.2.2⟩
  .rcases d9 hx hS hc with ⟨_,h⟩ | ⟨_,_,h⟩ | ⟨_,v,_,h⟩;·exact .inl ⟨_,h⟩
   .exact .inl ⟨_,h⟩
   .exact .inr ⟨_,_,h,ki hR _ _⟩
  .exact .inr ⟨_,_,d10 hx hS hz hc,Fw.refl x⟩
  .obtain⟨h1,h2⟩:=CU (x:=x) (a:=a) (b:=b) (c:=c) (.inl rfl) hc;exact .inl ⟨14,by decide,h1,h2⟩
  .obtain⟨h1,h2⟩:=CU (x:=x) (a:=a) (b:=b) (c:=c) (.inr rfl) hc;exact .inl ⟨14,by decide,h1,h2⟩
 .obtain⟨h1,h2⟩:=Ni (x:=x) (o:=⟨k,a,b,c⟩) hc;exact .inl ⟨_,hc,h1,h2⟩
theorem UU{x:Hp}(hx:K6 x)(hS:SL x)(hz:zr x = [])(hb:x.S.Serial<9223372036854775807)(o:g7):Fw x (jz x o).1:=by
 rcases Xu hx hS hz hb o with ⟨e,_,h,_⟩ | ⟨z,v,d,f⟩
 .have:jz x o=(x,0,e):=by unfold jz;rw[h];rfl
  rw[this];exact Fw.refl x
 .have:jz x o=(bJ z,v,0):=by unfold jz;rw[d.mc];rfl
  rw[this];exact f.trans (Ec d.rt)
theorem Yv{x:Hp}(h1:jJ x)(h2:Wk x){L:List Int}(h3:aO x L){r:Nat}(hr:r<6){h:Int}(hh:h=0\/h∈lv x.S):jJ (G6 x r h)/\Wk (G6 x r h)/\aO (G6 x r h) L:=by
 have xe:=I1 h1.sr h (f:=Z7) λc=>E7;have l1:lv (E8 x h).S=lv x.S:=xe.lv;have f1:aO (E8 x h) (h::L):=Gj h1.sr h3 h;have s1:jJ (E8 x h):=h1.st h (f:=Z7) λc=>E7;have s2:jJ (wR (E8 x h) (x.Roots.set r h)):=s1.roots (by rw[zal];exact h1.r6) λv hv=>by
  rw[l1];rcases zau hv with q | q
  .exact h1.rt v q
  .exact q▸hh
 have w1:Wk (E8 x h):=h2.st h1.sr h (f:=Z7) λc=>E7;have one:∀v k,T3 [v] k=if v=k/\k≠0 then 1 else 0:=λv k=>by rw[I5,I2,zab]
 have f2:aO (wR (E8 x h) (x.Roots.set r h)) (x.Roots.getD r 0::L):=f1.mv rfl (λ_ _=>rfl) λk hk=>by
  have:=xR (l:=x.Roots) (r:=r) (by rw[h1.r6];exact hr) h k;rw[one,one] at this;rw[pS x h];unfold lk oO;dsimp only;rw[G2,G2,qg,qg,I5 h L,I5 (x.Roots.getD r 0) L];omega
 exact⟨s2.st _ λc=>Q0,Wk.st (x:=wR (E8 x h) (x.Roots.set r h)) w1 s2.sr _ λc=>Q0,uG (x:=wR (E8 x h) (x.Roots.set r h)) s2.sr f2⟩
abbrev vd(x:Hp)(ts:List g6):Hp:=wQ x ⟨ts,x.Q.Cap⟩
noncomputable def xc(x:Hp)(ts:List g6)(h:Int):Hp:=aK (G6 (vd x ts) 5 h) h
section
variable{x:Hp}(hx:K6 x){t:g6}{ts:List g6}(hq:x.Q.L=t::ts)
include hx hq
theorem Ek:jJ (vd x ts):=by
 have h:=hx.sh;refine⟨h.sr,h.hr,h.r6,h.c6,h.cap,?_,λu hu=>h.tk u (by rw[hq];exact zn _ hu),?_,h.rt,h.fl,h.pr,λi hi=>?_⟩
 .have:=h.q30;rw[hq,zH] at this;show ts.length<=30;omega
 .have:=h.td;rw[hq,zba] at this;exact this.2
 .obtain⟨a,b,c,d,e⟩:=h.cl i hi;refine⟨a,b,c,d,λq=>⟨(e q).1,?_⟩⟩;have:=(e q).2;rw[zbl] at this |-;intro r;obtain⟨u,hu,k1,k2⟩:=gU.1 r;exact this (gU.2 ⟨u,by rw[hq];exact zn _ hu,k1,k2⟩)
theorem Gw:aO (vd x ts) (if t.Kind=1 then [t.At] else []):=hx.fair.mv rfl (λ_ _=>rfl) λh _=>by
 unfold lk oO pz;dsimp only;rw[hq,or];by_cases k:t.Kind=1
 .rw[zb k,zb (by simpa using k),zT,G2,G2,I5 t.At (List.map _ _),I5 t.At [],I2];omega
 .rw[za k,za (by simpa using k),I2]
theorem GY(hk:t.Kind≠1):K6 (vd x ts):=⟨Ek hx hq,hx.wk,by have:=Gw hx hq;rwa [za hk] at this⟩
theorem Hq(hk:t.Kind=1):t.At∈lv x.S/\(ob x.S t.At).Started=true:=by
 rcases (hx.sh.tk t (by rw[hq];exact zg ..)).2.2 with ⟨_,b,c⟩ | ⟨b,_⟩;·exact⟨b,c⟩
 .omega
theorem lX(hk:t.Kind=1):K6 (xc x ts t.At):=by
 have f:=Gw hx hq;rw[zb hk] at f;obtain⟨a,b,c⟩:=Yv (Ek hx hq) (x:=vd x ts) hx.wk f (r:=5) (by decide) (.inr (Hq hx hq hk).1);exact⟨a.st _ λc=>Q0,b.st a.sr _ λc=>Q0,uG a.sr c⟩
omit hq in
theorem Nt (hS:SL x) (h:Int):SL (xc x ts h):=by
 have k:=pR (x:=vd x ts) hx.sh.sr hS 5 h;exact DS [h] (du (x:=vd x ts) hx.sh.sr 5 h).sr k
omit hq in
theorem UY (h:Int):Ks x.S (xc x ts h).S:=by
 have k:=du (x:=vd x ts) hx.sh.sr 5 h;exact k.trans (DT k.sr h)
omit hq in
theorem Ns (h:Int):(xc x ts h).Roots=x.Roots.set 5 h/\(xc x ts h).b7=x.b7/\(xc x ts h).T=x.T/\(xc x ts h).Q=⟨ts,x.Q.Cap⟩:=by
 obtain⟨a,b,c,d⟩:=Au (G6 (vd x ts) 5 h) h;obtain⟨a',b',c',d'⟩:=kl (vd x ts) 5 h;exact⟨a.trans a',b.trans b',c.trans c',d.trans d'⟩
omit hq in
theorem UX (h:Int):Fw (vd x ts) (xc x ts h):=Fw.of ((Gi (x:=vd x ts) hx.sh.sr 5 h).trans (DU (du (x:=vd x ts) hx.sh.sr 5 h).sr h)) (Ns hx h).2.2.2
end
def FQ(ps:List (List g7))(n:Int):List g7:=if n<0\/(ps.length:Int)<=n then [] else ps.getD n.toNat []
noncomputable def pre(x:Hp)(t:g6)(ts:List g6):Hp:=if t.Kind=1 then bJ (xc x ts t.At) else vd x ts
noncomputable def Wp(ps:List (List g7))(x:Hp)(t:g6)(ts:List g6):Hp:=(runs (pre x t ts) (FQ ps t.Prog)).1
noncomputable def Le(ps:List (List g7))(x:Hp)(t:g6)(ts:List g6):Hp:=if t.Kind=1 then bJ (G6 (Wp ps x t ts) 5 0) else Wp ps x t ts
structure Oh (x:Hp):Prop where
 rt:K6 x
 sl:SL x
 zr:zr x = []
theorem WY.ok{x y:Hp}{o:g7}{v e:Int}(n:WY x o y v e):Oh y:=⟨n.rt,n.sl,n.zr⟩
theorem Km{x:Hp}(h:K6 x)(s:SL x):Oh (bJ x):=⟨nW h,Ko h s,Cu h⟩
theorem Ps{x:Hp}(hx:Oh x)(l:List g7)(hb:x.S.Serial+l.length<9223372036854775807):Oh (runs x l).1/\Fw x (runs x l).1/\(runs x l).1.S.Serial<=x.S.Serial+l.length/\(runs x l).2.length=l.length:=by
 have key:∀k,k<=l.length->Oh (runs x (l.take k)).1/\Fw x (runs x (l.take k)).1/\(runs x (l.take k)).1.S.Serial<=x.S.Serial+k/\(runs x (l.take k)).2.length=k:=by
  intro k;induction k with
  | zero=>exact λ_=>⟨hx,Fw.refl x,by show x.S.Serial<=_;omega,rfl⟩
  | succ k ih=>
   intro hk;obtain⟨a,b,c,d⟩:=ih (by omega);have hk':k<l.length:=by omega
   have n:=um a.rt a.sl a.zr (by omega) l[k];rw[V2 hk',qH];exact⟨n.ok,b.trans (UU a.rt a.sl a.zr (by omega) _),by have:=n.ev.s2;show (jz _ _).1.S.Serial<=_;omega,by simp[d]⟩
 have:=key l.length (zF _);rwa [zV] at this
section
variable{x:Hp}(hx:Oh x){t:g6}{ts:List g6}(hq:x.Q.L=t::ts)(ps:List (List g7))
include hx hq
theorem HM:Oh (pre x t ts):=by
 unfold pre;split
 .rename_i k;exact Km (lX hx.rt hq k) (Nt hx.rt hx.sl _)
 .rename_i k;exact⟨GY hx.rt hq k,hx.sl,hx.zr⟩
theorem Wf:Fw (vd x ts) (pre x t ts):=by
 unfold pre;split
 .rename_i k;exact (UX hx.rt _).trans (Ec (lX hx.rt hq k))
 .exact Fw.refl _
theorem DG:(pre x t ts).S.Serial=x.S.Serial:=by
 unfold pre;split
 .rename_i k;rw[(mM (lX hx.rt hq k)).bw,(UY hx.rt _).bw]
 .rfl
variable(hb:x.S.Serial+(FQ ps t.Prog).length<9223372036854775807)
include hb
theorem DP:Oh (Wp ps x t ts)/\Fw (vd x ts) (Wp ps x t ts)/\(Wp ps x t ts).S.Serial<=x.S.Serial+(FQ ps t.Prog).length:=by
 have e:=DG hx hq;obtain⟨a,b,c,_⟩:=Ps (HM hx hq) (FQ ps t.Prog) (by rw[e];exact hb);exact⟨a,(Wf hx hq).trans b,by rw[e] at c;exact c⟩
theorem Rv:Oh (Le ps x t ts)/\Fw (vd x ts) (Le ps x t ts)/\(Le ps x t ts).S.Serial<=x.S.Serial+(FQ ps t.Prog).length/\(t.Kind=1->sd (Le ps x t ts) 5=0):=by
 obtain⟨a,b,c⟩:=DP hx hq ps hb;unfold Le;split
 .have hz:=bX a.rt (r:=5) (by decide) (h:=0) (.inl rfl);have k:=du a.rt.sh.sr 5 0;refine⟨Km hz (pR a.rt.sh.sr a.sl 5 0),(b.trans (ki a.rt.sh.sr 5 0)).trans (Ec hz),?_,λ_=>(vW a.rt (a:=5) (by decide) (h:=0) (.inl rfl)).1⟩;rw[(mM hz).bw,k.bw];exact c
 .exact⟨a,b,c,λq=>absurd q (by assumption)⟩
end
def BP(ps:List (List g7))(t:g6):Int:=1+((FQ ps t.Prog).length:Int)
def can(ps:List (List g7))(p:Hp × Int):Prop:=∃t ts,p.1.Q.L=t::ts/\BP ps t<=p.2
noncomputable def VN(ps:List (List g7))(p:Hp × Int):Hp × Int:=match p.1.Q.L with
 | []=>p
 | t::ts=>if BP ps t<=p.2 then (Le ps p.1 t ts,p.2-BP ps t) else p
noncomputable def dN(ps:List (List g7)):Nat->Hp × Int->Hp × Int
 | 0,p=>p
 | n+1,p=>dN ps n (VN ps p)
section
variable(ps:List (List g7))
theorem tp(n:Nat)(p:Hp × Int):dN ps (n+1) p=VN ps (dN ps n p):=by
 induction n generalizing p with
 | zero=>rfl
 | succ n ih=>exact ih (VN ps p)
theorem RZ{p:Hp × Int}(h:p.1.Q.L = []):VN ps p=p:=by unfold VN;rw[h]
theorem pK{p:Hp × Int}{t:g6}{ts:List g6}(h:p.1.Q.L=t::ts):VN ps p=if BP ps t<=p.2 then (Le ps p.1 t ts,p.2-BP ps t) else p:=by unfold VN;rw[h]
theorem EL{p:Hp × Int}{t:g6}{ts:List g6}(h:p.1.Q.L=t::ts):can ps p↔BP ps t<=p.2:=by
 constructor
 .rintro⟨u,us,e,c⟩;rw[h] at e;injection e with e1 e2
  rw[e1];exact c
 .exact λc=>⟨t,ts,h,c⟩
theorem th(t:g6):1<=BP ps t:=by unfold BP;omega
theorem Jf{p:Hp × Int}(hb:0<=p.2):∃n:Nat,(n:Int)<=p.2/\¬can ps (dN ps n p)/\∀j,j<n->can ps (dN ps j p):=by
 have key:∀m:Nat,(∃n:Nat,n<=m/\¬can ps (dN ps n p))\/((dN ps m p).2+m<=p.2/\0<=(dN ps m p).2):=by
  intro m;induction m with
  | zero=>exact .inr ⟨by show p.2+((0:Nat):Int)<=_;omega,hb⟩
  | succ m ih=>
   rcases ih with ⟨n,h1,h2⟩ | ⟨h1,h2⟩;·exact .inl ⟨n,by omega,h2⟩
   .by_cases q:can ps (dN ps m p)
    .right;obtain⟨t,ts,e,c⟩:=q;have:=th ps t;rw[tp,pK ps e,zb c];dsimp only;omega
    .exact .inl ⟨m,by omega,q⟩
 have hex:∃n:Nat,(n:Int)<=p.2/\¬can ps (dN ps n p):=by
  rcases key (p.2.toNat+1) with ⟨n,h1,h2⟩ | ⟨h1,h2⟩
  .rcases zD n (p.2.toNat+1) with q | q
   .exact⟨n,by omega,h2⟩
   .have hn:n=p.2.toNat+1:=by omega
    rcases key p.2.toNat with ⟨n,h1,h2⟩ | ⟨h1,h3⟩;·exact⟨n,by omega,h2⟩
    .refine⟨p.2.toNat,by omega,λ⟨t,ts,e,c⟩=>?_⟩;have:=th ps t;omega
  .omega
 obtain⟨n,⟨hn,hz⟩,hmin⟩:=dI hex;refine⟨n,hn,hz,λj hj=>qr λq=>?_⟩;have:=hmin j ⟨by omega,q⟩;omega
theorem CR{p:Hp × Int}(hx:Oh p.1)(hb:0<=p.2)(hs:p.1.S.Serial+p.2<9223372036854775807):∀n,Oh (dN ps n p).1/\0<=(dN ps n p).2/\(dN ps n p).2<=p.2/\(dN ps n p).1.S.Serial+(dN ps n p).2<=p.1.S.Serial+p.2
 | 0=>⟨hx,hb,zag _,zag _⟩
 | n+1=>by
  obtain⟨a,b,c,d⟩:=CR hx hb hs n;rw[tp];cases e:(dN ps n p).1.Q.L with
  | nil=>rw[RZ ps e];exact⟨a,b,c,d⟩
  | cons t ts=>
   rw[pK ps e];split
   .rename_i q;have q2:=q;unfold BP at q2;obtain⟨r1,_,r3,_⟩:=Rv a e ps (by omega);refine⟨r1,?_,?_,?_⟩;·dsimp only;omega
    .have:=th ps t;dsimp only;omega
    .dsimp only;unfold BP;omega
   .exact⟨a,b,c,d⟩
end
noncomputable def dn(ps:List (List g7))(p:Hp × Int):Nat:=if h:0<=p.2 then Classical.choose (Jf ps h) else 0
theorem Ji(ps:List (List g7)){p:Hp × Int}(h:0<=p.2):(dn ps p:Int)<=p.2/\¬can ps (dN ps (dn ps p) p)/\∀j,j<dn ps p->can ps (dN ps j p):=by
 unfold dn;rw[dif_pos h];exact zay (Jf ps h)
noncomputable def dr(ps:List (List g7))(p:Hp × Int):Hp × Int:=dN ps (dn ps p) p
theorem Xv(ps:List (List g7)){x:Hp}{f:Int}(hx:Oh x)(hf:0<=f)(hs:x.S.Serial+f<9223372036854775807):Oh (dr ps (x,f)).1/\0<=(dr ps (x,f)).2/\(dr ps (x,f)).2<=f/\(dr ps (x,f)).1.S.Serial+(dr ps (x,f)).2<=x.S.Serial+f:=CR ps (p:=(x,f)) hx hf hs _
section
variable{x:Hp}(hx:jJ x)(hS:∀k∈lv x.S,(ob x.S k).Strong<=9223372036854775807)
include hx hS
theorem VA{h:Int}(hh:h=0\/h∈lv x.S):h<=9223372036854775807:=by
 rcases hh with q | q
 .omega
 .have:=H2 hx.sr q;omega
theorem Po(k:Int){h:Int}(hh:h<=9223372036854775807):cy x k h=some (if k<0\/5<k then (x,6) else if h=0\/h∈lv x.S then (G6 x k.toNat h,0) else (x,3)):=by
 have hR:=hx.sr;have r6:=hx.r6;unfold cy;by_cases hk:k<0\/5<k
 .rw[zb hk,zb (by rw[r6];simp;omega)]
 .rw[za hk,za (by rw[r6];simp;omega),N9 hR hh,a0d];by_cases hn:h=0\/h∈lv x.S
  .rw[zb hn,zB hn,za (by simp)];obtain⟨n,rfl⟩:∃n:Nat,k=n:=⟨k.toNat,by omega⟩;have hn6:n<6:=by omega
   have hnl:n<x.Roots.length:=by omega
   have old:x.Roots[n]<=9223372036854775807:=VA hx hS (hx.rt _ (zh hnl));have e1:=uJ x h;have hn2:n<(E8 x h).Roots.length:=by rw[e1.1];exact hnl
   rw[r9 hnl,a0d];unfold G8 T6 y8;rw[mJ hR hh hS,a0d];dsimp only;rw[cq (by omega) (by rw[e1.1];omega),a0d,r9 hn2,a0d,a0d];have hrel:=gv (x:=wR (E8 x h) (x.Roots.set n h)) (km hR h) old;rw[zN,e1.1,show E3 ⟨(E8 x h).S,x.Roots.set n h,(E8 x h).b7,(E8 x h).T,(E8 x h).Q⟩ x.Roots[n]=_ from hrel];unfold G6;rw[zd,zc hnl];rfl
  .rw[za hn,zQ hn,zb (by simp)]
end
theorem vP(ps:List (List g7))(n:Int):dH ps n=some (FQ ps n):=by
 unfold dH FQ;by_cases h:n<0\/(ps.length:Int)<=n
 .rw[zb (by simpa using h),zb h]
 .rw[za (by simpa using h),za h];obtain⟨k,rfl⟩:∃k:Nat,n=k:=⟨n.toNat,by omega⟩;have hk:k<ps.length:=by omega
  rw[r9 hk,a0d,zN,zd,zc hk];rfl
abbrev YU(ps:List (List g7)):List (List fE):=ps.map (List.map ZV)
def Mp(ps:List (List g7)):Prop:=∀p∈ps,p.length<=6
theorem DH{ps:List (List g7)}(h:Mp ps)(n:Int):(FQ ps n).length<=6:=by
 unfold FQ;split;·simp
 .rename_i q;have hk:n.toNat<ps.length:=by omega
  rw[zd,zc hk];exact h _ (zh hk)
theorem xB{ps:List (List g7)}(h:Mp ps)(t:g6):bO ps t=some (BP ps t):=by
 have:=DH h t.Prog;unfold bO BP;rw[vP,a0d,O1 (by omega) (by omega)]
theorem Hh(x:Hp):gY x=some (x.Q.L.isEmpty):=by
 unfold gY;rw[AH,a0d];unfold Ti;cases x.Q.L <;> rfl
section
variable{x:Hp}(hx:Oh x){t:g6}{ts:List g6}(hq:x.Q.L=t::ts){ps:List (List g7)}(hm:Mp ps)(hb:x.S.Serial<9000000000000000000)
include hx hq hm hb
theorem PK:nn x ps=some (Le ps x t ts,t,0):=by
 have eX:=DH hm t.Prog;have pok:=HM hx hq;have pser:=DG hx hq;obtain⟨rok,_,_⟩:=DP hx hq ps (by omega);have hrun:=(run_eq pok.rt pok.sl pok.zr (FQ ps t.Prog) (by omega) (by rw[pser];omega)).1;have hrun':ig (pre x t ts) (FQ ps t.Prog)=some (Wp ps x t ts,(runs (pre x t ts) (FQ ps t.Prog)).2):=hrun;have hz:=bX rok.rt (r:=5) (by decide) (h:=0) (.inl rfl);have zS:=pR rok.rt.sh.sr rok.sl 5 0;unfold nn;rw[AH,a0d];have e:Ti x.Q=(⟨ts,x.Q.Cap⟩,t,0):=by unfold Ti;rw[hq]
 rw[e];dsimp only;rw[za (by simp)];simp only[jn];by_cases k:t.Kind=1
 .have hk:(t.Kind==1)=true:=by simpa using k
  have hat:=(Hq hx.rt hq k).1;have ush:=Ek hx.rt hq;have hm1:=rB hx.rt.sh.sr hat;have e1:cy ⟨x.S,x.Roots,x.b7,x.T,⟨ts,x.Q.Cap⟩⟩ 5 t.At=some (G6 (vd x ts) 5 t.At,0):=by
   have:=Po (x:=vd x ts) ush hx.sl 5 hm1;rw[za (by omega),zb (.inr hat)] at this;exact this
  have e2:E3 (G6 (vd x ts) 5 t.At) t.At=some (xc x ts t.At):=gv (du (x:=vd x ts) hx.rt.sh.sr 5 t.At).sr hm1;have e3:=jF (lX hx.rt hq k) (Nt hx.rt hx.sl t.At);have e4:pre x t ts=bJ (xc x ts t.At):=by unfold pre;rw[zb k]
  have e5:=Kh rok.rt rok.sl 5 (h:=0) (by decide);rw[za (by omega),zb (.inl rfl)] at e5;rw[zb hk,e1,a0d];dsimp only;rw[e2,a0d,e3,a0d,vP,a0d,<-e4,hrun',a0d,zb hk];dsimp only;rw[e5,a0d];refine sN (jF hz zS) ?_;unfold Le;rw[zb k];rfl
 .have hk:¬(t.Kind==1)=true:=by simpa using k
  have e4:pre x t ts=vd x ts:=by unfold pre;rw[za k]
  rw[za hk,vP,a0d,show (⟨x.S,x.Roots,x.b7,x.T,⟨ts,x.Q.Cap⟩⟩:b9)=pre x t ts from e4.symm,hrun',a0d,za hk];unfold Le;rw[za k]
end
section
variable{x:Hp}(hx:Oh x){ps:List (List g7)}(hm:Mp ps){f:Int}(hf:0<=f)(hf2:f<=1000000)(hb:x.S.Serial<8000000000000000000)
include hx hm hf hf2 hb
def TJ(p:Hp × Int):Int:=if p.1.Q.L.isEmpty then 0 else 12
theorem drain_eq:gX x ps f=some ((dr ps (x,f)).1,(dn ps (x,f):Int),(dr ps (x,f)).2,TJ (dr ps (x,f))):=by
 obtain⟨a1,a2,a3⟩:=Ji ps (p:=(x,f)) hf;have all:=CR ps (p:=(x,f)) hx hf (by show x.S.Serial+f<_;omega);unfold gX;simp only[jn];dsimp only at a1;refine mf (λk=>((dN ps k (x,f)).2,(dN ps k (x,f)).1,(k:Int),(dN ps k (x,f)).2,(dN ps k (x,f)).1)) rfl (dn ps (x,f)) (λ_=>True) (by omega) trivial (λk hk _=>.inl ⟨?_,trivial⟩) (λ_=>⟨((dn ps (x,f):Int),(dr ps (x,f)).2,(dr ps (x,f)).1),?_,?_⟩)
 .obtain⟨b1,b2,b3,b4⟩:=all k;obtain⟨t,ts,e,c⟩:=a3 k hk;dsimp only at b2 b3 b4;have hc:=th ps t;rw[Hh,e,a0d];show (bg _).bind _=_;rw[AH,a0d];have e2:Ti (dN ps k (x,f)).1.Q=(⟨ts,(dN ps k (x,f)).1.Q.Cap⟩,t,0):=by unfold Ti;rw[e]
  rw[e2];dsimp only;rw[xB hm,a0d,za (by simp;omega),PK b1 e hm (by omega),a0d,O1 (by omega) (by omega),n9,tp,pK ps e,zb c]
 .rw[Hh,a0d];cases e:(dN ps (dn ps (x,f)) (x,f)).1.Q.L with
  | nil=>rfl
  | cons t ts=>
   have hc:¬BP ps t<=(dN ps (dn ps (x,f)) (x,f)).2:=λq=>a2 ((EL ps e).2 q);show (bg _).bind _=_;rw[AH,a0d];have e2:Ti (dN ps (dn ps (x,f)) (x,f)).1.Q=(⟨ts,(dN ps (dn ps (x,f)) (x,f)).1.Q.Cap⟩,t,0):=by unfold Ti;rw[e]
   rw[e2];dsimp only;rw[xB hm,a0d,zb (by simp;omega)];rfl
 .dsimp only;rw[Hh,a0d];unfold TJ;cases (dr ps (x,f)).1.Q.L.isEmpty <;> rfl
end
theorem Yb{l:List (List g7)}(h:fC l=true):Mp l/\l.length<=6:=by
 unfold fC at h;rw[zy,zG,zf] at h;refine⟨λp hp=>?_,h.1⟩;have:=h.2 p hp;unfold uv at this;rw[zy,zG] at this;exact this.1
noncomputable def eo(ps:List (List g7))(x:Hp)(o:g7):Hp × Int × Int:=
 if o.Kind=11 then (Bb x,MX x-((kE x).length:Int),0)
 else if o.Kind=12 then ((dr ps (x,o.A)).1,(dn ps (x,o.A):Int),TJ (dr ps (x,o.A)))
 else jz x o
noncomputable def er(ps:List (List g7))(x:Hp)(row:List Int):Hp × Int × Int:=if (bN row).2≠0 then (x,0,(bN row).2) else eo ps x (bN row).1
noncomputable def kD(ps:List (List g7))(x:Hp)(rows:List (List Int)):Hp × List (Int × Int):=rows.foldl (λp r=>((er ps p.1 r).1,p.2 ++ [(er ps p.1 r).2])) (x,[])
theorem yt(ps:List (List g7))(x:Hp)(l:List (List Int))(r:List Int):kD ps x (l ++ [r])=((er ps (kD ps x l).1 r).1,(kD ps x l).2 ++ [(er ps (kD ps x l).1 r).2]):=by
 unfold kD;rw[zas];rfl
theorem CY(ps:List (List g7)):∀(l:List (List Int)) (x:Hp) (a:List (Int × Int)),l.foldl (λp r=>((er ps p.1 r).1,p.2 ++ [(er ps p.1 r).2])) (x,a)=((kD ps x l).1,a++(kD ps x l).2)
 | [],x,a=>by simp[kD]
 | r::l,x,a=>by
  unfold kD;rw[zaj,zaj,CY ps l,CY ps l _ ([]++_)];simp
theorem Jk(ps:List (List g7))(x:Hp)(l m:List (List Int)):kD ps x (l++m)=((kD ps (kD ps x l).1 m).1,(kD ps x l).2++(kD ps (kD ps x l).1 m).2):=by
 have:kD ps x (l++m)=m.foldl (λp r=>((er ps p.1 r).1,p.2 ++ [(er ps p.1 r).2])) (kD ps x l):=by
  unfold kD;rw[zas]
 rw[this];exact CY ps m (kD ps x l).1 (kD ps x l).2
theorem Jl(ps:List (List g7))(x:Hp)(l:List (List Int)):(kD ps x l).2.length=l.length:=by
 induction l generalizing x with
 | nil=>rfl
 | cons r l ih=>
  have:=Jk ps x [r] l;rw[List.singleton_append] at this;rw[this,zL,ih];show 1+l.length=l.length+1;omega
theorem CS{row:List Int}(h:(bN row).2=0):y6 (bN row).1.Kind (bN row).1.A (bN row).1.B (bN row).1.C=0:=by
 unfold bN at h |-;rcases four row with ⟨k,a,b,c,rfl⟩ | hl
 .rw[Jh,ut] at h |-;by_cases q:y6 k a b c≠0
  .rw[zb q] at h;exact absurd h q
  .rw[za q];exact Classical.not_not.1 q
 .rw[(CT hl).1,ut] at h;exact absurd h (by decide)
theorem MY{a b c:Int}(h:y6 12 a b c=0):0<=a/\a<=200:=BZ (by decide) (show P7 a 0 200 12=0 from h)
section
variable{ps:List (List g7)}(hm:Mp ps){x:Hp}(hx:Oh x)(hb:x.S.Serial<7000000000000000000)
include hm hx hb
theorem Xw{o:g7}(ho:o.Kind=12->0<=o.A/\o.A<=200):Oh (eo ps x o).1/\(eo ps x o).1.S.Serial<=x.S.Serial+201:=by
 unfold eo;split
 .obtain⟨a,b,c⟩:=Hd hx.rt hx.sl hx.zr;refine⟨⟨a,b,c⟩,?_⟩;show (Bb x).S.Serial<=_;rw[Rq hx.rt hx.sl hx.zr];omega
 .split
  .rename_i h;obtain⟨h0,h2⟩:=ho h;obtain⟨a,b,c,d⟩:=Xv ps hx h0 (by omega);exact⟨a,by show (dr ps (x,o.A)).1.S.Serial<=_;omega⟩
  .have n:=um hx.rt hx.sl hx.zr (by omega) o;have:=n.ev.s2;exact⟨n.ok,by omega⟩
theorem Xx(row:List Int):Oh (er ps x row).1/\(er ps x row).1.S.Serial<=x.S.Serial+201:=by
 unfold er;split;·exact⟨hx,by show x.S.Serial<=_;omega⟩
 .rename_i h;have hc:=CS (Classical.not_not.1 h);refine Xw hm hx hb λhk=>?_;rw[hk] at hc;exact MY hc
end
theorem Hk{ps:List (List g7)}(hm:Mp ps){x:Hp}(hx:Oh x):∀(l:List (List Int)),x.S.Serial+201*(l.length:Int)<7000000000000000000->Oh (kD ps x l).1/\(kD ps x l).1.S.Serial<=x.S.Serial+201*(l.length:Int):=by
 intro l;induction l generalizing x with
 | nil=>exact λ_=>⟨hx,by show x.S.Serial<=_;simp⟩
 | cons r l ih=>
  intro hb;rw[zH] at hb |-;obtain⟨a,b⟩:=Xx hm hx (by omega) r;obtain⟨c,d⟩:=ih a (by omega);have e:=Jk ps x [r] l;rw[List.singleton_append] at e;rw[e];exact⟨c,by
   have:(kD ps (kD ps x [r]).1 l).1.S.Serial<=(er ps x r).1.S.Serial+201*(l.length:Int):=d;show (kD ps (kD ps x [r]).1 l).1.S.Serial<=_;omega⟩
noncomputable def Qf(x:Hp):List Int:=(lv x.S).map λh=>bw x h
inductive Fm (x:Hp) (o:g7) (z:Hp) (v:Int):Prop
 | new (i:Nat) (hF:Xj x.S i) (hk:o.Kind=1) (ha:0<=o.A/\o.A<=5) (hn:o.B.toNat<=4) (hc : -1<=o.C/\o.C<=5) (hv:v=x.S.Serial+1) (hz:z=G6 (wS x (dA x.S i o.B.toNat o.C)) o.A.toNat (cu x.S i)):Fm x o z v
 | root (h:Int) (hk:o.Kind≠1) (ha:0<=o.A/\o.A<=5) (hh:h=0\/h∈lv x.S) (hz:z=G6 x o.A.toNat h):Fm x o z v
 | field (h:Int) (n:Nat) (u:Int) (hk:o.Kind=5) (hl:h∈lv x.S) (hn:n<(ob x.S h).Fields.length) (hu:u=0\/u∈lv x.S) (hz:z=bP x h n u):Fm x o z v
 | weak (h:Int) (hk:o.Kind=6) (ha:0<=o.A/\o.A<=5) (hc : -1<=o.C/\o.C<=5) (hh:h=0\/h∈lv x.S) (hw:wX x.Q o.A=false) (hz:z=cT x o.A.toNat h o.C):Fm x o z v
 | pair (h u:Int) (r:Tb × Int × Int) (hk:o.Kind=8) (hl:h∈lv x.S) (hu:u=0\/u∈lv x.S) (hr:V1 x.T h u=some r) (h0:r.2.2=0) (hz:z=ja x u r.1 r.2.1):Fm x o z v
 | same (hk:o.Kind=10) (hz:z=x):Fm x o z v
theorem Fm.ks{x z:Hp}{o:g7}{v:Int}(hx:K6 x)(f:Fm x o z v)(hk:o.Kind≠1):Ks x.S z.S:=by
 have hR:=hx.sh.sr;cases f with
 | new i hF hk'=>exact absurd hk' hk
 | root h _ ha hh hz=>rw[hz];exact du hR _ _
 | field h n u _ hl hn hu hz=>rw[hz];exact BR hR hl hn u
 | weak h _ ha hc hh hw hz=>rw[hz];exact Gz hx (by omega) h _
 | pair h u r _ hl hu hr h0 hz=>rw[hz];exact FN hR u _ _
 | same _ hz=>rw[hz];exact Ks.refl hR
def YJ(p:Int × Int):g9:=⟨p.1,p.2⟩
section
variable{ps:List (List g7)}(hm:Mp ps){x:Hp}(hx:Oh x)(hb:x.S.Serial<7000000000000000000)
include hm hx hb
theorem UG : -24<=MX x-((kE x).length:Int)/\MX x-((kE x).length:Int)<=24:=by
 have h1:=IZ hx.rt hx.sl hx.zr;have h2:(lv x.S).length<=24:=L4 (z8.2 hx.rt.sh.sr);obtain⟨c1,_,_⟩:=Hd hx.rt hx.sl hx.zr;have h3:(lv (Bb x).S).length<=24:=L4 (z8.2 c1.sh.sr);unfold MX;split
 .rename_i e;rw[e];simp;omega
 .omega
theorem ZS(row:List Int):qs ⟨x,ps⟩ row=some (⟨(er ps x row).1,ps⟩,YJ (er ps x row).2):=by
 unfold qs;rw[(ES row).1,a0d];unfold er;by_cases h:(bN row).2=0
 .rw[za (show ¬(((bN row).2 != 0)=true) by simp[h]),za (show ¬((bN row).2≠0) by simp[h])];have hc:=CS h;generalize (bN row).1=o at hc;unfold np eo;by_cases k11:o.Kind=11
  .rw[zb (by simp[k11]),zb k11];refine zct (b:=(aQ x).bind λv4=>some (⟨v4.1,ps⟩,⟨u4 (v4.2.2-v4.2.1),0⟩)) rfl ?_;obtain⟨b1,b2⟩:=UG hm hx hb;rw[UO hx.rt hx.sl hx.zr,a0d];dsimp only;rw[O1 (by omega) (by omega)];rfl
  .rw[za (by simp[k11]),za k11];by_cases k12:o.Kind=12
   .rw[zb (by simp[k12]),zb k12];refine zct (b:=(gX x ps o.A).bind λv5=>some (⟨v5.1,ps⟩,⟨v5.2.1,v5.2.2.2⟩)) rfl ?_;rw[k12] at hc;obtain⟨a0,a2⟩:=MY hc;rw[drain_eq hx hm a0 (by omega) (by omega),a0d];rfl
   .rw[za (by simp[k12]),za k12];refine zct (b:=(u6 x o).bind λv3=>some (⟨v3.1,ps⟩,⟨v3.2.1,v3.2.2⟩)) rfl ?_;rw[(um hx.rt hx.sl hx.zr (by omega) o).mc,a0d];rfl
 .rw[zb (by simpa using h),zb h];rfl
end
section
variable{ps:List (List g7)}(hm:Mp ps){x:Hp}(hx:Oh x)
include hm hx
theorem PF{rows:List (List Int)}{k:Nat}(hk:k<rows.length):kD ps x (rows.take (k+1))=((er ps (kD ps x (rows.take k)).1 rows[k]).1,(kD ps x (rows.take k)).2 ++ [(er ps (kD ps x (rows.take k)).1 rows[k]).2]):=by
 rw[zx hk,yt]
theorem Xy(rows:List (List Int))(hl:rows.length<=1000)(hb:x.S.Serial<6000000000000000000):jQ ⟨x,ps⟩ rows=some (⟨(kD ps x rows).1,ps⟩,(kD ps x rows).2.map YJ):=by
 unfold jQ;simp only[jn];refine bD rows.length (λk s=>s=((⟨(kD ps x (rows.take k)).1,ps⟩:s7),(kD ps x (rows.take k)).2.map YJ)) (by omega) rfl (λk s hk hs=>.inl ⟨_,?_,rfl⟩) (λs hs=>⟨s,za (by simp),by rw[hs,zV]⟩);subst hs;obtain⟨o1,o2⟩:=Hk hm hx (rows.take k) (by simp;omega);have hlen:=Jl ps x (rows.take k);have hkl:(rows.take k).length=k:=by simp;omega
 dsimp only;rw[zb (by simpa using hk),r9 hk,a0d,ZS hm o1 (by rw[hkl] at o2;omega),a0d,J0 (by omega) (by simp[hlen];omega),a0d,n9,PF hm hx hk];simp
end
section
variable{ps:List (List g7)}{x:Hp}(hx:K6 x)
include hx
end
theorem Rs.oh{x:Hp}{n:Nat}(h:Rs x n):Oh x:=⟨h.rt,h.sl,h.zr⟩
theorem Yg{n last places:Int}{ps:List (List g7)}(hl:ps.length<=12)(hp:∀p∈ps,p.length<=12) :
  (∃e,Q3 n last places ps=some (⟨RF,[]⟩,e)/\DN n last places (YU ps)=some (⟨hO RF,[]⟩,e)/\(e=13\/e=1/\¬((1<=n/\n<=24)/\(0<=last/\last<=9)/\1<=places/\places<=8))) \/
  (∃k p:Nat,n=k/\places=p/\(1<=k/\k<=24)/\Mp ps/\Rs (qW k last p) 0/\Q3 n last places ps=some (⟨qW k last p,ps⟩,0)/\DN n last places (YU ps)=some (⟨hO (qW k last p),YU ps⟩,0)):=by
 have e1:fZ ps=some (fC ps):=FR (by omega) hp;have e2:qC (YU ps)=some (fC ps):=HO (by omega) hp;unfold Q3 DN;rw[e1,e2,a0d,a0d];cases hq:fC ps;·exact .inl ⟨13,rfl,rfl,.inl rfl⟩
 .simp only[zbz,zA,un];by_cases h:(1<=n/\n<=24)/\(0<=last/\last<=9)/\1<=places/\places<=8
  .right;obtain⟨h1,h2,h3⟩:=h;obtain⟨k,rfl⟩:∃k:Nat,n=k:=⟨n.toNat,by omega⟩;obtain⟨p,rfl⟩:∃p:Nat,places=p:=⟨places.toNat,by omega⟩;obtain⟨a1,a2,hx,hS,hz⟩:=NM (k:=k) (p:=p) (l:=last) (by omega) h2 (by omega);refine⟨k,p,rfl,rfl,by omega,(Yb hq).1,⟨hx,hS,hz,zag _⟩,?_,?_⟩
   .rw[a1,a0d,hx.sh.r6];rfl
   .rw[a2,a0d,show (hO (qW k last p)).Roots.length=6 from hx.sh.r6];rfl
  .left;have a1:md n last places=some RF:=by
    unfold md;rw[zb (by simp;omega)];rfl
   have a2:uB n last places=some (hO RF):=by
    unfold uB;rw[zb (by simp;omega)];rfl
   refine⟨1,?_,?_,.inr ⟨rfl,h⟩⟩;·rw[a1];rfl
   .rw[a2];rfl
theorem OS{x:Hp}(hx:K6 x)(hS:SL x){k v e:Int}(hk:k∈lv x.S)(hv:v=0\/v∈lv x.S)(h:cv x k v=some (x,e))(he:e≠0):e=8:=by
 have hR:=hx.sh.sr;have k0:k≠0:=λq=>eZ hR (q▸hk);unfold cv at h;rw[za (by simpa using k0),N9 hR (tW hx hS (.inr hk)),a0d,N9 hR (tW hx hS hv),zB (.inr hk),zB hv] at h;simp only[zbz,q9,iu,a0d,Bool.or_self,zA,un] at h;obtain⟨r,r1,_,_,r5⟩:=dU hx.sh.hr k v;rw[r1,a0d] at h;by_cases h0:r.2.2=0
 .have e1:(r.2.2 != 0)=false:=by simpa using h0
  rw[e1,za (by simp)] at h;cases q:E1 x r.2.1 v ⟨r.1⟩ with
  | none=>rw[q] at h;cases h
  | some w=>
   rw[q,a0d] at h;exact absurd (zX (λp=>p.2) (zJ h)).symm he
 .rw[zb (by simpa using h0)] at h;have:r.2.2=e:=zX (λp=>p.2) (zJ h);rcases r5 with ⟨q,rfl⟩ | ⟨_,_,⟨i,hi,rfl⟩ | ⟨_,rfl⟩⟩ | ⟨_,_,⟨i,hi,rfl⟩ | ⟨d,_,_,_,_,rfl⟩ | ⟨_,_,rfl⟩⟩;·exact absurd q k0
  .exact absurd rfl h0
  .exact absurd rfl h0
  .exact absurd rfl h0
  .exact absurd rfl h0
  .exact this.symm
theorem EW{s:b6}(hR:SR s){h:Int}(hh:h∈lv s){n:Nat}(hn:n<(ob s h).Fields.length):K1 s h n=some ((ob s h).Fields[n],0):=by
 unfold K1;rw[sf (z8.2 hR) hh,a0d,za (by simp),ZQ hn];rfl
section
variable{x:Hp}(hB:HB x)
include hB
end
theorem GB{x:Hp}(hx:K6 x){k h c e:Int}(hk:0<=k/\k<=5)(hh:h=0\/h∈lv x.S)(hm:h<=9223372036854775807)(hc : -1<=c/\c<=5)(q:T0 x k h c=some (x,e))(he:e≠0):e=7:=by
 have hR:=hx.sh.sr;have c6:=hx.sh.c6;have q30:=hx.sh.q30;obtain⟨n,rfl⟩:∃n:Nat,k=n:=⟨k.toNat,by omega⟩;unfold T0 at q;have e1:((decide ((n:Int)<0))||(decide ((n:Int)>=(x.b7.length:Int))))=false:=by rw[c6];simp;omega
 rw[e1] at q;simp only[q9,iu,zb0] at q;have hwq:aN x.Q n=some (wX x.Q n):=xP (by omega);rw[hwq,a0d,N9 hR hm,a0d,zB hh] at q;cases hw:wX x.Q n
 .rw[hw,za (by decide),za (by decide)] at q;cases g1:kr x.b7 n h c with
  | none=>rw[g1] at q;cases q
  | some a=>
   rw[g1,a0d] at q;cases g2:au ⟨x.S,x.Roots,a.1,x.T,x.Q⟩ h 1 with
   | none=>rw[g2] at q;cases q
   | some b=>
    rw[g2,a0d] at q;cases g3:aY b a.2.1 with
    | none=>rw[g3] at q;cases q
    | some d=>
     rw[g3,a0d] at q;exact absurd (zX (λp=>p.2) (zJ q)).symm he
 .rw[hw,zb rfl] at q;exact (zX (λp=>p.2) (zJ q)).symm
section
variable{x:Hp}(hB:HB x)
include hB
end
theorem XL(s:b6)(h:s.S.b7.length<=30):xW s=some (sO s):=by
 unfold xW;simp only[jn,xX,a0d];have e:=Hy (b:=80) cO s.S.b7 (by omega) (by omega);simp only[cO,oo] at e;rw[e];rfl
theorem Tc(s:b6):qP s=some (decide (Sm s)):=by
 unfold qP;simp only[jn];refine dO (min s.S.b7.length 30) (λk=>∀j (h:j<s.S.b7.length),j<k->s.S.b7[j].Val.Fields.length<=10) (by omega) (λ_ _ h=>by omega) (λk hk hP=>?_) (λhP=>?_)
 .have hk1:k<s.S.b7.length:=by omega
  have hk2:k<30:=by omega
  have hc:((decide ((k:Int)<(s.S.b7.length:Int)))&&(decide ((k:Int)<30)))=true:=by simp;omega
  by_cases g:s.S.b7[k].Val.Fields.length<=10
  .refine .inl ⟨?_,λj h hj=>?_⟩
   .rw[hc];simp only[zY,r9 hk1,a0d];rw[za (by simp;omega),n9]
   .rcases zD j k with q | q
    .exact hP j h q
    .have:j=k:=by omega
     subst this;exact g
  .refine .inr ⟨.inl false,?_,?_⟩
   .rw[hc];simp only[zY,r9 hk1,a0d];rw[zb (by simp;omega)]
   .simp only;rw[zQ (λq:Sm s=>g (q.2 k hk1))]
 .refine⟨.inr (),?_,?_⟩
  .rw[show ((decide (((min s.S.b7.length 30:Nat):Int)<(s.S.b7.length:Int)))&&(decide (((min s.S.b7.length 30:Nat):Int)<30)))=false by
    rcases zD s.S.b7.length 30 with q | q
    .simp;omega
    .simp;omega]
   rfl
  .simp only;congr 1;rw[zbc];constructor
   .intro q;exact⟨by omega,λi h=>hP i h (by omega)⟩
   .intro q;have:=q.1;omega
theorem Nq(x:Hp):uW x=some (decide (EA x)):=by
 unfold uW;rw[Tc,a0d];congr 1;rw[za8];simp only[zy,zG];unfold EA;constructor
 .rintro⟨⟨⟨⟨a,b⟩,c⟩,d⟩,e⟩;exact⟨a,by omega,by omega,by omega,by omega⟩
 .rintro⟨a,b,c,d,e⟩;exact⟨⟨⟨⟨a,by omega⟩,by omega⟩,by omega⟩,by omega⟩
theorem XB{x:Hp}(h:jJ x):uW x=some true:=by rw[Nq,zB h.Zp]
structure Gd (σ:Int->Int) (s:b6):Prop where
 z:σ 0=0
 f:∀h i,U6 s h i->σ h=(ce s i).Val.Serial
def nd(σ:Int->Int)(s:b6)(i:Nat):b8:=⟨(ce s i).Val.Serial,i,(ce s i).Val.Prog,(ce s i).Val.Started,decide ((ce s i).State=1),decide (12<=(ce s i).Val.Strong),(ce s i).Val.Fields.map σ⟩
structure Sn (σ:Int->Int) (s:b6) (l:List b8):Prop where
 up:l.Pairwise λa b=>a.Serial<b.Serial
 mem:∀n,n∈l↔∃i,i<s.S.b7.length/\Th (ce s i)/\n=nd σ s i
def PB(c:c8):Int:=if Th c then c.Val.Serial else if c.State=3 then -1 else 0
def wx(σ:Int->Int)(c:k8):k8:=⟨σ c.Target,c.Intact,c.Call⟩
def tx(σ:Int->Int)(t:g6):g6:=if t.Kind=1 then ⟨1,σ t.At,t.Prog⟩ else t
structure p9 (σ:Int->Int) (x:Hp) (m:a8):Prop where
 gd:Gd σ x.S
 nd:Sn σ x.S m.Nodes
 sl:m.Slots=(List.range x.S.S.b7.length).map λi=>PB (Sh.ce x.S i)
 ge:m.Gens=(List.range x.S.S.b7.length).map λi=>(Sh.ce x.S i).Gen
 la:m.Last=x.S.S.Last
 npl:m.Places=x.T.length
 se:m.Serial=x.S.Serial
 ro:m.Roots=x.Roots.map σ
 ce:m.b7=x.b7.map (wx σ)
 p1:m.Pairs.Pairwise λa b=>a.Key≠b.Key
 p2:∀p,p∈m.Pairs↔∃k v,Has x.T k v/\p=⟨σ k,σ v⟩
 tk:m.Tasks=x.Q.L.map (tx σ)
section
variable{σ:Int->Int}{s:b6}(hR:SR s)(g:Gd σ s)
include hR g
theorem Gd.lv{h:Int}(hh:h∈lv s):σ h=(ob s h).Serial:=by
 have q:=o6 hR hh;rw[E9 hR q,g.f h _ q.d]
theorem Gd.pos{h:Int}{i:Nat}(q:U6 s h i):1<=σ h/\σ h<=s.Serial:=by
 rw[g.f h i q];exact⟨(hR.ok i q.1 q.2.1).s1,(hR.ok i q.1 q.2.1).s2⟩
theorem Gd.inj{h k:Int}{i j:Nat}(q:U6 s h i)(p:U6 s k j)(e:σ h=σ k):h=k:=by
 rw[g.f h i q,g.f k j p] at e;have:=hR.dif i j q.1 p.1 q.2.1 p.2.1 e;subst this;rw[q.2.2,p.2.2]
theorem Gd.inl{h k:Int}(hh:h∈Sh.lv s)(hk:k∈Sh.lv s)(e:σ h=σ k):h=k:=g.inj hR (o6 hR hh).d (o6 hR hk).d e
theorem Gd.ps{h:Int}(hh:h∈Sh.lv s):1<=σ h/\σ h<=s.Serial:=g.pos hR (o6 hR hh).d
theorem Gd.Xc{h k:Int}(hh:h=0\/∃i,U6 s h i)(hk:k=0\/∃i,U6 s k i)(e:σ h=σ k):h=k:=by
 rcases hh with e1 | ⟨i,q⟩ <;> rcases hk with e2 | ⟨j,p⟩
 .rw[e1,e2]
 .subst e1;rw[g.z] at e;have:=g.pos hR p;omega
 .subst e2;rw[g.z] at e;have:=g.pos hR q;omega
 .exact g.inj hR q p e
theorem Gd.zero{h:Int}(hh:h=0\/∃i,U6 s h i):σ h=0↔h=0:=by
 refine⟨λe=>g.Xc hR hh (.inl rfl) (e.trans g.z.symm),λe=>?_⟩;subst e;exact g.z
theorem Od{h:Int}(hh:h=0\/h∈Sh.lv s):h=0\/∃i,U6 s h i:=hh.imp id λq=>⟨_,(o6 hR q).d⟩
theorem xQ{l:List Int}(hl:∀v∈l,v=0\/v∈Sh.lv s){h:Int}(hh:h∈Sh.lv s):T3 (l.map σ) (σ h)=T3 l h:=by
 have p:=g.ps hR hh;have p0:=(H2 hR hh).1;unfold T3;rw[za (by omega),za (by omega)];induction l with
 | nil=>rfl
 | cons v l ih=>
  rw[zT,zcr,zcr,ih λu hu=>hl u (zn _ hu)];congr 1;by_cases e:v=h
  .subst e;simp
  .have:σ v≠σ h:=λe'=>e (g.Xc hR (Od hR g (hl v zg)) (.inr ⟨_,(o6 hR hh).d⟩) e');simp[e,this]
end
section
variable{σ:Int->Int}{s:b6}(hR:SR s){l:List b8}(q:Sn σ s l)
include hR q
theorem Sn.one{n m:b8}(hn:n∈l)(hm:m∈l)(e:n.Serial=m.Serial):n=m:=by
 obtain⟨i,hi,ti,rfl⟩:=(q.mem n).1 hn;obtain⟨j,hj,tj,rfl⟩:=(q.mem m).1 hm;have:=hR.dif i j hi hj ti tj e;rw[this]
theorem Sn.at{i:Nat}(hi:i<s.S.b7.length)(ht:Th (ce s i)):Sh.nd σ s i∈l:=(q.mem _).2 ⟨i,hi,ht,rfl⟩
theorem Sn.pos{n:b8}(hn:n∈l):1<=n.Serial/\n.Serial<=s.Serial:=by
 obtain⟨i,hi,ti,rfl⟩:=(q.mem n).1 hn;exact⟨(hR.ok i hi ti).s1,(hR.ok i hi ti).s2⟩
theorem Sn.len:l.length<=24:=by
 have h1:(l.map (·.Slot)).Nodup:=by
  rw[List.Nodup,zbt];refine zbp (λ{a b} ha hb h=>?_) q.up;obtain⟨i,hi,ti,rfl⟩:=(q.mem a).1 ha;obtain⟨j,hj,tj,rfl⟩:=(q.mem b).1 hb;intro e;have:i=j:=by
   have:(i:Int)=(j:Int):=e;omega
  subst this;exact absurd h (za6 _)
 have h2:∀v∈l.map (·.Slot),v∈(List.range s.S.b7.length).map λi:Nat=>(i:Int):=λv hv=>by
  obtain⟨n,hn,rfl⟩:=zq.1 hv;obtain⟨i,hi,ti,rfl⟩:=(q.mem n).1 hn;exact zq.2 ⟨i,za7.2 hi,rfl⟩
 have:=ab h1 h2;rw[zl,zl,zcb] at this;have:=hR.len;omega
theorem Sn.alive:l.filter (·.Alive)=(lv s).map λh=>Sh.nd σ s (D7 h):=by
 have key:∀(a b:List b8),a.Pairwise (λu v=>u.Serial<v.Serial)->b.Pairwise (λu v=>u.Serial<v.Serial)->(∀n,n∈a↔n∈b)->a=b:=by
  intro a;induction a with
  | nil=>intro b _ _ h;cases b with
   | nil=>rfl
   | cons y b=>exact absurd ((h y).2 zg) (by simp)
  | cons x a ih=>
   intro b ha hb h;cases b with
   | nil=>exact absurd ((h x).1 zg) (by simp)
   | cons y b=>
    rw[zba] at ha hb;have e:x=y:=by
     rcases zM.1 ((h x).1 zg) with e | e
     .exact e
     .rcases zM.1 ((h y).2 zg) with e' | e'
      .exact e'.symm
      .have:=hb.1 x e;have:=ha.1 y e';omega
    subst e;congr 1;refine ih b ha.2 hb.2 λn=>⟨λhn=>?_,λhn=>?_⟩
    .rcases zM.1 ((h n).1 (zn _ hn)) with e | e
     .subst e;have:=ha.1 n hn;omega
     .exact e
    .rcases zM.1 ((h n).2 (zn _ hn)) with e | e
     .subst e;have:=hb.1 n hn;omega
     .exact e
 refine key _ _ (q.up.filter _) ?_ λn=>?_
 .rw[zbt];refine zbp (λ{a b} ha hb h=>?_) (kY (z8.2 hR)).2.2;show (ce s (D7 a)).Val.Serial<(ce s (D7 b)).Val.Serial;rwa [IY hR (o6 hR ha),IY hR (o6 hR hb)] at h
 .rw[zj,zq];constructor
  .rintro⟨hn,ha⟩;obtain⟨i,hi,ti,rfl⟩:=(q.mem n).1 hn;have h1:(ce s i).State=1:=by simpa[Sh.nd] using ha
   have hA:At s (cu s i) i:=⟨hi,h1,rfl⟩;exact⟨cu s i,(ic hR).2 ⟨i,hA⟩,by rw[hA.d.D7 hR]⟩
  .rintro⟨h,hh,rfl⟩;have hA:=o6 hR hh;exact⟨(q.mem _).2 ⟨D7 h,hA.1,hA.d.2.1,rfl⟩,by simp[Sh.nd,hA.2.1]⟩
end
def kJ(m:a8):List Int:=pz ⟨m.Tasks,30⟩
def Ey(m:a8)(s:Int):Nat:=T3 m.Roots s+((m.Nodes.filter (·.Alive)).map λn=>T3 n.Fields s).sum+T3 (m.Pairs.map (·.Val)) s+T3 (kJ m) s
theorem OX:∀ {t:Tb},HR t->(kc t).Pairwise λa b=>a.Key≠b.Key:=by
 intro t hR;have key:∀(l:Tb),(∀i j,i<l.length->j<l.length->(l.getD i ⟨0,0,0⟩).State=1->(l.getD j ⟨0,0,0⟩).State=1->(l.getD i ⟨0,0,0⟩).Key=(l.getD j ⟨0,0,0⟩).Key->i=j)->(kc l).Pairwise λa b=>a.Key≠b.Key:=by
  intro l;induction l with
  | nil=>intro _;exact List.Pairwise.nil
  | cons p l ih=>
   intro h;have h2:=ih λi j hi hj a b e=>by
    have:=h (i+1) (j+1) (by simpa using hi) (by simpa using hj) (by simpa using a) (by simpa using b) (by simpa using e);omega
   unfold kc at h2 |-;rw[or];split
   .rename_i hp;rw[zT,zba];refine⟨λa ha=>?_,h2⟩;obtain⟨u,hu,rfl⟩:=zq.1 ha;rw[zj] at hu;obtain⟨k,hk,e⟩:=wt hu.1;intro eb;have:=h 0 (k+1) (by simp) (by simpa using hk) (by simpa using hp) (by simp[zd,hk,e];simpa using hu.2) (by simp[zd,hk,e];exact eb);omega
   .exact h2
 exact key t λi j hi hj a b e=>hR.uq i j hi hj a b e
section
variable{σ:Int->Int}{x:Hp}{m:a8}(hS:jJ x)(q:p9 σ x m)
include hS q
theorem p9.perm:m.Pairs.Perm ((kc x.T).map λp=>⟨σ p.Key,σ p.Val⟩):=by
 have h1:m.Pairs.Nodup:=q.p1.imp λh e=>h (by rw[e]);have h2:((kc x.T).map λp=>(⟨σ p.Key,σ p.Val⟩:g8)).Nodup:=by
  rw[List.Nodup,zbt];refine zbp (λ{a b} ha hb h e=>h ?_) (OX hS.hr);exact q.gd.inl hS.sr (hS.pr _ _ (cD.1 ha)).1 (hS.pr _ _ (cD.1 hb)).1 (zX g8.Key e)
 rw[List.perm_ext_iff_of_nodup h1 h2];intro p;rw[q.p2,zq];constructor
 .rintro⟨k,v,h,rfl⟩;exact⟨⟨k,v⟩,cD.2 h,rfl⟩
 .rintro⟨⟨k,v⟩,h,rfl⟩;exact⟨k,v,cD.1 h,rfl⟩
theorem p9.Lp:kJ m=(pz x.Q).map σ:=by
 unfold kJ pz;rw[q.tk];show List.map (·.At) (((x.Q.L.map (tx σ)).filter (·.Kind==1)))=_;rw[zcs,za3,za3];have e:((λt:g6=>t.Kind==1) ∘ tx σ)=λt=>t.Kind==1:=by
  funext t
  show ((tx σ t).Kind==1)=_;unfold tx;split;·rename_i h;simp[h]
  .rfl
 rw[e];refine zt λt ht=>?_;have:=(zj.1 ht).2;show (tx σ t).At=σ t.At;unfold tx;rw[zb (by simpa using this)]
theorem Vn:∀v∈pz x.Q,v=0\/v∈lv x.S:=λv hv=>by
 obtain⟨t,ht,k,rfl⟩:=mh.1 hv;rcases (hS.tk t ht).2.2 with h | h
 .exact .inr h.2.1
 .rw[h.1] at k;exact absurd k (by decide)
theorem p9.lk{h:Int}(hh:h∈lv x.S):Ey m (σ h)=lk x h:=by
 have hR:=hS.sr;have p:=q.gd.ps hR hh;have p0:=(H2 hR hh).1;unfold Ey Sh.lk;have ea:T3 m.Roots (σ h)=T3 (nz x.Roots) h:=by rw[q.ro,xQ hR q.gd hS.rt hh,qg]
 have eb:((m.Nodes.filter (·.Alive)).map λn=>T3 n.Fields (σ h)).sum=kK x.S h:=by
  rw[q.nd.alive hR,za3];unfold kK;congr 1;refine zt λa ha=>?_;show T3 ((Sh.ce x.S (D7 a)).Val.Fields.map σ) (σ h)=_;rw[<-E9 hR (o6 hR ha),xQ hR q.gd (hS.fl a ha) hh];exact (qg _ _).symm
 have ec:T3 (m.Pairs.map (·.Val)) (σ h)=own x.T h:=by
  have:T3 (m.Pairs.map (·.Val)) (σ h)=T3 (((kc x.T).map (·.Val)).map σ) (σ h):=by
   unfold T3;split;·rfl
   .rw[za3];have:=(q.perm hS).map (·.Val);rw[za3] at this;exact List.perm_iff_count.1 this _
  rw[this,xQ hR q.gd (λv hv=>?_) hh]
  .unfold T3 own;rw[za (by omega),List.count_eq_countP,List.countP_map];refine List.countP_congr λu hu=>?_;simp;omega
  .obtain⟨u,hu,rfl⟩:=zq.1 hv;exact .inr (hS.pr _ _ (cD.1 hu)).2
 have ed:T3 (kJ m) (σ h)=T3 (pz x.Q) h:=by rw[q.Lp hS,xQ hR q.gd (Vn hS q) hh]
 rw[ea,eb,ec,ed];unfold oO;rw[G2];omega
end
def fQ(l:List b8)(s:Int)(f:b8->b8):List b8:=l.map λn=>if n.Serial=s then f n else n
theorem Ha(l:List b8)(s:Int){f:b8->b8}(h:∀n∈l,n.Serial=s->f n=n):fQ l s f=l:=by
 unfold fQ;conv=>rhs;rw[<-List.map_id l]
 refine zt λn hn=>?_;split;·rename_i e;exact h n hn e
 .rfl
section
variable{σ:Int->Int}{s s':b6}(hR:SR s){l:List b8}(q:Sn σ s l)
include hR q
theorem Sn.same(hl:s'.S.b7.length=s.S.b7.length)(h:∀i,i<s.S.b7.length->(Th (ce s' i)↔Th (ce s i))/\(Th (ce s i)->Sh.nd σ s' i=Sh.nd σ s i)):Sn σ s' l:=by
 refine⟨q.up,λn=>(q.mem n).trans ⟨?_,?_⟩⟩
 .rintro⟨i,hi,ti,e⟩;exact⟨i,by rw[hl];exact hi,(h i hi).1.2 ti,e.trans ((h i hi).2 ti).symm⟩
 .rintro⟨i,hi,ti,e⟩;rw[hl] at hi;exact⟨i,hi,(h i hi).1.1 ti,e.trans ((h i hi).2 ((h i hi).1.1 ti))⟩
variable{i:Nat}(hi:i<s.S.b7.length)(hl:s'.S.b7.length=s.S.b7.length)(ho:∀j,j≠i->ce s' j=ce s j)
include hi hl ho
omit hR q hi hl in
theorem mo {j:Nat} (h:j≠i):Sh.nd σ s' j=Sh.nd σ s j:=by
 unfold Sh.nd;rw[ho j h]
theorem Sn.y5(ht:Th (ce s i))(ht':Th (ce s' i))(hs:(ce s' i).Val.Serial=(ce s i).Val.Serial){f:b8->b8}(hf:f (Sh.nd σ s i)=Sh.nd σ s' i):Sn σ s' (fQ l (ce s i).Val.Serial f):=by
 have h0:∀n∈l,n.Serial=(ce s i).Val.Serial->n=Sh.nd σ s i:=λn hn e=>q.one hR hn (q.at hR hi ht) e;have hser:∀n∈l,(if n.Serial=(ce s i).Val.Serial then f n else n).Serial=n.Serial:=λn hn=>by
  split
  .rename_i e;rw[h0 n hn e,hf];exact hs
  .rfl
 constructor
 .unfold fQ;rw[zbt];refine zbp (λ{a b} ha hb h=>?_) q.up;rw[hser a ha,hser b hb];exact h
 .intro n;unfold fQ;rw[zq];constructor
  .rintro⟨k,hk,rfl⟩;split
   .rename_i e;refine⟨i,by rw[hl];exact hi,ht',?_⟩;rw[h0 k hk e,hf]
   .rename_i e;obtain⟨j,hj,tj,eb⟩:=(q.mem k).1 hk;have hne:j≠i:=λc=>e (by rw[eb,c];rfl);exact⟨j,by rw[hl];exact hj,by rw[ho j hne];exact tj,by rw[mo ho hne];exact eb⟩
  .rintro⟨j,hj,tj,rfl⟩;by_cases c:j=i
   .subst c;refine⟨Sh.nd σ s j,q.at hR hi ht,?_⟩;exact (zb rfl).trans hf
   .rw[hl] at hj;rw[ho j c] at tj;refine⟨Sh.nd σ s j,q.at hR hj tj,?_⟩;rw[mo ho c];exact za λe=>c (hR.dif j i hj hi tj ht e)
theorem Sn.del(ht:Th (ce s i))(hn:¬Th (ce s' i)):Sn σ s' (l.filter λn=>n.Serial != (ce s i).Val.Serial):=by
 refine⟨q.up.filter _,λn=>?_⟩;rw[zj];constructor
 .rintro⟨hk,e⟩;obtain⟨j,hj,tj,rfl⟩:=(q.mem n).1 hk;have hne:j≠i:=λc=>by subst c;simp[Sh.nd] at e
  exact⟨j,by rw[hl];exact hj,by rw[ho j hne];exact tj,(mo ho hne).symm⟩
 .rintro⟨j,hj,tj,rfl⟩;have hne:j≠i:=λc=>hn (c▸tj);rw[hl] at hj;rw[ho j hne] at tj;rw[mo ho hne];refine⟨q.at hR hj tj,?_⟩;have:(Sh.nd σ s j).Serial≠(ce s i).Val.Serial:=λe=>hne (hR.dif j i hj hi tj ht e);simpa using this
theorem Sn.add(hn:¬Th (ce s i))(ht:Th (ce s' i))(hs:s.Serial<(ce s' i).Val.Serial):Sn σ s' (l ++ [Sh.nd σ s' i]):=by
 constructor
 .rw[zat];refine⟨q.up,List.pairwise_singleton ..,λa ha b hb=>?_⟩;rw[zp] at hb;subst hb;have:=(q.pos hR ha).2;show a.Serial<(ce s' i).Val.Serial;omega
 .intro n;rw[zu,zp];constructor
  .rintro (h | rfl)
   .obtain⟨j,hj,tj,rfl⟩:=(q.mem n).1 h;have hne:j≠i:=λc=>hn (c▸tj);exact⟨j,by rw[hl];exact hj,by rw[ho j hne];exact tj,(mo ho hne).symm⟩
   .exact⟨i,by rw[hl];exact hi,ht,rfl⟩
  .rintro⟨j,hj,tj,rfl⟩;by_cases c:j=i
   .subst c;exact .inr rfl
   .rw[hl] at hj;rw[ho j c] at tj;rw[mo ho c];exact .inl (q.at hR hj tj)
end
abbrev xY(m:a8)(l:List b8):a8:=⟨l,m.Slots,m.Gens,m.Last,m.Places,m.Serial,m.Roots,m.b7,m.Pairs,m.Tasks,m.Progs⟩
abbrev YY(m:a8)(l:List Int):a8:=⟨m.Nodes,m.Slots,m.Gens,m.Last,m.Places,m.Serial,l,m.b7,m.Pairs,m.Tasks,m.Progs⟩
abbrev Tt(m:a8)(l:List k8):a8:=⟨m.Nodes,m.Slots,m.Gens,m.Last,m.Places,m.Serial,m.Roots,l,m.Pairs,m.Tasks,m.Progs⟩
abbrev WS(m:a8)(l:List g8):a8:=⟨m.Nodes,m.Slots,m.Gens,m.Last,m.Places,m.Serial,m.Roots,m.b7,l,m.Tasks,m.Progs⟩
abbrev Gy(m:a8)(l:List g6):a8:=⟨m.Nodes,m.Slots,m.Gens,m.Last,m.Places,m.Serial,m.Roots,m.b7,m.Pairs,l,m.Progs⟩
def Ee(n:b8):b8:=⟨n.Serial,n.Slot,n.Prog,n.Started,n.Alive,true,n.Fields⟩
def uP(m:a8)(s:Int):a8:=xY m (fQ m.Nodes s Ee)
def fX(m:a8)(s:Int):a8:=if s≠0/\11<=Ey m s then uP m s else m
def dv(m:a8)(r:Nat)(s:Int):a8:=YY (fX m s) (m.Roots.set r s)
theorem aP(m:a8)(s:Int):fX m s=xY m (fX m s).Nodes:=by
 unfold fX uP;split <;> rfl
theorem Gd.up{σ:Int->Int}{s s':b6}(g:Gd σ s)(h:∀k i,U6 s' k i->U6 s k i/\(ce s' i).Val.Serial=(ce s i).Val.Serial):Gd σ s':=
 ⟨g.z,λk i q=>by rw[g.f k i (h k i q).1,(h k i q).2]⟩
theorem U2{n:Nat}{f g:Nat->Int}(h:∀i,i<n->f i=g i):(List.range n).map f=(List.range n).map g:=zt λi hi=>h i (za7.1 hi)
section
variable{σ:Int->Int}{x:Hp}{m:a8}(hR:SR x.S)(q:p9 σ x m)
include hR q
theorem p9.put{h:Int}(hh:h∈lv x.S){o:n0}(hs:o.Serial=(ob x.S h).Serial)(ho:AZ x.S o){f:b8->b8}
  (hf:f (Sh.nd σ x.S (D7 h))=⟨o.Serial,(D7 h:Nat),o.Prog,o.Started,true,decide (12<=o.Strong),o.Fields.map σ⟩):p9 σ (wS x (df x.S h o)) (xY m (fQ m.Nodes (σ h) f)):=by
 have p:=o6 hR hh;have hc:=λj=>AA hR hh hs ho j;have hl:(df x.S h o).S.b7.length=x.S.S.b7.length:=K0 ..;have hsi:o.Serial=(Sh.ce x.S (D7 h)).Val.Serial:=by rw[hs,E9 hR p]
 have same:∀i,(Sh.ce (df x.S h o) i).State=(Sh.ce x.S i).State/\(Sh.ce (df x.S h o) i).Gen=(Sh.ce x.S i).Gen/\(Sh.ce (df x.S h o) i).Val.Serial=(Sh.ce x.S i).Val.Serial:=λi=>by
  rw[hc i];split;·rename_i c;subst c;exact⟨rfl,rfl,hsi⟩
  .exact⟨rfl,rfl,rfl⟩
 have sT:∀i,Th (Sh.ce (df x.S h o) i)↔Th (Sh.ce x.S i):=λi=>by unfold Th;rw[(same i).1]
 refine⟨q.gd.up λk i a=>⟨(Ea hR hh hs ho).1 a,(same i).2.2⟩,?_,?_,?_,q.la,q.npl,q.se,q.ro,q.ce,q.p1,q.p2,q.tk⟩
 .have:=q.nd.y5 (s':=df x.S h o) hR p.1 hl (λj hj=>by rw[hc j,za hj]) p.d.2.1 ((sT _).2 p.d.2.1) (same _).2.2 (f:=f) (by
   rw[hf];unfold Sh.nd;rw[hc,zb rfl,zB p.2.1])
  rw[q.gd.f h _ p.d];exact this
 .show m.Slots=_;rw[q.sl];show _=List.map _ (List.range (df x.S h o).S.b7.length);rw[hl];refine U2 λi hi=>?_;unfold PB;rw[(same i).2.2,(same i).1];by_cases c:Th (Sh.ce x.S i)
  .rw[zb c,zb ((sT i).2 c)]
  .rw[za c,za λd=>c ((sT i).1 d)]
 .show m.Gens=_;rw[q.ge];show _=List.map _ (List.range (df x.S h o).S.b7.length);rw[hl];exact U2 λi hi=>(same i).2.1.symm
theorem p9.Bz{h:Int}(hh:h∈lv x.S){n:Int}(hn:0<=n):p9 σ (wS x (df x.S h (Bz (ob x.S h) n))) (xY m (fQ m.Nodes (σ h) λk=>⟨k.Serial,k.Slot,k.Prog,k.Started,k.Alive,decide (12<=n),k.Fields⟩)):=by
 have ho:=K5 hR hh;have p:=o6 hR hh;refine q.put (o:=Sh.Bz (ob x.S h) n) hR hh rfl ⟨ho.s1,ho.s2,hn,ho.wk,ho.p1,ho.p2,ho.fl⟩ ?_;unfold Sh.nd;rw[E9 hR p,zB p.2.1]
theorem p9.Qe(h:Int):p9 σ (aK x h) m:=by
 unfold aK uO;split
 .rename_i hh;have p:=o6 hR hh;have:=q.Bz hR hh (n:=lD (ob x.S h).Strong) (Q0 (K5 hR hh).st);rw[Ha] at this;·exact this
  .intro n hn e;have:n=Sh.nd σ x.S (D7 h):=q.nd.one hR hn (q.nd.at hR p.1 p.d.2.1) (by rw[e,q.gd.f h _ p.d];rfl);rw[this];unfold Sh.nd;congr 1;rw[E9 hR p];refine zbc.2 ?_;unfold lD;split;·omega
   .split <;> omega
 .exact q
theorem p9.WA{h:Int}(hh:h=0\/h∈lv x.S){k:Nat}(hk:h∈lv x.S->(ob x.S h).Strong<12->(ob x.S h).Strong=k):p9 σ (E8 x h) (if σ h≠0/\11<=k then uP m (σ h) else m):=by
 unfold E8 uO;rcases hh with e | hh
 .subst e;rw[za (eZ hR),za (λc=>c.1 q.gd.z)];exact q
 .rw[zb hh];have p:=o6 hR hh;have h0:σ h≠0:=by have:=q.gd.ps hR hh;omega
  have hn:=(K5 hR hh).st;have Q:=q.Bz hR hh (n:=Z7 (ob x.S h).Strong) (E7 hn);have one:∀n∈m.Nodes,n.Serial=σ h->n=Sh.nd σ x.S (D7 h):=λn hn e=>q.nd.one hR hn (q.nd.at hR p.1 p.d.2.1) (by rw[e,q.gd.f h _ p.d];rfl);have hinc:12<=Z7 (ob x.S h).Strong↔11<=(ob x.S h).Strong:=by
   unfold Z7;split;·omega
   .split <;> omega
  have hstk:∀n∈m.Nodes,n.Serial=σ h->n.Stuck=decide (12<=(ob x.S h).Strong):=λn hn e=>by
   rw[one n hn e,E9 hR p];rfl
  by_cases c:11<=(ob x.S h).Strong
  .have e1':(xY m (fQ m.Nodes (σ h) λk=>⟨k.Serial,k.Slot,k.Prog,k.Started,k.Alive,decide (12<=Z7 (ob x.S h).Strong),k.Fields⟩))=uP m (σ h):=by
    rw[zB (hinc.2 c)];rfl
   rw[e1'] at Q;split;·exact Q
   .rename_i c2;have c3:12<=(ob x.S h).Strong:=by
     rcases Int.lt_or_le (ob x.S h).Strong 12 with c4 | c4
     .exact absurd ⟨h0,by have:=hk hh c4;omega⟩ c2
     .exact c4
    have:uP m (σ h)=m:=by
     unfold uP;rw[Ha];intro n hn e;have:=hstk n hn e;rw[zB c3] at this;unfold Ee;rw[<-this]
    rw[this] at Q;exact Q
  .have e1':(xY m (fQ m.Nodes (σ h) λk=>⟨k.Serial,k.Slot,k.Prog,k.Started,k.Alive,decide (12<=Z7 (ob x.S h).Strong),k.Fields⟩))=m:=by
    rw[zQ (λd=>c (hinc.1 d)),Ha];intro n hn e;have:=hstk n hn e;rw[zQ (by omega)] at this;rw[<-this]
   rw[e1'] at Q;rw[za (λd=>by have:=hk hh (by omega);omega)];exact Q
end
theorem p9.Yu{σ:Int->Int}{m:a8}:∀(l:List Int) {x:Hp},SR x.S->p9 σ x m->p9 σ (l.foldl aK x) m
 | [],_,_,h=>h
 | v::l,x,hR,h=>by
  rw[zaj];refine p9.Yu l (x:=aK x v) ?_ (h.Qe hR v);have:=iz [v] hR;exact this.1.sr
section
variable{σ:Int->Int}{x:Hp}{m:a8}(hS:jJ x)(q:p9 σ x m)
include hS q
theorem p9.E8{h:Int}(hf:aO x [])(hh:h=0\/h∈lv x.S):p9 σ (E8 x h) (fX m (σ h)):=
 q.WA hS.sr hh λhl hs=>by rw[q.lk hS hl,hf h hl hs,I2];rfl
theorem p9.roots(r:Nat)(h:Int):p9 σ (wR x (x.Roots.set r h)) (YY m (m.Roots.set r (σ h))):=
 ⟨q.gd,q.nd,q.sl,q.ge,q.la,q.npl,q.se,by rw[q.ro];exact (zcp ..).symm,q.ce,q.p1,q.p2,q.tk⟩
theorem p9.Ub{r:Nat}{h:Int}{k:Nat}(hh:h=0\/h∈lv x.S)(hk:h∈lv x.S->(ob x.S h).Strong<12->(ob x.S h).Strong=k):p9 σ (G6 x r h) (YY (if σ h≠0/\11<=k then uP m (σ h) else m) (m.Roots.set r (σ h))):=by
 unfold G6;have Q:=q.WA hS.sr hh hk;refine p9.Qe (x:=wR (Sh.E8 x h) (x.Roots.set r h)) (km hS.sr h) ?_ _;have e:(if σ h≠0/\11<=k then uP m (σ h) else m).Roots=m.Roots:=by split <;> rfl
 have ex:(Sh.E8 x h).Roots=x.Roots:=by rw[pS]
 rw[<-ex,<-e];exact⟨Q.gd,Q.nd,Q.sl,Q.ge,Q.la,Q.npl,Q.se,by rw[Q.ro];exact (zcp ..).symm,Q.ce,Q.p1,Q.p2,Q.tk⟩
theorem p9.G6{r:Nat}{h:Int}(hf:aO x [])(hh:h=0\/h∈lv x.S):p9 σ (G6 x r h) (dv m r (σ h)):=by
 have:=q.Ub hS (r:=r) hh (k:=Ey m (σ h)) λhl hs=>by rw[q.lk hS hl,hf h hl hs,I2];rfl
 exact this
end
end Go.Sh
