/- A part. -/
import Derived.Test.YtmgbbnfgfmfgaaaGreatQ22dT
set_option linter.unusedVariables false
set_option linter.unusedSimpArgs false
set_option linter.unusedSectionVars false
namespace Go.Sh
noncomputable def zr(x:Hp):List Int:=(lv x.S).filter λh=>(ob x.S h).Strong==0
theorem cS{x:Hp}{h:Int}:h∈zr x↔h∈lv x.S/\(ob x.S h).Strong=0:=by
 unfold zr;rw[zk,me]
theorem DH{x:Hp}(hx:J8 x){z:Int}(hz:z∈zr x):lH x z=0:=by
 obtain⟨a,b⟩:=cS.1 hz;have:=hx.fair z a (by omega);rw[G6] at this;omega
theorem Fy{l:List Int}{h:Int}(h0:h≠0)(e:J3 l h=0):h∉l:=λq=>by
 have:=iW.2 ⟨h0,q⟩;omega
theorem MR{α:Type}(f:α->Nat):∀ {l:List α} {a:α},a∈l->f a<=(l.map f).sum
 | b::l,a,h=>by
  rw[zF,ww];rcases zN.1 h with e | e
  .subst e;omega
  .have:=MR f e;omega
theorem CE{s:b6}{a y:Int}(ha:a∈lv s):J3 (outs s a) y<=jv s y:=MR (λx=>J3 (outs s x) y) ha
theorem CU{t:Tb}{k v:Int}(h:Has t k v)(h0:v≠0):0<own t v:=zbx.2 ⟨⟨k,v⟩,ca.2 h,by simp[h0]⟩
def lf(t:Tb)(ks:List Int):Tb × List Int:=(aK t ks).getD (t,[])
theorem jU{t:Tb}(hT:HR t)(ks:List Int)(hks:ks.length<=1000):aK t ks=some (lf t ks)/\HR (lf t ks).1/\(lf t ks).2.length<=ks.length/\pb (t.map eN) ks=some ((lf t ks).1.map eN,(lf t ks).2) /\
  (∀k v,Has (lf t ks).1 k v↔k∉ks/\Has t k v)/\∀y,own (lf t ks).1 y+J3 (lf t ks).2 y=own t y:=by
 obtain⟨a,had,h1,h2,h3,h4,h5,h6,h7,h8,h9⟩:=wc hT ks hks;have:lf t ks=(a,had):=by unfold lf;rw[h1];rfl
 rw[this];exact⟨h1,h2,h4,h5,h6,h9⟩
noncomputable def gH(x:Hp)(ds:List Int):Hp:=(ds.flatMap (outs x.S)++(lf x.T ds).2).foldl ax (jl x ds (lf x.T ds).1)
theorem gX:∀(l:List Int) {x:Hp},SR x.S->vE x.S (l.foldl ax x).S/\l.foldl ax x=wS x (l.foldl ax x).S
 | [],x,h=>⟨vE.refl h,rfl⟩
 | v::l,x,h=>by
  have k1:=H7 h v (f:=kR) λc=>P3;obtain⟨k2,e⟩:=gX l (x:=ax x v) k1.sr;refine⟨k1.trans k2,?_⟩;show l.foldl ax (ax x v)=wS x (l.foldl ax (ax x v)).S;rw[e,Vd x v]
theorem Ba{x:Hp}(hx:J8 x){ds:List Int}(hn:ds.Nodup)(hm:∀d∈ds,d∈lv x.S)
  (ho:∀d∈ds,d∉nZ x)(hf:∀h∈lv x.S,h∉ds->∀v∈(ob x.S h).Fields,v∉ds)(hp:∀k v,Has x.T k v->k∉ds->v∉ds):J8 (gH x ds):=by
 have hl:ds.length<=24:=zP (Y9 hn hm) (M0 (A0.2 hx.sh.sr));obtain⟨_,w1,_,_,w2,w3⟩:=jU hx.sh.hr ds (by omega);obtain⟨a,b,c⟩:=JW hx hn hm ho hf hp w1 w2 w3;exact yG _ a b c
theorem Gf{x:Hp}(hR:SR x.S){ds:List Int}(hn:ds.Nodup)(hm:∀d∈ds,d∈lv x.S):lv (gH x ds).S=(lv x.S).filter λh=>decide (h∉ds):=by
 have g:=eH ds hR hn hm;exact (gX (ds.flatMap (outs x.S)++(lf x.T ds).2) (x:=jl x ds (lf x.T ds).1) g.sr).1.lv.trans g.lv
theorem Gg{x:Hp}(hR:SR x.S){ds:List Int}(hn:ds.Nodup)(hm:∀d∈ds,d∈lv x.S){k:Int}(hk:k∈lv x.S)(hd:k∉ds):∃n,ob (gH x ds).S k=AP (ob x.S k) n:=by
 have g:=eH ds hR hn hm;have hr:=H5 hR hk;obtain⟨n,e⟩:=(gX (ds.flatMap (outs x.S)++(lf x.T ds).2) (x:=jl x ds (lf x.T ds).1) g.sr).1.ob k (by omega);refine⟨n,?_⟩;have e':ob (gH x ds).S k=_:=e;have g':ob (jl x ds (lf x.T ds).1).S k=ob x.S k:=g.ob k hk hd;rw[e',g']
theorem sj{x:Hp}(hR:SR x.S){ds:List Int}(hn:ds.Nodup)(hm:∀d∈ds,d∈lv x.S):(gH x ds).Roots=x.Roots/\(gH x ds).b7=lk x.b7 ds/\(gH x ds).T=(lf x.T ds).1/\(gH x ds).Q=⟨x.Q.L++jm x.b7 ds,x.Q.Cap⟩:=by
 have g:=eH ds hR hn hm;have e:=(gX (ds.flatMap (outs x.S)++(lf x.T ds).2) (x:=jl x ds (lf x.T ds).1) g.sr).2;have e':gH x ds=wS (jl x ds (lf x.T ds).1) (gH x ds).S:=e;rw[e'];exact⟨rfl,rfl,rfl,rfl⟩
theorem Ao{x:Hp}(hx:J8 x){z:Int}(hz:z∈zr x):J8 (gH x [z]):=by
 obtain⟨a,b⟩:=cS.1 hz;have h0:z≠0:=λe=>eP hx.sh.sr (e▸a);have hn:=DH hx hz;unfold lH at hn;refine Ba hx (by simp) (by simpa using a) (λd hd=>?_) (λh hh hne v hv q=>?_) (λk v hkv _ q=>?_)
 .rw[zt] at hd;subst hd;exact Fy h0 (by omega)
 .rw[zt] at q;subst q;have:=CE (y:=v) hh;have h1:=iW.2 ⟨h0,show v∈outs x.S h from fW.2 ⟨hv,h0⟩⟩;omega
 .rw[zt] at q;subst q;have:=CU hkv h0;omega
def due(o:n7):Bool:=decide (0<=o.Prog) && !o.Started
noncomputable def FQ(x:Hp):Hp:=match zr x with
 | []=>x
 | z::_=>if due (ob x.S z) then gC x z else gH x [z]
noncomputable def oe:Nat->Hp->Hp
 | 0,x=>x
 | n+1,x=>oe n (FQ x)
theorem fA(n:Nat)(x:Hp):oe (n+1) x=FQ (oe n x):=by
 induction n generalizing x with
 | zero=>rfl
 | succ n ih=>exact ih (FQ x)
theorem ny{x:Hp}(h:zr x = []):FQ x=x:=by unfold FQ;rw[h]
theorem jQ{x:Hp}{z:Int}{l:List Int}(h:zr x=z::l):FQ x=if due (ob x.S z) then gC x z else gH x [z]:=by unfold FQ;rw[h]
theorem Lb{x:Hp}(hx:J8 x):J8 (FQ x):=by
 cases h:zr x with
 | nil=>rw[ny h];exact hx
 | cons z l=>
  have hz:z∈zr x:=by rw[h];exact zf ..
  rw[jQ h];split
  .rename_i q;unfold due at q;rw[zA,zH,zb8] at q;exact vo hx (cS.1 hz).1 q.1 q.2
  .exact Ao hx hz
theorem P6{x:Hp}(hx:J8 x)(n:Nat):J8 (oe n x):=by
 induction n with
 | zero=>exact hx
 | succ n ih=>rw[fA];exact Lb ih
section
variable{x:Hp}(hR:SR x.S){h:Int}(hh:h∈lv x.S)
include hR hh
theorem nf:vE (cT x.S h (fz (ob x.S h))) (gC x h).S/\(gC x h).Roots=x.Roots/\(gC x h).b7=x.b7/\(gC x h).T=x.T/\(gC x h).Q=⟨x.Q.L ++ [Au x h],x.Q.Cap⟩:=by
 have oko:=J7 hR hh;have r1:=bN (o:=fz (ob x.S h)) hR hh rfl ⟨oko.s1,oko.s2,oko.st,oko.wk,oko.p1,oko.p2,oko.fl⟩;refine⟨H7 (x:=⟨cT x.S h (fz (ob x.S h)),x.Roots,x.b7,x.T,⟨x.Q.L ++ [Au x h],x.Q.Cap⟩⟩) r1 h λc=>E4,?_⟩;have e:gC x h=wS ⟨cT x.S h (fz (ob x.S h)),x.Roots,x.b7,x.T,⟨x.Q.L ++ [Au x h],x.Q.Cap⟩⟩ (gC x h).S:=pg _ h;rw[e];exact⟨rfl,rfl,rfl,rfl⟩
theorem CZ:lv (gC x h).S=lv x.S:=by
 have oko:=J7 hR hh;exact (nf hR hh).1.lv.trans (iA (o:=fz (ob x.S h)) hR hh rfl ⟨oko.s1,oko.s2,oko.st,oko.wk,oko.p1,oko.p2,oko.fl⟩)
theorem yz{k:Int}(hk:k∈lv x.S):∃n,ob (gC x h).S k=AP (if k=h then fz (ob x.S h) else ob x.S k) n:=by
 have oko:=J7 hR hh;have hr:=H5 hR hk;obtain⟨n,e⟩:=(nf hR hh).1.ob k (by omega);refine⟨n,?_⟩;rw[e,ga (o:=fz (ob x.S h)) hR hh rfl ⟨oko.s1,oko.s2,oko.st,oko.wk,oko.p1,oko.p2,oko.fl⟩ (by omega)]
end
noncomputable def mu(x:Hp):Nat:=(lv x.S).length+((lv x.S).filter λh => !(ob x.S h).Started).length
theorem WD{x:Hp}(hR:SR x.S):mu x<=48:=by
 have h1:(lv x.S).length<=24:=M0 (A0.2 hR);have h2:((lv x.S).filter λh => !(ob x.S h).Started).length<=(lv x.S).length:=zy ..;unfold mu;omega
theorem Vq{x:Hp}(hx:J8 x)(h:zr x ≠ []):mu (FQ x)<mu x:=by
 cases hz:zr x with
 | nil=>exact absurd hz h
 | cons z l=>
  have hzm:z∈zr x:=by rw[hz];exact zf ..
  have hzl:=(cS.1 hzm).1;have hR:=hx.sh.sr;rw[jQ hz];split
  .rename_i q;unfold due at q;rw[zA,zH,zb8] at q;unfold mu;rw[CZ hR hzl];have:=filter_lt (p:=λh => !(ob (gC x z).S h).Started) (q:=λh => !(ob x.S h).Started) (l:=lv x.S) (λk hk hp=>by
    obtain⟨n,e⟩:=yz hR hzl hk;rw[e] at hp;split at hp;·exact absurd hp (by simp)
    .exact hp) z hzl (by rw[q.2];rfl) (by
    obtain⟨n,e⟩:=yz hR hzl hzl;rw[e,zb rfl];rfl)
   omega
  .unfold mu;have hn:([z]:List Int).Nodup:=by simp
   have hm:∀d ∈ [z],d∈lv x.S:=by simpa using hzl
   rw[Gf hR hn hm,zan];have h1:((lv x.S).filter λh=>decide (h ∉ [z])).length<((lv x.S).filter λ_=>true).length:=filter_lt (λ_ _ _=>rfl) z hzl rfl (by simp);rw[za7.2 (λ_ _=>rfl)] at h1;have h2:((lv x.S).filter λa=>(!(ob (gH x [z]).S a).Started)&&decide (a ∉ [z])).length<=((lv x.S).filter λh => !(ob x.S h).Started).length:=by
    rw[<-zbw,<-zbw];refine List.countP_mono_left λa ha hp=>?_;rw[zA,zH] at hp;obtain⟨n,e⟩:=Gg hR hn hm ha hp.2;rw[e] at hp;exact hp.1
   omega
noncomputable def bu(x:Hp):Hp:=oe 100 x
theorem vu{x:Hp}(hx:J8 x):∃n,n<=48/\zr (oe n x) = []/\(∀j,j<n->zr (oe j x) ≠ [])/\bu x=oe n x:=by
 have key:∀m,(∃n,n<=m/\zr (oe n x) = [])\/mu (oe m x)+m<=mu x:=by
  intro m;induction m with
  | zero=>exact .inr (zG _)
  | succ m ih=>
   rcases ih with ⟨n,h1,h2⟩ | ih;·exact .inl ⟨n,by omega,h2⟩
   .by_cases q:zr (oe m x) = []
    .exact .inl ⟨m,by omega,q⟩
    .have:=Vq (P6 hx m) q;rw[<-fA] at this;exact .inr (by omega)
 have h48:=WD hx.sh.sr;have hex:∃n,n<=48/\zr (oe n x) = []:=by
  rcases key 49 with ⟨n,h1,h2⟩ | h
  .rcases zE n 49 with q | q
   .exact⟨n,by omega,h2⟩
   .rcases key 48 with h | h
    .exact h
    .have:mu (oe 48 x)=0:=by omega
     refine⟨48,zG _,?_⟩;have hl:(lv (oe 48 x).S).length=0:=by unfold mu at this;omega
     unfold zr;rw[zZ hl];rfl
  .omega
 obtain⟨n,⟨hn,hz⟩,hmin⟩:=dy hex;refine⟨n,hn,hz,λj hj q=>?_,?_⟩
 .have:=hmin j ⟨by omega,q⟩;omega
 .have:∀k,oe (n+k) x=oe n x:=λk=>by
   induction k with
   | zero=>rfl
   | succ k ih=>rw[show n+(k+1)=(n+k)+1 by omega,fA,ih,ny hz]
  have h100:=this (100-n);rw[show n+(100-n)=100 by omega] at h100;exact h100
theorem nu{x:Hp}(hx:J8 x):J8 (bu x):=P6 hx 100
theorem BM{x:Hp}(hx:J8 x):zr (bu x) = []:=by
 obtain⟨n,_,h,_,e⟩:=vu hx;rw[e];exact h
theorem Ot{x:Hp}(h:zr x = []):bu x=x:=by
 have:∀n,oe n x=x:=λn=>by
  induction n with
  | zero=>rfl
  | succ n ih=>rw[fA,ih,ny h]
 exact this 100
section
variable{x:Hp}(hR:SR x.S)
include hR
theorem qK{h:Int}(hh:h∈lv x.S):h<=9223372036854775807:=by have:=H5 hR hh;omega
theorem xY{h:Int}(hh:h∈lv x.S):x6 x.S h=some (ob x.S h,0):=by
 obtain⟨e,h1,h2⟩:=ic (A0.2 hR) (qK hR hh);rw[h1,h2.2 hh]
theorem zero_eq:dW x=some (zr x):=by
 have h24:(lv x.S).length<=24:=M0 (A0.2 hR);unfold dW;simp only[jn];rw[gw (A0.2 hR),YI];rw[U4 (lv x.S) (λb h=>if (ob x.S h).Strong==0 then b ++ [h] else b) id (λk b=>b.length<=k) (by omega) (zG _) (λk hk b hb=>?_) (λb hb=>by simp)]
 .rw[foldl_filter];rfl
 .simp only[wp,hk,t6,wn,s7 hk,YI,xY hR (zh hk)];by_cases c:((ob x.S (lv x.S)[k]).Strong==0)=true
  .rw[zb c,zb c,K3 (by omega) (by simp;omega),YI,n9];exact⟨rfl,by simp;omega⟩
  .rw[za c,za c,n9];exact⟨rfl,by omega⟩
end
noncomputable def Xy(x:Hp)(h:Int):Hp:=if h∈lv x.S/\due (ob x.S h)=true then gC x h else x
theorem Ju{s:b6}(hR:SR s){h:Int}(hl:h∈lv s):Ap s (fz (ob s h)):=by
 have oko:=J7 hR hl;exact⟨oko.s1,oko.s2,oko.st,oko.wk,oko.p1,oko.p2,oko.fl⟩
theorem IZ(o:n7):O7 o=some (due o):=by
 unfold O7 due;congr 1
section
variable{x:Hp}(hx:J8 x)(hS:SL x){h:Int}(hh:h<=9223372036854775807)
include hx hS hh
theorem Hc(hl:h∈lv x.S)(hd:due (ob x.S h)=true):x.Q.L.length<30:=by
 have hb:0<=(ob x.S h).Prog/\(ob x.S h).Started=false:=by
  unfold due at hd;rw[zA,zH,zb8] at hd;exact hd
 have:=(vo hx hl hb.1 hb.2).sh.q30;rw[(nf hx.sh.sr hl).2.2.2.2] at this;simp at this;omega
theorem BH:W6 x h=some (Xy x h):=by
 have hR:=hx.sh.sr;have cap:=hx.sh.cap;obtain⟨e,h1,h2⟩:=ic (A0.2 hR) hh;unfold W6 Xy;rw[h1,YI];by_cases hl:h∈lv x.S
 .have e0:e=0:=h2.2 hl;subst e0;have e1:(((0:Int) != 0)==false)=true:=rfl;simp only[e1,jG,IZ,YI];cases hd:due (ob x.S h);·rw[zb (by simp),za (by simp)]
  .rw[za (by simp),zb ⟨hl,rfl⟩];have hr:=Hc hx hS hh hl hd;have hok:=Ju hR hl;have l1:=iA (o:=fz (ob x.S h)) hR hl rfl hok;have r1:=bN (o:=fz (ob x.S h)) hR hl rfl hok;rw[xg (o:=fz (ob x.S h)) hR hl rfl hok,YI,SK _ (by omega),YI];have et:VK x.Q ⟨1,h,(ob x.S h).Prog⟩=(⟨x.Q.L ++ [Au x h],x.Q.Cap⟩,0):=by
    unfold VK;rw[za (by omega)]
   rw[et];dsimp only;rw[lR r1 hh (λk hk=>?_),YI];·rfl
   .dsimp only at hk |-;rw[l1] at hk;rw[ga (o:=fz (ob x.S h)) hR hl rfl hok (qK hR hk)];split;·exact hS h hl
    .exact hS k hk
 .have e0:e≠0:=λq=>hl (h2.1 q);have e1:(e != 0)=true:=by simpa using e0
  rw[e1];simp only[show ((true==false)=true)=False by simp,E1,qr,YI,Bool.true_or,wn];rw[za (λq=>hl q.1)]
end
noncomputable def Xu(x:Hp)(l:List Int):List Int:=l.foldl (λb h=>if h∈lv x.S/\h∉b then b ++ [h] else b) []
theorem MV{x:Hp}{z:Int}(hz:z∈lv x.S):Xu x [z] = [z]:=by
 unfold Xu;simp[hz]
section
variable{x:Hp}(hR:SR x.S)
include hR
theorem tt(l:List Int)(hl:l.length<=1000)(hb:∀h∈l,h<=9223372036854775807):Z2 x l=some (Xu x l):=by
 unfold Z2;simp only[jn];have key:=U4 (f:=λ((s20,s21,s22):Int × (List (Int × Bool)) × (List Int))=>
   if (decide (s20<(l.length:Int))) then
     (ix l s20).bind λv32=>
     (x6 x.S v32).bind λv33=>
     if ((v33.2==0)==true) then
      if (!((y9 s21 v32).getD (false:Bool))) then
       (app 8 s22 [v32]).bind λv34=>
       some (Sum.inl (w7 (s20+1),(o7 s21 v32 true),v34))
      else
      some (.inl (w7 (s20+1),s21,s22))
     else
     some (.inl (w7 (s20+1),s21,s22))
   else
   some (.inr s22)) l (λ(b:List (Int × Bool) × List Int) h=>if h∈lv x.S/\h∉b.2 then (o7 b.1 h true,b.2 ++ [h]) else b) (λb=>b.2) (λk b=>b.2.length<=k/\∀d,(y9 b.1 d).getD false=decide (d∈b.2)) (b0:=([],[])) (by omega) ⟨zG _,λd=>by simp[y9]⟩ (λk hk b hb2=>?_) (λb hb2=>by simp)
 .rw[key,YI];congr 1;have:∀(l:List Int) (m:List (Int × Bool)) (b:List Int),(l.foldl (λ(b:List (Int × Bool) × List Int) h=>if h∈lv x.S/\h∉b.2 then (o7 b.1 h true,b.2 ++ [h]) else b) (m,b)).2=l.foldl (λb h=>if h∈lv x.S/\h∉b then b ++ [h] else b) b:=λl=>by
   induction l with
   | nil=>intro m b;rfl
   | cons h l ih=>
    intro m b;rw[zaj,zaj];by_cases c:h∈lv x.S/\h∉b
    .rw[zb c,zb c,ih]
    .rw[za c,za c,ih]
  exact this l [] []
 .obtain⟨hb1,hb3⟩:=hb2;obtain⟨e,h1,h2⟩:=ic (A0.2 hR) (hb _ (zh hk));simp only[wp,hk,t6,wn,s7 hk,YI,h1,hb3];by_cases hl:l[k]∈lv x.S
  .have e0:e=0:=h2.2 hl;subst e0;by_cases hm:l[k]∈b.2
   .rw[zb (by rfl),za (by simp[hm]),za (λq=>q.2 hm),n9];exact⟨rfl,by omega,hb3⟩
   .rw[zb (by rfl),zb (by simp[hm]),zb ⟨hl,hm⟩,K3 (by omega) (by simp;omega),YI,n9];refine⟨rfl,by simp;omega,λd=>?_⟩;rw[pR];by_cases q:d=l[k]
    .rw[zb q];simp[q]
    .rw[za q,hb3];simp[q]
  .have e0:e≠0:=λq=>hl (h2.1 q);rw[za (by simp[e0]),za (λq=>hl q.1),n9];exact⟨rfl,by omega,hb3⟩
end
theorem xQ{α β:Type}(p:α->Bool)(f:α->β):∀(xs:List α) (acc:List β),xs.foldl (λb x=>if p x then b ++ [f x] else b) acc=acc++(xs.filter p).map f
 | [],acc=>by simp
 | x::xs,acc=>by
  rw[zaj,xQ p f xs];by_cases h:p x=true
  .simp[h]
  .simp[h]
theorem pP{α:Type}{l:List α}{i:Nat}(h:i<l.length)(d:α):l.getD i d=l[i]:=by
 rw[zd,zc h];rfl
theorem JY(c:k7)(ds:List Int)(hl:ds.length<=1000):cv c ds=some (iJ ds c):=by
 unfold cv iJ;rw[contains_eq _ _ (by omega)];cases (c.Intact&&c.Target != 0);·rfl
 .simp[E1]
def oa(l:List k7)(ds:List Int):List Nat:=(List.range l.length).filter λw=>iJ ds (l.getD w cz)
theorem UJ{l:List k7}{ds:List Int}{w:Nat}(h:w∈oa l ds):w<l.length:=by
 unfold oa at h;rw[zk,zbb] at h;exact h.1
theorem Ri(l:List k7)(ds:List Int):(oa l ds).length<=l.length:=by
 unfold oa;exact zP (zy ..) (by simp)
theorem UK(l:List k7)(ds:List Int):(oa l ds).Nodup:=zb7 _ List.nodup_range
theorem Qa(l:List k7)(ds:List Int):cls l ds=(oa l ds).filter λw=>decide (0<=(l.getD w cz).Call):=by
 unfold cls oa;rw[zan];refine or λw _=>?_;rw[Bool.and_comm]
def tf(l:List Nat):List Int:=l.map λ(n:Nat)=>(n:Int)
theorem Ix{l:List Nat}{k:Nat}(h:k<l.length):ix (tf l) (k:Int)=some ((l[k]:Nat):Int):=by
 unfold tf;rw[tg,s7 h];rfl
theorem yd(l:List Nat):(tf l).length=l.length:=zm ..
theorem KI(l:List k7)(ds:List Int)(hl:l.length<=1000)(hd:ds.length<=1000):M2 l ds=some (tf (oa l ds)):=by
 unfold M2;simp only[jn];have hr:(List.range l.length).length=l.length:=by simp
 have key:=U4 (List.range l.length) (λ(b:List Int) (w:Nat)=>if iJ ds (l.getD w cz) then b ++ [(w:Int)] else b) id (λk b=>b.length<=k) (b0:=[]) (f:=λ((s17,s18):Int × (List Int))=>
   if (decide (s17<(l.length:Int))) then
     (ix l s17).bind λv26=>
     (cv v26 ds).bind λv27=>
     if v27 then
      (app 8 s18 [s17]).bind λv28=>
      some (Sum.inl (w7 (s17+1),v28))
     else
     some (.inl (w7 (s17+1),s18))
   else
   some (.inr s18)) (by omega) (zG _) (λk hk b hb=>?_) (λb hb=>by simp)
 .rw[key,xQ];rfl
 .rw[hr] at hk;simp only[wp,hk,t6,wn,s7 hk,YI,JY _ _ hd,List.getElem_range,pP hk];by_cases c:iJ ds l[k]=true
  .rw[zb c,zb c,K3 (by omega) (by simp;omega),YI,n9];exact⟨rfl,by simp;omega⟩
  .rw[za c,za c,n9];exact⟨rfl,by omega⟩
theorem Kb(l:List k7)(hl:l.length<=1000):bR l=some l:=by
 unfold bR;rw[kD (by omega) (by omega),YI];unfold wZ;rw[zb (by simp),YI];simp
def sq(l:List k7)(K:List Nat):List k7:=(List.range l.length).map λi=>if i∈K then ⟨(l.getD i cz).Target,false,(l.getD i cz).Call⟩ else l.getD i cz
theorem ll(l:List k7)(K:List Nat):(sq l K).length=l.length:=by simp[sq]
theorem ss{l:List k7}{K:List Nat}{i:Nat}(h:i<(sq l K).length):(sq l K)[i]=if i∈K then ⟨(l.getD i cz).Target,false,(l.getD i cz).Call⟩ else l.getD i cz:=by simp[sq]
theorem LU(l:List k7):sq l []=l:=by
 refine zb2 (ll ..) λi h1 h2=>?_;rw[ss,za (by simp),pP h2]
theorem Ka{l:List k7}{K:List Nat}{w:Nat}(hw:w<l.length):sq l (K ++ [w])=(sq l K).set w ⟨(l.getD w cz).Target,false,(l.getD w cz).Call⟩:=by
 refine zb2 (by rw[zaq,ll,ll]) λi h1 h2=>?_;rw[ss,zcr];by_cases e:w=i
 .subst e;rw[zb rfl,zb (by simp)]
 .rw[za e,ss];by_cases q:i∈K
  .rw[zb (ut _ q),zb q]
  .rw[za,za q];rw[zw,zt];exact λq2=>q2.elim q λq3=>e q3.symm
theorem LS(l:List k7)(ds:List Int):sq l (oa l ds)=lk l ds:=by
 refine zb2 (by rw[ll];simp[lk]) λi h1 h2=>?_;have hi:i<l.length:=by rw[ll] at h1;exact h1
 have ec:(lk l ds)[i]=qX ds l[i]:=q9 _;rw[ss,ec,pP hi];unfold qX;by_cases c:iJ ds l[i]=true
 .rw[zb c,zb];unfold oa;rw[zk,zbb,pP hi];exact⟨hi,c⟩
 .rw[za c,za];unfold oa;rw[zk,zbb,pP hi];exact λq=>c q.2
theorem U2{α:Type}{l:List α}{k:Nat}(h:k<l.length):l.take (k+1)=l.take k ++ [l[k]]:=zu h
theorem DW(l:List k7)(ds:List Int)(hl:l.length<=1000)(hd:ds.length<=1000):gk l ds=some (lk l ds,tf (cls l ds)):=by
 unfold gk;rw[KI l ds hl hd,YI,Kb l hl,YI];simp only[jn,yd];have hp:=Ri l ds;refine bY (oa l ds).length (λk (b:List k7 × List Int)=>b.1=sq l ((oa l ds).take k)/\b.2=tf (((oa l ds).take k).filter λw=>decide (0<=(l.getD w cz).Call))) (by omega) ⟨by simp[LU],by simp[tf]⟩ ?_ ?_
 .rintro k ⟨b1,b2⟩ hk ⟨rfl,rfl⟩;left;have hw:=UJ (zh hk);have hnm:(oa l ds)[k]∉(oa l ds).take k:=λq=>by
   have hn:=UK l ds;rw[<-zbo k (oa l ds),zbu] at hn;exact hn.2.2 _ q (oa l ds)[k] (by rw[List.drop_eq_getElem_cons hk];exact zf ..) rfl
  have h1:(oa l ds)[k]<(sq l ((oa l ds).take k)).length:=by rw[ll];exact hw
  have e1:ix (sq l ((oa l ds).take k)) (((oa l ds)[k]:Nat):Int)=some (l.getD (oa l ds)[k] cz):=by rw[s7 h1,ss,za hnm]
  have h2:(oa l ds)[k]<((sq l ((oa l ds).take k)).set (oa l ds)[k] ⟨(l.getD (oa l ds)[k] cz).Target,false,(l.getD (oa l ds)[k] cz).Call⟩).length:=by rw[zaq];exact h1
  have e2:ix ((sq l ((oa l ds).take k)).set (oa l ds)[k] ⟨(l.getD (oa l ds)[k] cz).Target,false,(l.getD (oa l ds)[k] cz).Call⟩) (((oa l ds)[k]:Nat):Int)=some ⟨(l.getD (oa l ds)[k] cz).Target,false,(l.getD (oa l ds)[k] cz).Call⟩:=by rw[s7 h2,List.getElem_set_self]
  dsimp only;simp only[wp,hk,t6,wn,Ix hk,YI,e1,zR,e2];have hle:(tf (((oa l ds).take k).filter λw=>decide (0<=(l.getD w cz).Call))).length<=1000:=by
   rw[yd];exact zP (zy ..) (by simp;omega)
  rw[U2 hk,Ka hw,zao];by_cases c:0<=(l.getD (oa l ds)[k] cz).Call
  .rw[zb (zC c),K3 (by omega) (by simp only[zI,zah];omega),YI,n9];refine⟨_,rfl,rfl,?_⟩;rw[ms,zb (zC c)];simp[tf]
  .rw[za (λq=>c (zbj q)),n9];refine⟨_,rfl,rfl,?_⟩;rw[ms,za (λq=>c (zbj q))];simp[tf]
 .rintro⟨b1,b2⟩ ⟨rfl,rfl⟩;refine⟨_,za (by simp),?_⟩;dsimp only;rw[zQ,LS,<-Qa]
def Lh(x:Hp)(ds:List Int):Hp:=⟨x.S,x.Roots,lk x.b7 ds,x.T,⟨x.Q.L++jm x.b7 ds,x.Q.Cap⟩⟩
theorem mE(l:List k7)(ds:List Int):(jm l ds).length=(cls l ds).length:=zm ..
theorem Gm{l:List k7}{ds:List Int}{w:Nat}(h:w∈cls l ds):w<l.length:=by
 unfold cls at h;rw[zk,zbb] at h;exact h.1
theorem Tv{l:List k7}{ds:List Int}{k:Nat}(h:k<(jm l ds).length):(jm l ds)[k]=⟨2,(((cls l ds)[k]'(by rw[<-mE];exact h):Nat):Int),(l.getD ((cls l ds)[k]'(by rw[<-mE];exact h)) cz).Call⟩:=q9 _
theorem LV{l:List k7}{ds:List Int}{w:Nat}(h:w<l.length):ix (lk l ds) (w:Int)=some (qX ds l[w]):=by
 unfold lk;rw[tg,s7 h];rfl
section
variable{x:Hp}{ds:List Int}(hc:x.b7.length<=6)(hd:ds.length<=1000)(hq:(x.Q.L++jm x.b7 ds).length<=30)(hcap:x.Q.Cap=30)
include hc hd hq hcap
theorem JT{k:Nat}(hk:k<(jm x.b7 ds).length):VK ⟨x.Q.L++(jm x.b7 ds).take k,x.Q.Cap⟩ (jm x.b7 ds)[k]=(⟨x.Q.L++(jm x.b7 ds).take (k+1),x.Q.Cap⟩,0):=by
 rw[zK] at hq;unfold VK;rw[za (by dsimp only;rw[zK,zas,hcap];omega),U2 hk,zai]
theorem Gl:fv x ds=some (Lh x ds):=by
 unfold fv;rw[DW _ _ (by omega) hd,YI];dsimp only;simp only[jn,yd];have hq2:=hq;rw[zK] at hq2;refine bY (cls x.b7 ds).length (λk (q:TQ)=>q=⟨x.Q.L++(jm x.b7 ds).take k,x.Q.Cap⟩) (by rw[<-mE];omega) (by simp) ?_ ?_
 .rintro k q hk rfl;left;have hw:=Gm (zh hk);have hk2:k<(jm x.b7 ds).length:=by rw[mE];exact hk
  simp only[wp,hk,t6,wn,Ix hk,YI,LV hw];have et:(⟨2,(((cls x.b7 ds)[k]:Nat):Int),(qX ds x.b7[(cls x.b7 ds)[k]]).Call⟩:e6)=(jm x.b7 ds)[k]:=by
   rw[Tv,(ow ds _).2.1,pP hw]
  rw[et,SK _ (by dsimp only;rw[zK,zas];omega),JT hc hd hq hcap hk2,YI,n9 (by rw[<-mE] at hk;omega)];exact⟨_,rfl,rfl⟩
 .rintro q rfl;refine⟨_,za (by simp),?_⟩;rw[<-mE,zQ];rfl
end
theorem BL(s:b6)(i:Nat)(c d:c8):H6 (H6 s i c) i d=H6 s i d:=by
 unfold H6;dsimp only;rw[List.set_set]
section
variable{s:b6}(hR:SR s){d:Int}(hd:d∈lv s)
include hR hd
def k1(s:b6)(d:Int):b6:=H6 s (D3 d) ⟨1,(ce s (D3 d)).Gen,Kc (ob s d)⟩
def k2(s:b6)(d:Int):b6:=H6 s (D3 d) ⟨2,(ce s (D3 d)).Gen,Kc (ob s d)⟩
theorem Gr:Ap s (Kc (ob s d)):=by
 have ho:=J7 hR hd;exact⟨ho.s1,ho.s2,zag _,ho.wk,ho.p1,ho.p2,zV _⟩
theorem MO:cT s d (Kc (ob s d))=k1 s d:=by
 have q:=o0 hR hd;unfold cT fJ k1 H6;rw[q.2.1]
theorem Wo:At (k1 s d) d (D3 d):=by
 have q:=o0 hR hd;refine⟨by unfold k1;rw[V3];exact q.1,?_,?_⟩;·unfold k1;rw[K4 q.1,zb rfl]
 .unfold k1;rw[K4 q.1,zb rfl];exact q.2.2
theorem Wp:SR (k1 s d):=by rw[<-MO hR hd];exact bN (o:=Kc (ob s d)) hR hd rfl (Gr hR hd)
theorem Ws:SR (k2 s d):=by
 have q:=o0 hR hd;have hc:=hR.cell _ q.1;unfold k2;refine hR.H6 q.1 ⟨by simp,by simp,hc.2.2.1,hc.2.2.2⟩ (λq=>absurd (.inr rfl) q) (λ_=>⟨Gr hR hd,.inl q.2.1,?_⟩);show (ob s d).Serial=_;rw[E9 hR q]
theorem Wq:T5 (k2 s d) d (D3 d):=by
 have q:=o0 hR hd;refine⟨by unfold k2;rw[V3];exact q.1,?_,?_⟩;·unfold k2;rw[K4 q.1,zb rfl];exact .inr rfl
 .unfold k2;rw[K4 q.1,zb rfl];exact q.2.2
theorem Qz:X7 (k1 s d).S d=some ((k2 s d).S,0):=by
 have q:=o0 hR hd;have hR1:=Wp hR hd;have q1:=Wo hR hd;have hr:=H5 hR hd;have hlen:=hR1.len;have hH:BU d:=((rn hR1).2 q1.d).2.1;have hsl:(d-1) % 32=(D3 d:Nat):=((rn hR1).2 q1.d).2.2.1;have hg:(d-1) / 32=(ce s (D3 d)).Gen:=by
  have:=q.2.2;have h24:=hR.len;have:=q.1;omega
 unfold X7 G9;rw[wW hR1 q1.d,YI,za (by simp),Iy q1.1,YI,q1.2.1,za (by simp),YI,za (by simp),oK (by omega),YI,zb hH,hsl,qG (by omega),YI,zb hH,hg,md rfl q1.1 hlen,YI];have e:(ce (k1 s d) (D3 d)).Val=Kc (ob s d):=by unfold k1;rw[K4 q.1,zb rfl]
 rw[e];congr 2;show (H6 (k1 s d) (D3 d) _).S=(k2 s d).S;unfold k1 k2;rw[BL]
theorem Wj(hw:(ob s d).Weak=0):DJ (k2 s d) (D3 d)=wq s d:=by
 have q:=o0 hR hd;have e:ce (k2 s d) (D3 d)=⟨2,(ce s (D3 d)).Gen,Kc (ob s d)⟩:=by unfold k2;rw[K4 q.1,zb rfl]
 unfold DJ wq FM;rw[e];rw[E9 hR q] at hw;rw[zb hw];unfold k2;rw[BL];rfl
theorem Wr(hw:(ob s d).Weak≠0):k2 s d=wq s d:=by
 have q:=o0 hR hd;unfold k2 wq FM;rw[E9 hR q] at hw |-;rw[za hw]
end
theorem Kt{x:Hp}(hR:SR x.S){d:Int}(hd:d∈lv x.S):aS x d=some (wS x (wq x.S d)):=by
 unfold aS;rw[xY hR hd,YI];have e1:R5 x.S d (⟨(ob x.S d).Serial,0,(ob x.S d).Weak,(ob x.S d).Prog,(ob x.S d).Started,[]⟩:n7)=some (k1 x.S d,0):=by
  rw[<-MO hR hd];exact xg (o:=Kc (ob x.S d)) hR hd rfl (Gr hR hd)
 rw[e1,YI,Qz hR hd,YI];by_cases hw:(ob x.S d).Weak=0
 .rw[zb (by simpa using hw),Ir (Ws hR hd) (Wq hR hd),YI,Wj hR hd hw];rfl
 .rw[za (by simpa using hw)];show some (wS x (k2 x.S d))=_;rw[Wr hR hd hw]
theorem Di:∀(l:List Int) {x:Hp},SR x.S->SL x->SL (l.foldl ax x)
 | [],x,_,h=>h
 | v::l,x,hR,h=>Di l (x:=ax x v) (Ob hR v) (h.OU hR v)
theorem Df{y:Hp}(hR:SR y.S)(l:List Int)(hl:l.length<=1000000)(hb:∀v∈l,v<=9223372036854775807){K:Hp->Option Hp}:((lp (S:=Int × b9) (E:=b9) (λ((s35,s36):Int × b9)=>
     if (decide (s35<(l.length:Int))) then
      (ix l s35).bind λv39=>
      (D9 s36 v39).bind λv40=>
      some (.inl (w7 (s35+1),v40))
     else
     some (.inr s36)) (0,y)).bind K)=K (l.foldl ax y):=by
 have key:=U4 l ax id (λk z=>SR z.S) (b0:=y) (f:=λ((s35,s36):Int × b9)=>
     if (decide (s35<(l.length:Int))) then
      (ix l s35).bind λv39=>
      (D9 s36 v39).bind λv40=>
      some (Sum.inl (w7 (s35+1),v40))
     else
     some (.inr s36)) (by omega) hR (λk hk z hz=>?_) (λz hz=>by simp)
 .rw[key,YI];rfl
 .simp only[wp,hk,t6,wn,s7 hk,YI,fZ hz (hb _ (zh hk))];rw[n9];exact⟨rfl,Ob hz _⟩
theorem Mz(s:b6)(ds:List Int){k:Nat}(hk:k<ds.length):oi s (ds.take (k+1))=wq (oi s (ds.take k)) ds[k]:=by
 unfold oi;rw[U2 hk,zat];rfl
section
variable{y:Hp}(hR:SR y.S){ds:List Int}(hn:ds.Nodup)(hm:∀d∈ds,d∈lv y.S)
include hR hn hm
theorem yh{k:Nat}(hk:k<ds.length):SR (oi y.S (ds.take k))/\ds[k]∈lv (oi y.S (ds.take k)):=by
 have g:=eH (ds.take k) hR ((zb9 k ds).nodup hn) λd hd=>hm d (zaf hd);refine⟨g.sr,?_⟩;rw[g.lv,zk,zH];refine⟨hm _ (zh hk),λq=>?_⟩;rw[<-zbo k ds,zbu] at hn;exact hn.2.2 _ q ds[k] (by rw[List.drop_eq_getElem_cons hk];exact zf ..) rfl
theorem Kr(hl:ds.length<=1000){K:Hp->Option Hp}:((lp (S:=Int × b9) (E:=b9) (λ((s42,s43):Int × b9)=>
    if (decide (s42<(ds.length:Int))) then
     (ix ds s42).bind λv46=>
     (aS s43 v46).bind λv47=>
     some (.inl (w7 (s42+1),v47))
    else
    some (.inr s43)) (0,y)).bind K)=K (wS y (oi y.S ds)):=by
 have key:=jx (f:=λ((s42,s43):Int × b9)=>
    if (decide (s42<(ds.length:Int))) then
     (ix ds s42).bind λv46=>
     (aS s43 v46).bind λv47=>
     some (Sum.inl (w7 (s42+1),v47))
    else
    some (.inr s43)) (t0:=y) ds.length (λk z=>z=wS y (oi y.S (ds.take k))) (λz=>z=wS y (oi y.S ds)) (by omega) rfl ?_ ?_
 .obtain⟨e,h1,h2⟩:=key;rw[h1,YI,h2]
 .rintro k z hk rfl;left;obtain⟨h1,h2⟩:=yh hR hn hm hk;simp only[wp,hk,t6,wn,s7 hk,YI,Kt (x:=wS y (oi y.S (ds.take k))) h1 h2];rw[n9,Mz _ _ hk];exact⟨_,rfl,rfl⟩
 .rintro z rfl;exact⟨_,za (by simp),by rw[zQ]⟩
end
section
variable{x:Hp}(hx:J8 x){ds:List Int}(hn:ds.Nodup)(hm:∀d∈ds,d∈lv x.S)
include hx hn hm
theorem Gt:ds.length<=24:=zP (Y9 hn hm) (M0 (A0.2 hx.sh.sr))
theorem Il{d:Int}(hd:d∈lv x.S):(ob x.S d).Fields.length<=4:=(J7 hx.sh.sr hd).fl
theorem IW{d:Int}(hd:d∈lv x.S):(outs x.S d).length<=4:=zP (Nn _) (Il hx hn hm hd)
theorem uQ:∀(l:List Int),(∀d∈l,d∈lv x.S)->(l.flatMap (outs x.S)).length<=4*l.length
 | [],_=>by simp
 | d::l,h=>by
  rw[zba,zK,zI];have:=uQ l λe he=>h e (zl _ he);have:=IW hx hn hm (h d (zf ..));omega
theorem Rg:∀v∈ds.flatMap (outs x.S)++(lf x.T ds).2,v<=9223372036854775807:=λv hv=>by
 rcases zw.1 hv with q | q
 .obtain⟨d,hd,q⟩:=zab.1 q;obtain⟨q,_⟩:=fW.1 q;rcases hx.sh.fl d (hm d hd) v q with e | e
  .omega
  .exact qK hx.sh.sr e
 .by_cases h0:v=0
  .omega
  .have hl:=Gt hx hn hm;have h3:=(jU hx.sh.hr ds (by omega)).2.2.2.2.2 v;have h4:=iW.2 ⟨h0,q⟩;have h5:0<own x.T v:=by omega
   obtain⟨p,hp,hq⟩:=zbx.1 h5;have hq:(v != 0&&p.Val==v)=true:=hq;rw[zA,me] at hq;have:=(hx.sh.pr _ _ (ca.1 hp)).2;rw[hq.2] at this;exact qK hx.sh.sr this
theorem NF:(ds.flatMap (outs x.S)++(lf x.T ds).2).length<=200:=by
 have hl:=Gt hx hn hm;have h1:=uQ hx hn hm ds hm;have h2:=(jU hx.sh.hr ds (by omega)).2.2.1;rw[zK];omega
theorem HY(hq:(x.Q.L++jm x.b7 ds).length<=30){l:List Int}(h1:Z2 x l=some ds):bO x l=some (gH x ds):=by
 have hl:=Gt hx hn hm;have hR:=hx.sh.sr;obtain⟨w1,w2,w3,w4,w5,w6⟩:=jU hx.sh.hr ds (by omega);have ol:=NF hx hn hm;have fl:=uQ hx hn hm ds hm;unfold bO;rw[h1,YI,Gl (by have:=hx.sh.c6;omega) (by omega) hq hx.sh.cap,YI];simp only[jn];have key:=U4 ds (λb d=>b++outs x.S d) id (λk b=>b.length<=4*k) (b0:=[]) (f:=λ((s49,s50):Int × (List Int))=>
   if (decide (s49<(ds.length:Int))) then
    (ix ds s49).bind λv53=>
    (x6 (Lh x ds).S v53).bind λv54=>
    (ji v54.1.Fields).bind λv55=>
    (app 8 s50 v55).bind λv56=>
    some (Sum.inl (w7 (s49+1),v56))
   else
   some (.inr s50)) (by omega) (by simp) (λk hk b hb=>?_) (λb hb=>by simp)
 .rw[key,YI,rp,zci];dsimp only[id];rw[show (Lh x ds).T=x.T from rfl,w1,YI];have ol2:=ol;rw[zK] at ol2;rw[K3 (by omega) (by omega),YI];have k1:=Kr (y:=⟨(Lh x ds).S,(Lh x ds).Roots,(Lh x ds).b7,(lf x.T ds).1,(Lh x ds).Q⟩) hR hn hm (by omega) (K:=λe=>(lp (S:=Int × b9) (E:=b9) (λ((s35,s36):Int × b9)=>
     if (decide (s35<((ds.flatMap (outs x.S)++(lf x.T ds).2).length:Int))) then
      (ix (ds.flatMap (outs x.S)++(lf x.T ds).2) s35).bind λv39=>
      (D9 s36 v39).bind λv40=>
      some (.inl (w7 (s35+1),v40))
     else
     some (.inr s36)) (0,e)).bind λe34=>some e34)
  refine zcu k1 ?_;have g:=eH ds hR hn hm;have k2:=Df (y:=wS (⟨(Lh x ds).S,(Lh x ds).Roots,(Lh x ds).b7,(lf x.T ds).1,(Lh x ds).Q⟩:Hp) (oi x.S ds)) g.sr _ (by omega) (Rg hx hn hm) (K:=λe34=>some e34);refine zcu k2 ?_;rfl
 .have hd:=hm _ (zh hk);have f4:=Il hx hn hm hd;have o4:=IW hx hn hm hd;simp only[wp,hk,t6,wn,s7 hk,YI,show (Lh x ds).S=x.S from rfl,xY hR hd,EI _ (by omega:(ob x.S ds[k]).Fields.length<=1000000)];have e:nz (ob x.S ds[k]).Fields=outs x.S ds[k]:=rfl;rw[e,K3 (by omega) (by omega),YI,n9];exact⟨rfl,by rw[zK];omega⟩
end
theorem PS{x:Hp}(hR:SR x.S)(hS:SL x){ds:List Int}(hn:ds.Nodup)(hm:∀d∈ds,d∈lv x.S)(t:Tb):SL (jl x ds t):=λk hk=>by
 have g:=eH ds hR hn hm;have hk:k∈lv (oi x.S ds):=hk;rw[g.lv,zk,zH] at hk;have e:ob (jl x ds t).S k=ob x.S k:=g.ob k hk.1 hk.2;rw[e];exact hS k hk.1
theorem LM{x:Hp}(hR:SR x.S)(hS:SL x){ds:List Int}(hn:ds.Nodup)(hm:∀d∈ds,d∈lv x.S):SL (gH x ds):=
 Di _ (x:=jl x ds (lf x.T ds).1) (eH ds hR hn hm).sr (PS hR hS hn hm _)
theorem NV{x:Hp}(hR:SR x.S)(hS:SL x){h:Int}(hh:h∈lv x.S):SL (gC x h):=by
 have hok:=Ju hR hh;have r1:=bN (o:=fz (ob x.S h)) hR hh rfl hok;refine SL.E5 (x:=⟨cT x.S h (fz (ob x.S h)),x.Roots,x.b7,x.T,⟨x.Q.L ++ [Au x h],x.Q.Cap⟩⟩) (λk hk=>?_) r1 h;dsimp only at hk |-;rw[iA (o:=fz (ob x.S h)) hR hh rfl hok] at hk;rw[ga (o:=fz (ob x.S h)) hR hh rfl hok (qK hR hk)];split;·exact hS h hh
 .exact hS k hk
theorem Vr{x:Hp}(hx:J8 x)(hS:SL x):SL (FQ x):=by
 cases h:zr x with
 | nil=>rw[ny h];exact hS
 | cons z l=>
  have hz:=(cS.1 (show z∈zr x by rw[h];exact zf ..)).1;rw[jQ h];split;·exact NV hx.sh.sr hS hz
  .exact LM hx.sh.sr hS (by simp) (by simpa using hz)
theorem Ho{x:Hp}(hx:J8 x)(hS:SL x)(n:Nat):SL (oe n x):=by
 induction n with
 | zero=>exact hS
 | succ n ih=>rw[fA];exact Vr (P6 hx n) ih
theorem Jt{x:Hp}(hx:J8 x)(hS:SL x):SL (bu x):=Ho hx hS 100
section
variable{x:Hp}(hx:J8 x)(hS:SL x)
include hx hS
theorem Lg{z:Int}(hz:z∈zr x):(x.Q.L++jm x.b7 [z]).length<=30:=by
 have h1:=(Ao hx hz).sh.q30;have hzl:=(cS.1 hz).1;rw[(sj hx.sh.sr (ds:=[z]) (by simp) (by simpa using hzl)).2.2.2] at h1;exact h1
theorem KQ(h:zr x = []):((dW x).bind λv4=>
  if ((v4.length:Int)==0) then
   some (Sum.inr x)
  else
  (ix v4 0).bind λv5=>
  (x6 x.S v5).bind λv6=>
  (O7 v6.1).bind λv7=>
  if v7 then
   (W6 x v5).bind λv8=>
   some (.inl v8)
  else
  (cut v4 0 1).bind λv9=>
  (bO x v9).bind λv10=>
  some (Sum.inl (α:=Hp) (β:=Hp) v10))=some (.inr x):=by
 rw[zero_eq hx.sh.sr,YI,h];rfl
theorem XF(z:Int)(l:List Int):cut (z::l) 0 1=some [z]:=by
 unfold cut;rw[zb (by simp;omega)];simp
theorem Hg(h:zr x ≠ []):((dW x).bind λv4=>
  if ((v4.length:Int)==0) then
   some (Sum.inr x)
  else
  (ix v4 0).bind λv5=>
  (x6 x.S v5).bind λv6=>
  (O7 v6.1).bind λv7=>
  if v7 then
   (W6 x v5).bind λv8=>
   some (.inl v8)
  else
  (cut v4 0 1).bind λv9=>
  (bO x v9).bind λv10=>
  some (Sum.inl (α:=Hp) (β:=Hp) v10))=some (.inl (FQ x)):=by
 cases hz:zr x with
 | nil=>exact absurd hz h
 | cons z l=>
  have hzm:z∈zr x:=by rw[hz];exact zf ..
  have hzl:=(cS.1 hzm).1;have hR:=hx.sh.sr;rw[zero_eq hR,YI,hz,za (by simp;omega),show ix (z::l) 0=some z from rfl,YI,xY hR hzl,YI,IZ,YI,jQ hz];by_cases hd:due (ob x.S z)=true
  .rw[zb hd,zb hd,BH hx hS (qK hR hzl),YI];unfold Xy;rw[zb ⟨hzl,hd⟩]
  .rw[za hd,za hd,XF hx hS,YI,HY hx (ds:=[z]) (by simp) (by simpa using hzl) (Lg hx hS hzm) (by rw[tt hR [z] (by simp) (by simpa using qK hR hzl),MV hzl]),YI]
theorem jf:R1 x=some (bu x):=by
 obtain⟨n,hn,h1,h2,h3⟩:=vu hx;unfold R1;refine jy (λj=>oe j x) rfl n (λ_=>True) (by omega) trivial (λk hk _=>.inl ⟨?_,trivial⟩) (λ_=>⟨oe n x,?_,by rw[h3]⟩)
 .have:=Hg (P6 hx k) (Ho hx hS k) (h2 k hk);rw[<-fA] at this;exact this
 .exact KQ (P6 hx n) (Ho hx hS n) h1
end
def P0(n l m e:Int):Int:=if n<l\/n > m then e else 0
def cC(a b c:Int):Int:=if a≠0 then a else if b≠0 then b else c
def x8(k a b c:Int):Int:=
 if k=1 then cC (P0 a 0 5 6) (P0 b 0 4 1) (P0 c (-1) 5 13)
 else if k=2\/k=9\/k=10 then cC (P0 a 0 5 6) (P0 b 0 5 6) 0
 else if k=3 then P0 a 0 5 6
 else if k=4 then cC (P0 a 0 5 6) (P0 b 0 5 6) (P0 c 0 3 5)
 else if k=5 then cC (P0 a 0 5 6) (P0 b 0 3 5) (P0 c (-1) 5 6)
 else if k=6 then cC (P0 a 0 5 7) (P0 b (-1) 5 6) (P0 c (-1) 5 13)
 else if k=7 then cC (P0 a 0 5 6) (P0 b 0 5 7) 0
 else if k=8 then cC (P0 a 0 5 6) (P0 b (-1) 5 6) 0
 else if k=11 then 0
 else if k=12 then P0 a 0 200 12
 else 14
def Dd:l5:=⟨some 251,0,5,6⟩
def Rq:l5:=⟨some 252,0,5,6⟩
def WG:l5:=⟨some 252,-1,5,6⟩
def WN:l5:=⟨some 254,-1,5,13⟩
def vH:List (Int × List l5):=[(1,[Dd,⟨some 252,0,4,1⟩,WN]),(2,[Dd,Rq]),(3,[Dd]),(4,[Dd,Rq,⟨some 254,0,3,5⟩]),
 (5,[Dd,⟨some 252,0,3,5⟩,⟨some 254,-1,5,6⟩]),(6,[⟨some 251,0,5,7⟩,WG,WN]),(7,[Dd,⟨some 252,0,5,7⟩]),(8,[Dd,WG]),(9,[Dd,Rq]),(10,[Dd,Rq]),(11,[]),(12,[⟨some 251,0,200,12⟩])]
theorem Gs:mF=some vH:=by kernel_rfl
def gU(o:g8)(d:l5):Int:=if d.part=some 251 then o.A else if d.part=some 252 then o.B else o.C
def qy(o:g8)(d:l5):Bool:=decide (gU o d<d.least)||decide (gU o d > d.most)
def sN(o:g8):List l5->Int ⊕ Unit
 | []=>.inr ()
 | d::ds=>if qy o d then .inl d.e else sN o ds
theorem Eh(o:g8)(d:l5)(ds:List l5):sN o (d::ds)=if qy o d then .inl d.e else sN o ds:=rfl
def Hx(d:l5):Prop:=d.part=some 251\/d.part=some 252\/d.part=some 254
theorem UM(o:g8){d:l5}(h:Hx d):sQ d.part o=some (gU o d):=by
 unfold gU;rcases h with h | h | h
 .rw[h];rfl
 .rw[h];rfl
 .rw[h];rfl
theorem Ug(o:g8)(ds:List l5)(hl:ds.length<=10)(hp:∀d∈ds,Hx d):lp (S:=Int) (E:=Int ⊕ Unit) (λ(s11:Int)=>
   if (decide (s11<(ds.length:Int))) then
    (ix ds s11).bind λv13=>
    (sQ v13.part o).bind λv14=>
    if ((decide (v14<v13.least))||(decide (v14 > v13.most))) then
     some (.inr (.inl v13.e))
    else
    some (.inl (w7 (s11+1)))
   else
   some (.inr (.inr ()))) 0=some (sN o ds):=by
 refine ud (Bv ds.length (λk=>sN o ds=sN o (ds.drop k)) (λe=>e=sN o ds) (by omega) rfl (λk hk hP=>?_) (λhP=>?_))
 .rw[zb (by simpa using hk),s7 hk,YI,UM o (hp _ (zh hk)),YI];rw[List.drop_eq_getElem_cons hk,Eh] at hP;by_cases c:qy o ds[k]=true
  .rw[zb (show ((decide (gU o ds[k]<ds[k].least))||(decide (gU o ds[k] > ds[k].most)))=true from c)];rw[zb c] at hP;exact .inr ⟨_,rfl,hP.symm⟩
  .rw[za (show ¬((decide (gU o ds[k]<ds[k].least))||(decide (gU o ds[k] > ds[k].most)))=true from c),n9];rw[za c] at hP;exact .inl ⟨rfl,hP⟩
 .rw[List.drop_length] at hP;exact⟨_,za (by simp),hP.symm⟩
theorem Qh:∀p∈vH,p.2.length<=10/\∀d∈p.2,Hx d:=by
 have:vH.all (λp=>decide (p.2.length<=10)&&p.2.all λd=>(d.part==some 251)||(d.part==some 252)||(d.part==some 254))=true:=by kernel_rfl
 intro p hp;have:=zg.1 this p hp;rw[zA,zH,zg] at this;refine⟨this.1,λd hd=>?_⟩;have:=this.2 d hd;simp only[zbv,me] at this;unfold Hx;rcases this with (h | h) | h
 .exact .inl h
 .exact .inr (.inl h)
 .exact .inr (.inr h)
theorem IK{m:List (Int × List l5)}{k:Int}{v:List l5}(h:y9 m k=some v):(k,v)∈m:=by
 induction m with
 | nil=>cases h
 | cons p m ih=>
  unfold y9 at h;split at h
  .rename_i c;have:k=p.1:=by simpa using c
   cases h;subst this;exact zf ..
  .exact zl _ (ih h)
def uk(o:g8)(ds:List l5):Int:=match sN o ds with
 | .inl e=>e
 | .inr _=>0
theorem RW(o:g8):uk o []=0:=rfl
theorem um(o:g8)(d:l5)(ds:List l5):uk o (d::ds)=if qy o d then d.e else uk o ds:=by
 unfold uk;rw[Eh];cases qy o d <;> rfl
theorem CC(o:g8)(d:l5):P0 (gU o d) d.least d.most d.e=if qy o d then d.e else 0:=by
 unfold P0 qy;by_cases h:gU o d<d.least\/gU o d > d.most
 .rw[zb h,zb (by simpa using h)]
 .rw[za h,za (by simpa using h)]
theorem RU(o:g8)(d:l5):uk o [d]=P0 (gU o d) d.least d.most d.e:=by rw[um,RW,CC]
theorem OF(o:g8)(d e:l5)(h1:d.e≠0):uk o [d,e]=cC (P0 (gU o d) d.least d.most d.e) (P0 (gU o e) e.least e.most e.e) 0:=by
 rw[um,RU,CC o d];unfold cC;cases qy o d
 .simp only[zD,qr,ne_eq,not_true_eq_false];split;·rfl
  .rename_i h;simpa using h
 .simp[h1]
theorem RV(o:g8)(d e f:l5)(h1:d.e≠0)(h2:e.e≠0):uk o [d,e,f]=cC (P0 (gU o d) d.least d.most d.e) (P0 (gU o e) e.least e.most e.e) (P0 (gU o f) f.least f.most f.e):=by
 rw[um,um,RU,CC o d,CC o e];unfold cC;cases qy o d <;> cases qy o e <;> simp[h1,h2]
theorem MQ(o:g8):(match y9 vH o.Kind with
  | none=>14
  | some ds=>uk o ds)=x8 o.Kind o.A o.B o.C:=by
 obtain⟨k,a,b,c⟩:=o;dsimp only;by_cases h:1<=k/\k<=12
 .have:k=1\/k=2\/k=3\/k=4\/k=5\/k=6\/k=7\/k=8\/k=9\/k=10\/k=11\/k=12:=by omega
  rcases this with rfl | rfl | rfl | rfl | rfl | rfl | rfl | rfl | rfl | rfl | rfl | rfl
  .exact RV _ _ _ _ (by decide) (by decide)
  .exact OF _ _ _ (by decide)
  .exact RU _ _
  .exact RV _ _ _ _ (by decide) (by decide)
  .exact RV _ _ _ _ (by decide) (by decide)
  .exact RV _ _ _ _ (by decide) (by decide)
  .exact OF _ _ _ (by decide)
  .exact OF _ _ _ (by decide)
  .exact OF _ _ _ (by decide)
  .exact OF _ _ _ (by decide)
  .rfl
  .exact RU _ _
 .have e:y9 vH k=none:=by
   cases hm:y9 vH k with
   | none=>rfl
   | some v=>
    have:=IK hm;simp only[vH,zN,Prod.mk.injEq,zcn,or_false] at this;omega
  rw[e];unfold x8;repeat rw[za (by omega)]
theorem ov(o:g8):V8 o=some (x8 o.Kind o.A o.B o.C):=by
 rw[<-MQ];unfold V8;rw[Gs,YI];cases h:y9 vH o.Kind with
 | none=>rfl
 | some ds=>
  obtain⟨h1,h2⟩:=Qh _ (IK h);rw[za (by simp)];simp only[jn,ul];rw[Ug o ds h1 h2,YI];unfold uk;cases sN o ds <;> rfl
theorem Qv(n l m e:Int):dI n l m e=some (P0 n l m e):=by
 unfold dI P0;by_cases h:n<l\/n > m
 .rw[zb h,zb (by simpa using h)]
 .rw[za h,za (by simpa using h)]
theorem Ms(a b c:Int):cp a b c=some (cC a b c):=by
 unfold cp cC;by_cases h:a=0
 .by_cases g:b=0
  .rw[za (by simpa using h),za (by simpa using g),za (by simpa using h),za (by simpa using g)]
  .rw[za (by simpa using h),zb (by simpa using g),za (by simpa using h),zb (by simpa using g)]
 .rw[zb (by simpa using h),zb (by simpa using h)]
theorem Ib(o:fm):fY o=some (x8 o.Kind o.A o.B o.C):=by
 unfold fY x8;simp only[Qv,Ms,YI,jn];by_cases h:1<=o.Kind/\o.Kind<=12
 .have:o.Kind=1\/o.Kind=2\/o.Kind=3\/o.Kind=4\/o.Kind=5\/o.Kind=6\/o.Kind=7\/o.Kind=8\/o.Kind=9\/o.Kind=10\/o.Kind=11\/o.Kind=12:=by omega
  rcases this with h | h | h | h | h | h | h | h | h | h | h | h <;> rw[h] <;> rfl
 .have n:∀j:Int,1<=j->j<=12->(o.Kind==j)=false:=λj h1 h2=>by
   rw[beq_eq_false_iff_ne];omega
  simp only[n 1 (by omega) (by omega),n 2 (by omega) (by omega),n 3 (by omega) (by omega),n 4 (by omega) (by omega),n 5 (by omega) (by omega),n 6 (by omega) (by omega),n 7 (by omega) (by omega),n 8 (by omega) (by omega),n 9 (by omega) (by omega),n 10 (by omega) (by omega),n 11 (by omega) (by omega),n 12 (by omega) (by omega),zD,qr];repeat rw[za (by omega)]
theorem Rz{x:Hp}(hx:J8 x){ds:List Int}:(x.Q.L++jm x.b7 ds).length<=30:=by
 have hS:=hx.sh;have c6:=hS.c6;have h24:(lv x.S).length<=24:=M0 (A0.2 hS.sr);have htd:(x.Q.L++jm x.b7 ds).Pairwise λa b=>¬(a.Kind=b.Kind/\a.At=b.At):=by
  rw[zau];refine⟨hS.td,Bc ..,λa ha b hb q=>?_⟩;obtain⟨w,hw,rfl,hh,_⟩:=gy.1 hb;have hi:x.b7[w].Intact=true:=by
   unfold iJ at hh;rw[zA,zA] at hh;exact hh.1.1
  have:=((hS.cl w hw).2.2.2.2 hi).2;rw[zbk] at this;exact this (gG.2 ⟨a,ha,q.1,q.2⟩)
 have:=yZ (m:=lv x.S) htd λt ht=>by
  rcases zw.1 ht with q | q
  .rcases (hS.tk t q).2.2 with c | c
   .exact .inl ⟨c.1,c.2.1⟩
   .exact .inr c
  .obtain⟨w,hw,rfl,_,_⟩:=gy.1 q;exact .inr ⟨rfl,by dsimp only;omega,by dsimp only;omega⟩
 omega
section
variable{x:Hp}(hB:HB x)
include hB
end
structure DN (x y:Hp):Prop where
 lv:∀h∈lv y.S,h∈lv x.S
 bg:y.S.Serial=x.S.Serial
 len:y.S.S.b7.length=x.S.S.b7.length
 ob:∀h∈Sh.lv y.S,(ob y.S h).Serial=(ob x.S h).Serial/\(Sh.ob y.S h).Prog=(Sh.ob x.S h).Prog/\(Sh.ob y.S h).Fields=(Sh.ob x.S h).Fields/\((Sh.ob x.S h).Started=true->(Sh.ob y.S h).Started=true)
 rt:y.Roots=x.Roots
 cn:y.b7.length=x.b7.length
 cl:∀i (h:i<y.b7.length) (h':i<x.b7.length),y.b7[i]=⟨x.b7[i].Target,x.b7[i].Intact&&decide (x.b7[i].Target∈Sh.lv y.S),x.b7[i].Call⟩
 q:∃l,y.Q=⟨x.Q.L++l,x.Q.Cap⟩/\(∀t∈l,t.Kind=1->t.At∈Sh.lv x.S/\(Sh.ob x.S t.At).Started=false)/\∀h∈Sh.lv y.S,(Sh.ob y.S h).Started=true->(Sh.ob x.S h).Started=false->∃t∈l,t.Kind=1/\t.At=h
 rc:∀h,aU x.S x.T (nZ x) h->aU y.S y.T (nZ y) h
 has:∀k v,Has y.T k v->Has x.T k v
theorem DN.refl{x:Hp}(hx:kc x):DN x x:=by
 refine⟨λ_ h=>h,rfl,rfl,λh _=>⟨rfl,rfl,rfl,id⟩,rfl,rfl,λi h h'=>?_,⟨[],by simp,by simp,λh _ a b=>?_⟩,λ_ h=>h,λ_ _ h=>h⟩
 .have:=(hx.cl i h).2.2.2.2;cases hI:x.b7[i].Intact;·rw[Bool.false_and,<-hI]
  .rw[zC (this hI).1,Bool.and_self,<-hI]
 .rw[a] at b;cases b
theorem DN.trans{x y z:Hp}(a:DN x y)(b:DN y z):DN x z:=by
 obtain⟨l1,q1,q2,q3⟩:=a.q;obtain⟨l2,r1,r2,r3⟩:=b.q;refine⟨λh hh=>a.lv h (b.lv h hh),b.bg.trans a.bg,b.len.trans a.len,λh hh=>?_,b.rt.trans a.rt,b.cn.trans a.cn,λi h h'=>?_,⟨l1++l2,?_,λt ht hk=>?_,λh hh s1 s2=>?_⟩,λh hh=>b.rc h (a.rc h hh),λk v hh=>a.has k v (b.has k v hh)⟩
 .obtain⟨b1,b2,b3,b4⟩:=b.ob h hh;obtain⟨a1,a2,a3,a4⟩:=a.ob h (b.lv h hh);exact⟨b1.trans a1,b2.trans a2,b3.trans a3,λq=>b4 (a4 q)⟩
 .have hy:i<y.b7.length:=by rw[a.cn];exact h'
  rw[b.cl i h hy,a.cl i hy h'];dsimp only;congr 1;rw[Bool.and_assoc];congr 1;by_cases q:x.b7[i].Target∈Sh.lv z.S
  .rw[zC q,zC (b.lv _ q)];rfl
  .rw[zY q,Bool.and_false]
 .rw[r1,q1,zai]
 .rcases zw.1 ht with q | q
  .exact q2 t q hk
  .obtain⟨e1,e2⟩:=r2 t q hk;refine⟨a.lv _ e1,?_⟩;cases hs:(Sh.ob x.S t.At).Started;·rfl
   .rw[(a.ob _ e1).2.2.2 hs] at e2;cases e2
 .cases hs:(Sh.ob y.S h).Started
  .obtain⟨t,ht,e⟩:=r3 h hh s1 hs;exact⟨t,t7 _ ht,e⟩
  .obtain⟨t,ht,e⟩:=q3 h (b.lv h hh) hs s2;exact⟨t,ut _ ht,e⟩
theorem Jr(s:b6)(h:Int)(o:n7):(cT s h o).S.b7.length=s.S.b7.length:=J1 ..
theorem Rn{x:Hp}(hx:J8 x){z:Int}(hz:z∈lv x.S)(hs:(ob x.S z).Started=false):DN x (gC x z):=by
 have hR:=hx.sh.sr;obtain⟨k,e1,e2,e3,e4⟩:=nf hR hz;have l1:=CZ hR hz;have hob:∀h∈lv x.S,(ob (gC x z).S h).Serial=(ob x.S h).Serial/\(ob (gC x z).S h).Prog=(ob x.S h).Prog/\(ob (gC x z).S h).Fields=(ob x.S h).Fields/\((ob (gC x z).S h).Started=true↔(ob x.S h).Started=true\/h=z):=λh hh=>by
  obtain⟨n,e⟩:=yz hR hz hh;rw[e];by_cases q:h=z
  .subst q;rw[zb rfl];exact⟨rfl,rfl,rfl,by simp⟩
  .rw[za q];exact⟨rfl,rfl,rfl,by simp[q]⟩
 have hot:∀h∈nZ x,h∈nZ (gC x z):=λh hh=>by
  unfold nZ at hh |-;rw[e1,e4];rcases zw.1 hh with q | q
  .exact ut _ q
  .refine t7 _ ?_;obtain⟨t,ht,a,b⟩:=jA.1 q;exact jA.2 ⟨t,ut _ ht,a,b⟩
 have rf:=DN.refl hx.sh;refine⟨λh hh=>by rw[l1] at hh;exact hh,k.bg,k.len.trans (Jr ..),λh hh=>?_,e1,by rw[e2],λi h h'=>?_,⟨[Au x z],by rw[e4],λt ht hk=>?_,λh hh s1 s2=>?_⟩,λh hh=>?_,λk v hh=>by rw[e3] at hh;exact hh⟩
 .rw[l1] at hh;obtain⟨a,b,c,d⟩:=hob h hh;exact⟨a,b,c,λq=>d.2 (.inl q)⟩
 .have e5:(gC x z).b7[i]=x.b7[i]:=by simp only[e2]
  rw[e5,l1];exact rf.cl i h' h'
 .rw[zt] at ht;subst ht;exact⟨hz,hs⟩
 .rw[l1] at hh;rcases (hob h hh).2.2.2.1 s1 with q | q
  .rw[q] at s2;cases s2
  .exact⟨Au x z,List.mem_singleton_self _,rfl,q.symm⟩
 .induction hh with
  | base h1 h2=>exact .base (hot _ h1) (by rw[l1];exact h2)
  | step h0 h1 h2 ih=>
   refine .step ih ?_ (by rw[l1];exact h2);unfold outs at h1 |-;rw[(hob _ h0.live).2.2.1];exact h1
  | pair h1 h0 h2 ih=>exact .pair (by rw[e3];exact h1) ih (by rw[l1];exact h2)
theorem PT{x:Hp}(hx:J8 x){z:Int}(hz:z∈zr x):DN x (gH x [z]):=by
 have hR:=hx.sh.sr;have hzl:=(cS.1 hz).1;have h0:z≠0:=λe=>eP hR (e▸hzl);have hfree:=DH hx hz;have hn:([z]:List Int).Nodup:=by simp
 have hm:∀d ∈ [z],d∈lv x.S:=by simpa using hzl
 have g:=eH [z] hR hn hm;have k:=(gX ([z].flatMap (outs x.S)++(lf x.T [z]).2) (x:=jl x [z] (lf x.T [z]).1) g.sr).1;obtain⟨e1,e2,e3,e4⟩:=sj hR hn hm;obtain⟨_,w2,_,_,w5,w6⟩:=jU hx.sh.hr [z] (by simp);have l1:∀h,h∈lv (gH x [z]).S↔h∈lv x.S/\h≠z:=λh=>by
  rw[Gf hR hn hm,zk,zH,zt]
 have hob:∀h∈lv (gH x [z]).S,(ob (gH x [z]).S h).Serial=(ob x.S h).Serial/\(ob (gH x [z]).S h).Prog=(ob x.S h).Prog/\(ob (gH x [z]).S h).Fields=(ob x.S h).Fields/\(ob (gH x [z]).S h).Started=(ob x.S h).Started:=λh hh=>by
  obtain⟨a,b⟩:=(l1 h).1 hh;obtain⟨n,e⟩:=Gg hR hn hm a (by simpa using b);rw[e];exact⟨rfl,rfl,rfl,rfl⟩
 refine⟨λh hh=>((l1 h).1 hh).1,k.bg.trans g.bg,k.len.trans g.len,λh hh=>?_,e1,by rw[e2];simp[lk],λi h h'=>?_,⟨jm x.b7 [z],by rw[e4],λt ht hk=>?_,λh hh s1 s2=>?_⟩,λh hh=>?_,λk v hh=>?_⟩
 .obtain⟨a,b,c,d⟩:=hob h hh;exact⟨a,b,c,λq=>d.trans q⟩
 .have e5:(gH x [z]).b7[i]=qX [z] x.b7[i]:=by
   simp only[e2];exact q9 _
  rw[e5];have hc:=(hx.sh.cl i h').2.2.2.2;unfold qX iJ;cases hI:x.b7[i].Intact;·rw[za (by simp),Bool.false_and,<-hI]
  .have ht:=(hc hI).1;have ht0:x.b7[i].Target≠0:=λe=>eP hR (e▸ht);by_cases q:x.b7[i].Target=z
   .rw[zb (by simp[q,h0]),zY (λr=>((l1 _).1 r).2 q)];rfl
   .rw[za (by simp[q]),zC ((l1 _).2 ⟨ht,q⟩),Bool.and_self,<-hI]
 .obtain⟨w,hw,rfl,_,_⟩:=gy.1 ht;simp at hk
 .rw[(hob h hh).2.2.2,s2] at s1;cases s1
 .unfold lH at hfree;have key:aU (gH x [z]).S (gH x [z]).T (nZ (gH x [z])) h/\h≠z:=by
   induction hh with
   | base h1 h2=>
    rename_i a;have hne:a≠z:=λe=>by
     subst e;exact Fy h0 (by omega:J3 (nZ x) a=0) h1
    refine⟨.base ?_ ((l1 _).2 ⟨h2,hne⟩),hne⟩;unfold nZ at h1 |-;rw[e1,e4,ya _ _ _ λt ht=>by
     obtain⟨w,_,rfl,_⟩:=gy.1 ht;simp]
    exact h1
   | step q0 q1 q2 ih=>
    rename_i a b;have hne:b≠z:=λe=>by
     subst e;have:=CE (y:=b) q0.live;have h1:=iW.2 ⟨h0,q1⟩;omega
    refine⟨.step ih.1 ?_ ((l1 _).2 ⟨q2,hne⟩),hne⟩;unfold outs at q1 |-;rw[(hob _ ((l1 _).2 ⟨q0.live,ih.2⟩)).2.2.1];exact q1
   | pair q1 q0 q2 ih=>
    rename_i a b;have hne:b≠z:=λe=>by
     subst e;have:=CU q1 h0;omega
    exact⟨.pair (by rw[e3];exact (w5 _ _).2 ⟨by simpa using ih.2,q1⟩) ih.1 ((l1 _).2 ⟨q2,hne⟩),hne⟩
  exact key.1
 .rw[e3] at hh;exact ((w5 _ _).1 hh).2
theorem RL{x:Hp}(hx:J8 x):DN x (FQ x):=by
 cases h:zr x with
 | nil=>rw[ny h];exact DN.refl hx.sh
 | cons z l=>
  have hz:z∈zr x:=by rw[h];exact zf ..
  rw[jQ h];split
  .rename_i q;unfold due at q;rw[zA,zH,zb8] at q;exact Rn hx (cS.1 hz).1 q.2
  .exact PT hx hz
theorem RJ{x:Hp}(hx:J8 x)(n:Nat):DN x (oe n x):=by
 induction n with
 | zero=>exact DN.refl hx.sh
 | succ n ih=>rw[fA];exact ih.trans (RL (P6 hx n))
theorem lU{x:Hp}(hx:J8 x):DN x (bu x):=RJ hx 100
theorem IF{T E R:Type}{f:T × Int->Option ((T × Int) ⊕ E)}{t0:T}{κ:E->Option R}{r:R}(n:Nat)(P:Nat->T->Prop)(hn:n<4611686018427387904)(h0:P 0 t0)
  (hs:∀k t,k<n->P k t->∃t',f (t,(k:Int))=some (.inl (t',((k+1:Nat):Int)))/\P (k+1) t')(he:∀t,P n t->∃e,f (t,(n:Int))=some (.inr e)/\κ e=some r):(lp f (t0,0)).bind κ=some r:=by
 refine QG (λ(s:T × Int)=>∃k:Nat,s.2=(k:Int)/\k<=n/\P k s.1) (λs=>n-s.2.toNat) ⟨0,rfl,zV _,h0⟩ (by show n-_<_;omega) ?_;rintro⟨t,_⟩ ⟨k,rfl,hk,hP⟩;rcases zE k n with h1 | h1
 .obtain⟨t',k1,k2⟩:=hs k t h1 hP;exact .inl ⟨_,k1,⟨k+1,rfl,h1,k2⟩,by show n-_<n-_;simp;omega⟩
 .have:k=n:=by omega
  subst this;exact .inr (he t hP)
section
variable{x:Hp}(hB:HB x)
include hB
end
structure Ks (s s':b6):Prop where
 sr:SR s'
 bg:s'.Serial=s.Serial
 lv:lv s'=lv s
 ob:∀h∈Sh.lv s,(ob s' h).Serial=(ob s h).Serial
theorem Ks.refl{s:b6}(hR:SR s):Ks s s:=⟨hR,rfl,rfl,λ_ _=>rfl⟩
theorem Ks.trans{a b c:b6}(h:Ks a b)(q:Ks b c):Ks a c:=⟨q.sr,q.bg.trans h.bg,q.lv.trans h.lv,λk hk=>(q.ob k (by rw[h.lv];exact hk)).trans (h.ob k hk)⟩
theorem vE.ks{s s':b6}(hR:SR s)(k:vE s s'):Ks s s':=⟨k.sr,k.bg,k.lv,λh hh=>by
 obtain⟨n,e⟩:=k.ob h (by have:=H5 hR hh;omega);rw[e]⟩
theorem Kn.ks{s s':b6}(k:Kn s s')(e:s'.Serial=s.Serial):Ks s s':=⟨k.sr,e,k.lv,λh hh=>by
 obtain⟨n,m,e⟩:=k.ob h hh;rw[e]⟩
theorem Vh{s:b6}(hR:SR s){h:Int}(hh:h∈lv s){o:n7}(hs:o.Serial=(ob s h).Serial)(ho:Ap s o):Ks s (cT s h o):=⟨bN hR hh hs ho,rfl,iA hR hh hs ho,λk hk=>by
 rw[ga hR hh hs ho (by have:=H5 hR hk;omega)];split;·rename_i e;subst e;exact hs
 .rfl⟩
theorem Dm{x:Hp}(hR:SR x.S)(h:Int):Ks x.S (E5 x h).S:=(H7 hR h λc=>E4).ks hR
theorem Dj{x:Hp}(hR:SR x.S)(h:Int):Ks x.S (ax x h).S:=(H7 hR h λc=>P3).ks hR
theorem yI(x:Hp)(h:Int):(ax x h).Roots=x.Roots/\(ax x h).b7=x.b7/\(ax x h).T=x.T/\(ax x h).Q=x.Q:=yU x h kR
theorem dc{x:Hp}(hR:SR x.S)(r:Nat)(h:Int):Ks x.S (G0 x r h).S:=
 (Dm hR h).trans (Dj (x:=wR (E5 x h) (x.Roots.set r h)) (jN hR h) _)
theorem Bg{x:Hp}(hR:SR x.S){h:Int}(hh:h∈lv x.S){n:Nat}(hn:n<(ob x.S h).Fields.length)(v:Int):Ks x.S (bD x h n v).S:=by
 have k1:=Dm hR v;have hh1:h∈lv (E5 x v).S:=by rw[k1.lv];exact hh
 have hof:(ob (E5 x v).S h).Fields=(ob x.S h).Fields:=by
  obtain⟨n,e⟩:=(H7 hR v (f:=Y5) λc=>E4).ob h (by have:=H5 hR hh;omega);show (ob (ue x v Y5).S h).Fields=_;rw[e]
 have ho:Ap (E5 x v).S (rm (ob (E5 x v).S h) ((ob x.S h).Fields.set n v)):=by
  have:=J7 k1.sr hh1;refine⟨this.s1,this.s2,this.st,this.wk,this.p1,this.p2,?_⟩;have h4:=this.fl;rw[hof] at h4;simpa using h4
 have k2:=Vh (o:=rm (ob (E5 x v).S h) ((ob x.S h).Fields.set n v)) k1.sr hh1 rfl ho;exact (k1.trans k2).trans (Dj (x:=wS (E5 x v) (cT (E5 x v).S h (rm (ob (E5 x v).S h) ((ob x.S h).Fields.set n v)))) k2.sr _)
theorem oE(x:Hp)(h:Int)(n:Nat)(v:Int):(bD x h n v).Roots=x.Roots/\(bD x h n v).b7=x.b7/\(bD x h n v).T=x.T/\(bD x h n v).Q=x.Q:=by
 obtain⟨a,b,c,d⟩:=yI (wS (E5 x v) (cT (E5 x v).S h (rm (ob (E5 x v).S h) ((ob x.S h).Fields.set n v)))) ((ob x.S h).Fields.getD n 0);obtain⟨a',b',c',d'⟩:=tY x v;exact⟨a.trans a',b.trans b',c.trans c',d.trans d'⟩
theorem EN{x:Hp}(hR:SR x.S)(v:Int)(t:Tb)(old:Int):Ks x.S (iE x v t old).S:=
 (Dm hR v).trans (Dj (x:=wT (E5 x v) t) (jN hR v) old)
theorem rE(x:Hp)(v:Int)(t:Tb)(old:Int):(iE x v t old).Roots=x.Roots/\(iE x v t old).b7=x.b7/\(iE x v t old).T=t/\(iE x v t old).Q=x.Q:=by
 obtain⟨a,b,c,d⟩:=yI (wT (E5 x v) t) old;obtain⟨a',b',c',d'⟩:=tY x v;exact⟨a.trans a',b.trans b',c,d.trans d'⟩
theorem TP{s:b6}(hR:SR s){i:Nat}(hi:i<s.S.b7.length)(h2:(ce s i).State=2):Ks s (DJ s i):=⟨Cy hR hi,rfl,Cv hR hi h2,λh hh=>by rw[Cx hR hi h2 hh]⟩
theorem Uo{x:Hp}(hR:SR x.S)(h:Int){d:Int}(hd:T5 x.S h (D3 h)->0<=(ce x.S (D3 h)).Val.Weak+d):Ks x.S (il x h d).S:=by
 unfold il;split
 .rename_i q;exact (mW hR q.1 q.2.1 (hd q)).ks rfl
 .exact Ks.refl hR
theorem Nh(x:Hp)(h d:Int):(il x h d).Roots=x.Roots/\(il x h d).b7=x.b7/\(il x h d).T=x.T/\(il x h d).Q=x.Q:=by
 unfold il;split <;> exact⟨rfl,rfl,rfl,rfl⟩
theorem Ld(x:Hp)(h:Int):(pB x h).Roots=x.Roots/\(pB x h).b7=x.b7/\(pB x h).T=x.T/\(pB x h).Q=x.Q:=by
 unfold pB;split;·split <;> exact⟨rfl,rfl,rfl,rfl⟩
 .exact⟨rfl,rfl,rfl,rfl⟩
theorem JA{x:Hp}(hR:SR x.S)(h:Int)(hd:T5 x.S h (D3 h)->1<=(ce x.S (D3 h)).Val.Weak):Ks x.S (pB x h).S:=by
 unfold pB;split
 .rename_i q;have hd:=hd q;have kn:=mW (d:=-1) hR q.1 q.2.1 (by omega);split
  .rename_i c;have hi1:D3 h<(lC x.S (D3 h) (-1)).S.b7.length:=by rw[kn.len];exact q.1
   have hce:ce (lC x.S (D3 h) (-1)) (D3 h)=⟨(ce x.S (D3 h)).State,(ce x.S (D3 h)).Gen,XC (ce x.S (D3 h)).Val ((ce x.S (D3 h)).Val.Weak + -1)⟩:=by
    rw[eU hR q.1 q.2.1,zb rfl]
   have h2:(ce (lC x.S (D3 h) (-1)) (D3 h)).State=2:=by rw[hce];exact c.1
   exact (kn.ks rfl).trans (TP kn.sr hi1 h2)
  .exact kn.ks rfl
 .exact Ks.refl hR
theorem FF{x:Hp}(hx:J8 x){n:Nat}(hn:n<6)(h call:Int):Ks x.S (cE x n h call).S:=by
 have hR:=hx.sh.sr;have hnl:n<x.b7.length:=by have:=hx.sh.c6;omega
 have ok:∀k i,T5 x.S k i->0<=(ce x.S i).Val.Weak:=λk i q=>(hR.ok i q.1 q.2.1).wk;have tw:∀i,T5 x.S (lW x n) i->1<=(ce x.S i).Val.Weak:=λi q=>by
  have htg:lW x n=x.b7[n].Target:=by
   unfold lW;rw[zd,zc hnl];rfl
  have r:=q.KP hR;have p:=tL hnl (by rw[<-htg];omega);rw[<-htg,q.2.2] at p;have:=(hx.wk i q.1 q.2.1).1;omega
 unfold cE;have s1:Ks x.S (il (wC x (x.b7.set n (fD h call))) h 1).S:=Uo (x:=wC x (x.b7.set n (fD h call))) hR h λq=>by
  have:=ok _ _ q;dsimp only;omega
 by_cases q:T5 x.S h (D3 h)
 .have e:il (wC x (x.b7.set n (fD h call))) h 1=wS (wC x (x.b7.set n (fD h call))) (lC x.S (D3 h) 1):=by
   unfold il;rw[zb q]
  have hd:=ok _ _ q;have kn:=mW (d:=1) hR q.1 q.2.1 (by omega);rw[e] at s1 |-;refine s1.trans (JA (x:=wS (wC x (x.b7.set n (fD h call))) (lC x.S (D3 h) 1)) kn.sr _ λq2=>?_);dsimp only at q2 |-;have q3:=(kn.ad _ _).1 q2;have:=tw _ q3;rw[eU hR q.1 q.2.1];split
  .rename_i e2;rw[e2] at this;show 1<=(ce x.S (D3 h)).Val.Weak+1;omega
  .exact this
 .have e:il (wC x (x.b7.set n (fD h call))) h 1=wC x (x.b7.set n (fD h call)):=by
   unfold il;rw[za q]
  rw[e] at s1 |-;exact s1.trans (JA (x:=wC x (x.b7.set n (fD h call))) hR _ λq2=>tw _ q2)
theorem Ai(x:Hp)(n:Nat)(h call:Int):(cE x n h call).Roots=x.Roots/\(cE x n h call).b7=x.b7.set n (fD h call)/\(cE x n h call).T=x.T/\(cE x n h call).Q=x.Q:=by
 obtain⟨a,b,c,d⟩:=Ld (il (wC x (x.b7.set n (fD h call))) h 1) (lW x n);obtain⟨a',b',c',d'⟩:=Nh (wC x (x.b7.set n (fD h call))) h 1;exact⟨a.trans a',b.trans b',c.trans c',d.trans d'⟩
abbrev Xw(s:b6)(n:Nat)(p:Int):n7:=⟨s.Serial+1,0,0,p,false,List.replicate n 0⟩
def dm(s:b6)(i n:Nat)(p:Int):b6:=⟨⟨s.S.b7.set i ⟨1,(ce s i).Gen,Xw s n p⟩,s.S.Last⟩,s.Serial+1⟩
section
variable{s:b6}(hR:SR s){i:Nat}(hi:i<s.S.b7.length)(h0:(ce s i).State=0){n:Nat}(hn:n<=4){p:Int}(hp : -1<=p/\p<=5)
include hR hi h0 hn hp
theorem jB:(dm s i n p).S.b7.length=s.S.b7.length:=by simp[dm]
theorem lD(j:Nat):ce (dm s i n p) j=if j=i then ⟨1,(ce s i).Gen,Xw s n p⟩ else ce s j:=xW hi _ _ j
theorem EG:SR (dm s i n p):=by
 have hser:=hR.bg;have hc:=hR.cell i hi;have hnt:¬Th (ce s i):=λh=>by
  rcases h with h | h <;> omega
 refine⟨by rw[jB hR hi h0 hn hp];exact hR.len,hR.l0,hR.l9,by show 0<=s.Serial+1;omega,λj hj=>?_,λj hj ht=>?_,λj hj ht=>?_,λj k hj hk a b e=>?_⟩
 .rw[jB hR hi h0 hn hp] at hj;rw[lD hR hi h0 hn hp];split;·exact⟨show (0:Int)<=1 by decide,show (1:Int)<=3 by decide,hc.2.2.1,hc.2.2.2⟩
  .exact hR.cell j hj
 .rw[jB hR hi h0 hn hp] at hj;rw[lD hR hi h0 hn hp] at ht |-;split at ht;·exact absurd (.inl rfl) ht
  .rename_i e;rw[za e];exact hR.no j hj ht
 .rw[jB hR hi h0 hn hp] at hj;rw[lD hR hi h0 hn hp] at ht |-;split at ht
  .rename_i e;rw[zb e];exact⟨by show 1<=s.Serial+1;omega,zag _,zag 0,zag 0,hp.1,hp.2,by simpa using hn⟩
  .rename_i e;rw[za e];have:=hR.ok j hj ht;exact⟨this.s1,by show _<=s.Serial+1;have:=this.s2;omega,this.st,this.wk,this.p1,this.p2,this.fl⟩
 .rw[jB hR hi h0 hn hp] at hj hk;rw[lD hR hi h0 hn hp] at a e;rw[lD hR hi h0 hn hp] at b e;have old:∀m,m<s.S.b7.length->Th (ce s m)->(ce s m).Val.Serial≠s.Serial+1:=λm hm t q=>by
   have:=(hR.ok m hm t).s2;omega
  by_cases ej:j=i <;> by_cases ek:k=i
  .rw[ej,ek]
  .rw[za ek] at b e;rw[zb ej] at e;exact absurd e.symm (old k hk b)
  .rw[za ej] at a e;rw[zb ek] at e;exact absurd e (old j hj a)
  .rw[za ej] at a e;rw[za ek] at b e;exact hR.dif j k hj hk a b e
theorem yp{k:Int}{j:Nat}(q:T5 s k j):j≠i:=λe=>by
 subst e;rcases q.2.1 with h | h <;> omega
theorem Nf{k:Int}{j:Nat}:T5 (dm s i n p) k j↔T5 s k j\/(j=i/\k=bV s i):=by
 unfold T5;rw[jB hR hi h0 hn hp,lD hR hi h0 hn hp];by_cases e:j=i
 .rw[zb e];subst e;constructor
  .rintro⟨a,b,c⟩;exact .inr ⟨rfl,c⟩
  .rintro (⟨a,b,c⟩ | ⟨_,c⟩);·exact absurd rfl (yp hR hi h0 hn hp ⟨a,b,c⟩)
   .exact⟨hi,.inl rfl,c⟩
 .rw[za e];constructor;·exact .inl
  .rintro (h | ⟨h,_⟩);·exact h
   .exact absurd h e
theorem BB:lv (dm s i n p)=lv s ++ [bV s i]:=by
 have e:=GN (s:=s) (A0.2 hR) hi (by rw[<-O1 hi];exact h0) (Xw s n p) rfl (gw (A0.2 hR));unfold dm;rw[show (ce s i).Gen=s.S.b7[i].Gen by rw[O1 hi]];have e2:bV s i=1+(i:Int)+32*s.S.b7[i].Gen:=by unfold bV;rw[O1 hi]
 rw[e2];have:=gw (A0.2 (by have:=EG hR hi h0 hn hp;unfold dm at this;rw[show (ce s i).Gen=s.S.b7[i].Gen by rw[O1 hi]] at this;exact this));rw[e] at this;exact (zL this).symm
theorem Ng:bV s i∉lv s:=λh=>by
 obtain⟨j,q⟩:=(gO hR).1 h;have:i=j:=by
  have a:=q.2.2;have b:=q.1;unfold bV at a;have:=hR.len;omega
 subst this;have:=q.2.1;omega
theorem BC{k:Int}(hk:k∈lv s):ob (dm s i n p) k=ob s k:=by
 obtain⟨j,q⟩:=(gO hR).1 hk;have hj:=yp hR hi h0 hn hp q.d;have q2:At (dm s i n p) k j:=by
  refine⟨by rw[jB hR hi h0 hn hp];exact q.1,?_,?_⟩ <;> rw[lD hR hi h0 hn hp,za hj]
  .exact q.2.1
  .exact q.2.2
 rw[E9 (EG hR hi h0 hn hp) q2,E9 hR q,lD hR hi h0 hn hp,za hj]
theorem vb:ob (dm s i n p) (bV s i)=Xw s n p:=by
 have q2:At (dm s i n p) (bV s i) i:=by
  refine⟨by rw[jB hR hi h0 hn hp];exact hi,?_,?_⟩ <;> rw[lD hR hi h0 hn hp,zb rfl]
  rfl
 rw[E9 (EG hR hi h0 hn hp) q2,lD hR hi h0 hn hp,zb rfl]
end
theorem Jy{l:List Int}{h:Int}(e:h∉l):J3 l h=0:=Nat.eq_zero_of_not_pos λq=>e (iW.1 q).2
theorem yq{x:Hp}(hx:J8 x){i:Nat}(hi:i<x.S.S.b7.length)(h0:(ce x.S i).State=0){n:Nat}(hn:n<=4){p:Int}(hp : -1<=p/\p<=5):J8 (wS x (dm x.S i n p)):=by
 have hR:=hx.sh.sr;have hS:=EG hR hi h0 hn hp;have hl:=BB hR hi h0 hn hp;have hnew:=Ng hR hi h0 hn hp;have mem:∀ {k},k∈lv x.S->k∈lv (dm x.S i n p):=λhk=>by rw[hl];exact ut _ hk
 have mem0:∀ {k},k=0\/k∈lv x.S->k=0\/k∈lv (dm x.S i n p):=λhk=>hk.imp id mem;have hpos:=sY hR hi;have split:∀ {k},k∈lv (dm x.S i n p)->k∈lv x.S\/k=bV x.S i:=λhk=>by
  rw[hl] at hk;rcases zw.1 hk with q | q
  .exact .inl q
  .exact .inr (zt.1 q)
 have rep:∀v∈List.replicate n (0:Int),v=0:=λv hv=>(zbd.1 hv).2;have ntgt:∀j (hj:j<x.b7.length),x.b7[j].Target≠bV x.S i:=λj hj e=>by
  obtain⟨q,hq⟩:=(hx.sh.cl j hj).2.2.2.1 (by rw[e];omega);rw[e] at hq;have:q=i:=by
   have a:=hq.2.2;have b:=hq.1;unfold bV at a;have:=hR.len;omega
  exact yp hR hi h0 hn hp hq this
 refine⟨⟨hS,hx.sh.hr,hx.sh.r6,hx.sh.c6,hx.sh.cap,hx.sh.q30,λt ht=>?_,hx.sh.td,λh hh=>mem0 (hx.sh.rt h hh),λh hh v hv=>?_,λk v hk=>?_,λj hj=>?_⟩,λj hj ht=>?_,λh hh hs=>?_⟩
 .obtain⟨a,b,c⟩:=hx.sh.tk t ht;refine⟨a,b,c.imp (λ⟨d,e,f⟩=>⟨d,mem e,?_⟩) id⟩;show (ob (dm x.S i n p) t.At).Started=true;rw[BC hR hi h0 hn hp e];exact f
 .rcases split hh with q | q
  .have hv':v∈(ob (dm x.S i n p) h).Fields:=hv;rw[BC hR hi h0 hn hp q] at hv';exact mem0 (hx.sh.fl h q v hv')
  .subst q;have hv':v∈(ob (dm x.S i n p) (bV x.S i)).Fields:=hv;rw[vb hR hi h0 hn hp] at hv';exact .inl (rep v hv')
 .obtain⟨a,b⟩:=hx.sh.pr k v hk;exact⟨mem a,mem b⟩
 .obtain⟨a,b,c,d,e⟩:=hx.sh.cl j hj;refine⟨a,b,c,λq=>?_,λq=>⟨mem (e q).1,(e q).2⟩⟩;obtain⟨m,hm⟩:=d q;exact⟨m,(Nf hR hi h0 hn hp).2 (.inl hm)⟩
 .have hj':j<x.S.S.b7.length:=by have:j<(dm x.S i n p).S.b7.length:=hj;rwa [jB hR hi h0 hn hp] at this
  show (ce (dm x.S i n p) j).Val.Weak=(jb x.b7 (1+(j:Int)+32*(ce (dm x.S i n p) j).Gen):Int)/\_;have ht':Th (ce (dm x.S i n p) j):=ht;rw[lD hR hi h0 hn hp] at ht' |-;by_cases e:j=i
  .subst e;rw[zb rfl];refine⟨?_,λq=>absurd (show (1:Int)=2 from q) (by decide)⟩;show (0:Int)=(jb x.b7 (bV x.S j):Int);have:jb x.b7 (bV x.S j)=0:=by
    unfold jb;rw[List.countP_eq_zero];intro c hc;obtain⟨m,hm,rfl⟩:=wt hc;have:=ntgt m hm;simp[this]
   rw[this];rfl
  .rw[za e] at ht' |-;exact hx.wk j hj' ht'
 .have hinn:∀y,jv (dm x.S i n p) y=jv x.S y:=λy=>by
   unfold jv;rw[hl,pm,List.sum_append];have e1:(lv x.S).map (λk=>J3 (outs (dm x.S i n p) k) y)=(lv x.S).map λk=>J3 (outs x.S k) y:=zo λk hk=>by
    unfold outs;rw[BC hR hi h0 hn hp hk]
   rw[e1];have e2:outs (dm x.S i n p) (bV x.S i) = []:=by
    refine za5.2 λv hv=>?_;have h1:=fW.1 hv;rw[vb hR hi h0 hn hp] at h1;exact h1.2 (rep v h1.1)
   simp[e2,G6]
  have hnm:∀y,lH (wS x (dm x.S i n p)) y=lH x y:=λy=>by
   unfold lH;show jv (dm x.S i n p) y+own x.T y+J3 (nZ x) y=_;rw[hinn]
  rw[hnm];have hs':(ob (dm x.S i n p) h).Strong<12:=hs;show (ob (dm x.S i n p) h).Strong=_;rcases split hh with q | q
  .rw[BC hR hi h0 hn hp q] at hs' |-;exact hx.fair h q hs'
  .subst q;rw[vb hR hi h0 hn hp];have h1:lH x (bV x.S i)=0:=by
    unfold lH;have a1:jv x.S (bV x.S i)=0:=by
     unfold jv;have:=Hq (λk=>J3 (outs x.S k) (bV x.S i)) 0 (lv x.S) λk hk=>Nat.le_of_eq<|Jy λq=>by
      have q2:=fW.1 q;rcases hx.sh.fl k hk _ q2.1 with e | e
      .exact q2.2 e
      .exact hnew e
     omega
    have a2:own x.T (bV x.S i)=0:=by
     unfold own;rw[List.countP_eq_zero];intro c hc;have:=(hx.sh.pr _ _ (ca.1 hc)).2;have hne:c.Val≠bV x.S i:=λe=>hnew (e▸this);simp[hne]
    have a3:J3 (nZ x) (bV x.S i)=0:=Jy λq=>by
     unfold nZ at q;rcases zw.1 q with q | q
     .have q2:=fW.1 q;rcases hx.sh.rt _ q2.1 with e | e
      .exact q2.2 e
      .exact hnew e
     .obtain⟨t,ht,k1,k2⟩:=jA.1 q;rcases (hx.sh.tk t ht).2.2 with ⟨_,b,_⟩ | ⟨b,_⟩;·exact hnew (k2▸b)
      .omega
    omega
   rw[h1,G6];rfl
structure Ev (x y:Hp):Prop where
 lv:∀h∈lv y.S,(h∈Sh.lv x.S/\(ob y.S h).Serial=(ob x.S h).Serial)\/(h∉Sh.lv x.S/\(ob y.S h).Serial=x.S.Serial+1)
 s1:x.S.Serial<=y.S.Serial
 s2:y.S.Serial<=x.S.Serial+1
theorem Ev.refl(x:Hp):Ev x x:=⟨λh hh=>.inl ⟨hh,rfl⟩,by omega,by omega⟩
theorem Ks.ev{x y:Hp}(k:Ks x.S y.S):Ev x y:=⟨λh hh=>by
 rw[k.lv] at hh;exact .inl ⟨hh,k.ob h hh⟩,by rw[k.bg];omega,by rw[k.bg];omega⟩
theorem Ev.ks{x y z:Hp}(e:Ev x y)(k:Ks y.S z.S):Ev x z:=⟨λh hh=>by
 rw[k.lv] at hh;rw[k.ob h hh];exact e.lv h hh,by rw[k.bg];exact e.s1,by rw[k.bg];exact e.s2⟩
theorem Ev.YD{x y z:Hp}(e:Ev x y)(s:DN y z):Ev x z:=⟨λh hh=>by
 rw[(s.ob h hh).1];exact e.lv h (s.lv h hh),by rw[s.bg];exact e.s1,by rw[s.bg];exact e.s2⟩
theorem Wz{x:Hp}(hx:J8 x){i:Nat}(hi:i<x.S.S.b7.length)(h0:(ce x.S i).State=0){n:Nat}(hn:n<=4){p:Int}(hp : -1<=p/\p<=5):Ev x (wS x (dm x.S i n p)):=⟨λh hh=>by
 have hR:=hx.sh.sr;have hh':h∈lv (dm x.S i n p):=hh;show (_/\(ob (dm x.S i n p) h).Serial=_)\/_/\(ob (dm x.S i n p) h).Serial=_;rw[BB hR hi h0 hn hp] at hh';rcases zw.1 hh' with q | q
 .exact .inl ⟨q,by rw[BC hR hi h0 hn hp q]⟩
 .rw[zt.1 q];exact .inr ⟨Ng hR hi h0 hn hp,by rw[vb hR hi h0 hn hp]⟩,by show _<=x.S.Serial+1;omega,zag _⟩
def Cw(x y:Hp)(w:Int):Prop:=∀i:Nat,(i:Int)≠w->(y.b7.getD i cz).Target=(x.b7.getD i cz).Target/\((y.b7.getD i cz).Intact=true->(x.b7.getD i cz).Intact=true)
theorem Cw.refl(x:Hp)(w:Int):Cw x x w:=λi _=>⟨rfl,id⟩
theorem Cw.same{x y:Hp}(h:y.b7=x.b7)(w:Int):Cw x y w:=λi _=>by rw[h];exact⟨rfl,id⟩
theorem Cw.trans{x y z:Hp}{w:Int}(a:Cw x y w)(b:Cw y z w):Cw x z w:=λi hi=>⟨(b i hi).1.trans (a i hi).1,λq=>(a i hi).2 ((b i hi).2 q)⟩
theorem DN.cw{x y:Hp}(s:DN x y)(w:Int):Cw x y w:=λi _=>by
 by_cases h:i<x.b7.length
 .have h':i<y.b7.length:=by rw[s.cn];exact h
  rw[Ip h,Ip h',s.cl i h' h];exact⟨rfl,λq=>(zA _ _▸q).1⟩
 .have h':¬i<y.b7.length:=by rw[s.cn];exact h
  rw[zd,zd,pu (by omega),pu (by omega)];exact⟨rfl,id⟩
theorem Cw.set{x y:Hp}{w:Nat}{c:k7}(h:y.b7=x.b7.set w c):Cw x y w:=λi hi=>by
 rw[h,zd,zd,List.getElem?_set_ne (by omega)];exact⟨rfl,id⟩
def VM(s:b6)(i:Nat):Prop:=i<s.S.b7.length/\(ce s i).State=0/\∀j,j<i->(ce s j).State≠0
theorem MZ{s:b6}(hR:SR s)(hb:s.Serial<9223372036854775807)(a p:Int) :
  (¬(0<=a/\a<=4)/\W7 s a p=some (s,0,1)) \/
  ((0<=a/\a<=4)/\¬(-1<=p/\p<=5)/\W7 s a p=some (s,0,13)) \/
  ((0<=a/\a<=4)/\(-1<=p/\p<=5)/\(∀i,i<s.S.b7.length->(ce s i).State≠0)/\W7 s a p=some (s,0,4)) \/
  ((0<=a/\a<=4)/\(-1<=p/\p<=5)/\∃i,VM s i/\W7 s a p=some (dm s i a.toNat p,bV s i,0)):=by
 have hs':=hR.bg;have hR':=A0.2 hR;unfold W7 qg;by_cases ha:0<=a/\a<=4
 .right;obtain⟨ha1,ha2⟩:=ha;obtain⟨n,rfl⟩:∃n:Nat,a=n:=⟨a.toNat,by omega⟩;rw[za (by simp;omega),kD (by omega) (by omega)];simp only[YI];by_cases hp : -1<=p/\p<=5
  .right;unfold V4;simp only[YI];have e1:(decide (p >= -1)&&decide (p<6))=true:=by simp;omega
   rw[e1];have hl:Ym s.S:=⟨pf hR',hR'.l0,hR'.l9,λi hi=>Dl hR' i hi⟩;rcases Dy hl ⟨s.Serial+1,0,0,p,false,List.replicate n 0⟩ with ⟨i,hi,h0,hf,e⟩ | ⟨hf,e⟩
   .right;refine⟨⟨ha1,ha2⟩,hp,i,⟨hi,by rw[O1 hi];exact h0,λj hj=>by rw[O1 (by omega)];exact hf j hj⟩,?_⟩;simp only[bne_self_eq_false,zD,qr,zck];rw[show w7 (s.Serial+1)=s.Serial+1 from O9 (by omega) (by omega),e];unfold dm bV;rw[O1 hi];simp
   .left;refine⟨⟨ha1,ha2⟩,hp,λi hi=>by rw[O1 hi];exact hf i hi,?_⟩;simp only[bne_self_eq_false,zD,qr,zck];rw[show w7 (s.Serial+1)=s.Serial+1 from O9 (by omega) (by omega),e];simp
  .left;refine⟨⟨ha1,ha2⟩,hp,?_⟩;unfold V4;simp only[YI];have e1:(decide (p >= -1)&&decide (p<6))=false:=by rw[zbk];simp;omega
   rw[e1];simp
 .left;refine⟨ha,?_⟩;rw[zb (by simp;omega)];simp
def sd(x:Hp)(r:Int):Int:=if r<0 then 0 else x.Roots.getD r.toNat 0
def Aq(x:Hp)(r:Int):Int × Int:=if sd x r=0 then (0,2) else (sd x r,0)
def bg(x:Hp)(h:Int):Int:=(ob x.S h).Serial
theorem Bq{n l m e:Int}(he:e≠0)(h:P0 n l m e=0):l<=n/\n<=m:=by
 unfold P0 at h;split at h;·exact absurd h he
 .omega
theorem GD{a b c:Int}(h:cC a b c=0):a=0/\b=0/\c=0:=by
 unfold cC at h;split at h;·contradiction
 .split at h;·contradiction
  .omega
theorem tp{k a b c:Int}(h:x8 k a b c=0):1<=k/\k<=12:=by
 refine Decidable.byContradiction λq=>?_;have:x8 k a b c=14:=by
  unfold x8;repeat rw[za (by omega)]
 omega
theorem Tp{a b c:Int}(h:x8 1 a b c=0):(0<=a/\a<=5)/\(0<=b/\b<=4) /\ -1<=c/\c<=5:=by
 obtain⟨h1,h2,h3⟩:=GD (show cC (P0 a 0 5 6) (P0 b 0 4 1) (P0 c (-1) 5 13)=0 from h);exact⟨Bq (by decide) h1,Bq (by decide) h2,Bq (by decide) h3⟩
theorem LR{a b c:Int}(h:x8 2 a b c=0):(0<=a/\a<=5)/\(0<=b/\b<=5):=by
 obtain⟨h1,h2,_⟩:=GD (show cC (P0 a 0 5 6) (P0 b 0 5 6) 0=0 from h);exact⟨Bq (by decide) h1,Bq (by decide) h2⟩
theorem VS{a b c:Int}(h:x8 3 a b c=0):0<=a/\a<=5:=Bq (by decide) (show P0 a 0 5 6=0 from h)
theorem Tq{a b c:Int}(h:x8 4 a b c=0):(0<=a/\a<=5)/\(0<=b/\b<=5)/\0<=c/\c<=3:=by
 obtain⟨h1,h2,h3⟩:=GD (show cC (P0 a 0 5 6) (P0 b 0 5 6) (P0 c 0 3 5)=0 from h);exact⟨Bq (by decide) h1,Bq (by decide) h2,Bq (by decide) h3⟩
theorem Tr{a b c:Int}(h:x8 5 a b c=0):(0<=a/\a<=5)/\(0<=b/\b<=3) /\ -1<=c/\c<=5:=by
 obtain⟨h1,h2,h3⟩:=GD (show cC (P0 a 0 5 6) (P0 b 0 3 5) (P0 c (-1) 5 6)=0 from h);exact⟨Bq (by decide) h1,Bq (by decide) h2,Bq (by decide) h3⟩
theorem PY{a b c:Int}(h:x8 6 a b c=0):(0<=a/\a<=5)/\(-1<=b/\b<=5) /\ -1<=c/\c<=5:=by
 obtain⟨h1,h2,h3⟩:=GD (show cC (P0 a 0 5 7) (P0 b (-1) 5 6) (P0 c (-1) 5 13)=0 from h);exact⟨Bq (by decide) h1,Bq (by decide) h2,Bq (by decide) h3⟩
theorem Ts{a b c:Int}(h:x8 7 a b c=0):(0<=a/\a<=5)/\(0<=b/\b<=5):=by
 obtain⟨h1,h2,_⟩:=GD (show cC (P0 a 0 5 6) (P0 b 0 5 7) 0=0 from h);exact⟨Bq (by decide) h1,Bq (by decide) h2⟩
theorem Tt{a b c:Int}(h:x8 8 a b c=0):(0<=a/\a<=5)/\(-1<=b/\b<=5):=by
 obtain⟨h1,h2,_⟩:=GD (show cC (P0 a 0 5 6) (P0 b (-1) 5 6) 0=0 from h);exact⟨Bq (by decide) h1,Bq (by decide) h2⟩
theorem Tu{a b c:Int}(h:x8 9 a b c=0):(0<=a/\a<=5)/\(0<=b/\b<=5):=LR (show x8 2 a b c=0 from h)
theorem Sj{a b c:Int}(h:x8 10 a b c=0):(0<=a/\a<=5)/\(0<=b/\b<=5):=LR (show x8 2 a b c=0 from h)
section
variable{x:Hp}(hx:kc x)
include hx
theorem SJ{r:Int}(h:0<=r/\r<=5):ix x.Roots r=some (sd x r):=by
 have:=hx.r6;obtain⟨n,rfl⟩:∃n:Nat,r=n:=⟨r.toNat,by omega⟩;have hn:n<x.Roots.length:=by omega
 rw[s7 hn];unfold sd;rw[za (by omega),zR,zd,zc hn];rfl
theorem Hm{r:Int}(h:¬(0<=r/\r<=5)):sd x r=0:=by
 have:=hx.r6;unfold sd;split;·rfl
 .rw[zd,pu (by omega)];rfl
theorem dV(r:Int):sd x r=0\/sd x r∈lv x.S:=by
 by_cases h:0<=r/\r<=5
 .have e:=SJ hx h;unfold ix at e;rw[zb h.1] at e;exact hx.rt _ (zi e)
 .exact .inl (Hm hx h)
theorem jP(r:Int):sd x r<=9223372036854775807:=by
 rcases dV hx r with h | h
 .omega
 .have:=H5 hx.sr h;omega
theorem nr(r:Int):N7 x r=some (sd x r):=by
 have h6:=hx.r6;unfold N7;by_cases h:0<=r/\r<=5
 .rw[za (by simp;omega),SJ hx h];rfl
 .rw[zb (by simp;omega),Hm hx h]
theorem jc(r:Int):O2 x r=some (Aq x r):=by
 unfold O2 Aq;rw[nr hx,YI];by_cases h:sd x r=0
 .rw[zb (by simpa using h),zb h]
 .rw[za (by simpa using h),za h]
theorem Vj{h:Int}(hh:h<=9223372036854775807):eQ x h=some (bg x h):=by
 obtain⟨e,h1,_⟩:=ic (A0.2 hx.sr) hh;unfold eQ;rw[h1];rfl
theorem HT(r:Int):dD x r=some (bg x (sd x r)):=by
 unfold dD;rw[nr hx,YI,Vj hx (jP hx r)];rfl
theorem Fh:bg x 0=0:=by
 unfold bg;rw[vM (A0.2 hx.sr) (by omega) (eP hx.sr)]
end
theorem Vk{x z:Hp}(hx:kc x)(k:Ks x.S z.S){h:Int}(hh:h=0\/h∈lv x.S):bg z h=bg x h:=by
 rcases hh with e | e
 .subst e;unfold bg;rw[vM (A0.2 hx.sr) (by omega) (eP hx.sr),vM (A0.2 k.sr) (by omega) (eP k.sr)]
 .exact k.ob h e
theorem RD{x z:Hp}(h:z.Roots=x.Roots)(r:Int):sd z r=sd x r:=by unfold sd;rw[h]
noncomputable def AD(x:Hp)(o:g8)(v:Hp × Int):Option (Hp × Int × Int):=
 if (v.2 != 0) then some (x,0,v.2) else (R1 v.1).bind λv5=>(Y6 v.1 v5 o).bind λv6=>some (v5,v6,0)
theorem qC{x:Hp}{o:g8}{n:Option Nat}(hc:x8 o.Kind o.A o.B o.C=0)(hk:∃l,gx=some l/\y9 l o.Kind=some n):u4 x o=(xa n ⟨x,o⟩).bind (AD x o):=by
 obtain⟨l,h1,h2⟩:=hk;unfold u4;rw[ov,hc,YI,za (by simp),h1,YI,h2,za (by simp)];rfl
theorem Ma{x:Hp}{o:g8}(hc:x8 o.Kind o.A o.B o.C≠0):u4 x o=some (x,0,x8 o.Kind o.A o.B o.C)/\True:=by
 constructor
 .unfold u4;rw[ov,YI,zb (by simpa using hc)]
 .trivial
section
variable{x:Hp}{a b c:Int}
theorem XH(hc:x8 1 a b c=0):u4 x ⟨1,a,b,c⟩=(X6 ⟨x,⟨1,a,b,c⟩⟩).bind (AD x ⟨1,a,b,c⟩):=qC (o:=⟨1,a,b,c⟩) (n:=some 203) hc ⟨_,rfl,rfl⟩
theorem XI(hc:x8 2 a b c=0):u4 x ⟨2,a,b,c⟩=(K8 ⟨x,⟨2,a,b,c⟩⟩).bind (AD x ⟨2,a,b,c⟩):=qC (o:=⟨2,a,b,c⟩) (n:=some 204) hc ⟨_,rfl,rfl⟩
theorem XJ(hc:x8 3 a b c=0):u4 x ⟨3,a,b,c⟩=(bm ⟨x,⟨3,a,b,c⟩⟩).bind (AD x ⟨3,a,b,c⟩):=qC (o:=⟨3,a,b,c⟩) (n:=some 205) hc ⟨_,rfl,rfl⟩
theorem XK(hc:x8 4 a b c=0):u4 x ⟨4,a,b,c⟩=(bo ⟨x,⟨4,a,b,c⟩⟩).bind (AD x ⟨4,a,b,c⟩):=qC (o:=⟨4,a,b,c⟩) (n:=some 206) hc ⟨_,rfl,rfl⟩
theorem XL(hc:x8 5 a b c=0):u4 x ⟨5,a,b,c⟩=(aq ⟨x,⟨5,a,b,c⟩⟩).bind (AD x ⟨5,a,b,c⟩):=qC (o:=⟨5,a,b,c⟩) (n:=some 207) hc ⟨_,rfl,rfl⟩
theorem Tz(hc:x8 6 a b c=0):u4 x ⟨6,a,b,c⟩=(L2 ⟨x,⟨6,a,b,c⟩⟩).bind (AD x ⟨6,a,b,c⟩):=qC (o:=⟨6,a,b,c⟩) (n:=some 208) hc ⟨_,rfl,rfl⟩
theorem XM(hc:x8 7 a b c=0):u4 x ⟨7,a,b,c⟩=(aG ⟨x,⟨7,a,b,c⟩⟩).bind (AD x ⟨7,a,b,c⟩):=qC (o:=⟨7,a,b,c⟩) (n:=some 209) hc ⟨_,rfl,rfl⟩
theorem XN(hc:x8 8 a b c=0):u4 x ⟨8,a,b,c⟩=(bp ⟨x,⟨8,a,b,c⟩⟩).bind (AD x ⟨8,a,b,c⟩):=qC (o:=⟨8,a,b,c⟩) (n:=some 210) hc ⟨_,rfl,rfl⟩
theorem XO(hc:x8 9 a b c=0):u4 x ⟨9,a,b,c⟩=(bZ ⟨x,⟨9,a,b,c⟩⟩).bind (AD x ⟨9,a,b,c⟩):=qC (o:=⟨9,a,b,c⟩) (n:=some 211) hc ⟨_,rfl,rfl⟩
theorem VY(hc:x8 10 a b c=0):u4 x ⟨10,a,b,c⟩=(R8 ⟨x,⟨10,a,b,c⟩⟩).bind (AD x ⟨10,a,b,c⟩):=qC (o:=⟨10,a,b,c⟩) (n:=some 212) hc ⟨_,rfl,rfl⟩
theorem Cj{k:Int}(hk:k=11\/k=12)(hc:x8 k a b c=0):u4 x ⟨k,a,b,c⟩=some (x,0,14)/\True:=by
 constructor
 .unfold u4;rw[ov,hc,YI,za (by simp)];rcases hk with rfl | rfl <;> rfl
 .trivial
variable{y:lP}
end
section
variable{s:b6}(hR:SR s){i:Nat}(hi:i<s.S.b7.length)
include hR hi
end
theorem Wx{s:b6}(hR:SR s)(hb:s.Serial<9223372036854775807)(a p:Int) :
  (∃e,e≠0/\W7 s a p=some (s,0,e)/\True) \/
  ((0<=a/\a<=4)/\(-1<=p/\p<=5)/\∃i,VM s i/\W7 s a p=some (dm s i a.toNat p,bV s i,0)/\True):=by
 rcases MZ hR hb a p with ⟨h1,e⟩ | ⟨h1,h2,e⟩ | ⟨h1,h2,h3,e⟩ | ⟨h1,h2,i,h3,e⟩;·exact .inl ⟨1,by decide,e,trivial⟩
 .exact .inl ⟨13,by decide,e,trivial⟩
 .exact .inl ⟨4,by decide,e,trivial⟩
 .exact .inr ⟨h1,h2,i,h3,e,trivial⟩
abbrev YA(o:g8):fm:=⟨o.Kind,o.A,o.B,o.C⟩
structure Dn (x:Hp) (o:g8) (z:Hp) (v:Int):Prop where
 rt:J8 z
 sl:SL z
 ev:Ev x z
 cw:Cw x z (if o.Kind=6 then o.A else -1)
 mc:u4 x o=some (bu z,v,0)
 rf:True
def Er(x:Hp)(o:g8)(e:Int):Prop:=e≠0/\u4 x o=some (x,0,e)/\True
theorem WA{x:Hp}(hx:J8 x)(hS:SL x){i:Nat}(hi:i<x.S.S.b7.length)(h0:(ce x.S i).State=0){n:Nat}(hn:n<=4){p:Int}(hp : -1<=p/\p<=5):SL (wS x (dm x.S i n p)):=λk hk=>by
 have hR:=hx.sh.sr;have hk':k∈lv (dm x.S i n p):=hk;show (ob (dm x.S i n p) k).Strong<=_;rw[BB hR hi h0 hn hp] at hk';rcases zw.1 hk' with q | q
 .rw[BC hR hi h0 hn hp q];exact hS k q
 .rw[zt.1 q,vb hR hi h0 hn hp];show (0:Int)<=_;decide
theorem vq{y:Hp}(hy:J8 y){a:Int}(ha:0<=a/\a<=5){h:Int}(hh:h=0\/h∈lv y.S):sd (bu (G0 y a.toNat h)) a=h/\bg (bu (G0 y a.toNat h)) h=bg y h:=by
 have hz:=bM hy (r:=a.toNat) (by omega) hh;have st:=lU hz;have w:=nu hz;have e1:(bu (G0 y a.toNat h)).Roots=y.Roots.set a.toNat h:=st.rt.trans (jM y a.toNat h).1;have h6:=hy.sh.r6;have e2:sd (bu (G0 y a.toNat h)) a=h:=by
  unfold sd;rw[za (by omega),e1,zd,List.getElem?_set_self (by omega)];rfl
 refine⟨e2,?_⟩;have k:=dc hy.sh.sr a.toNat h;rcases dV w.sh a with q | q
 .rw[e2] at q;subst q;rw[Fh w.sh,Fh hy.sh]
 .rw[e2] at q;have h1:=(st.ob h q).1;have h2:=st.lv h q;rw[k.lv] at h2;exact h1.trans (k.ob h h2)
section
variable{x:Hp}{a b c:Int}
theorem kl{o:g8}{y:Hp}{e:Int}(he:e≠0):AD x o (y,e)=some (x,0,e):=by
 unfold AD;rw[zb (by simpa using he)]
theorem Sl{z:Hp}(hz:J8 z)(hS:SL z){k:Int}(hk:k≠5/\k≠6/\k≠8/\k≠10):AD x ⟨k,a,b,c⟩ (z,0)=some (bu z,bg (bu z) (sd (bu z) a),0):=by
 unfold AD Y6;rw[za (by simp),jf hz hS,YI];simp only[jn];rw[za (by simp;omega),za (by simp;omega)];have:(k==8)=false:=by simp;omega
 rw[this,za (by simp),za (by simp;omega),HT (nu hz).sh];rfl
theorem Hs{o:g8}{v e:Int}(he:e≠0):B9 ⟨x,o⟩ v e=some (x,e):=by
 unfold B9;rw[zb (by simpa using he)]
variable(hx:J8 x)(hS:SL x)
include hx hS
theorem qe{k:Int}(ha:0<=a/\a<=5){h:Int}(hh:h=0\/h∈lv x.S):B9 ⟨x,⟨k,a,b,c⟩⟩ h 0=some (G0 x a.toNat h,0):=by
 unfold B9;rw[za (by simp),Jn hx hS a (tu hx hS hh),za (by omega),zb hh];rfl
theorem lX{k:Int}(hk:k=2\/k=3\/k=4\/k=7\/k=9)(hc:x8 k a b c=0)(ha:0<=a/\a<=5){h:Int}(hh:h=0\/h∈lv x.S)
  (h1:u4 x ⟨k,a,b,c⟩=AD x ⟨k,a,b,c⟩ (G0 x a.toNat h,0))(h2:True):Dn x ⟨k,a,b,c⟩ (G0 x a.toNat h) (bg x h):=by
 have hz:=bM hx (r:=a.toNat) (by omega) hh;have zS:=pe hx.sh.sr hS a.toNat h;obtain⟨e1,e2⟩:=vq hx ha hh;refine⟨hz,zS,(dc hx.sh.sr a.toNat h).ev,Cw.same (jM x a.toNat h).2.1 _,?_,?_⟩;·rw[h1,Sl hz zS (by omega),e1,e2]
 .trivial
theorem d2(hc:x8 2 a b c=0):Dn x ⟨2,a,b,c⟩ (G0 x a.toNat (sd x b)) (bg x (sd x b)):=by
 obtain⟨ha,hb⟩:=LR hc;refine lX hx hS (.inl rfl) hc ha (dV hx.sh b) ?_ ?_
 .rw[XI hc];unfold K8;rw[nr hx.sh,YI,qe hx hS ha (dV hx.sh b)];rfl
 .trivial
theorem d3(hc:x8 3 a b c=0):Dn x ⟨3,a,b,c⟩ (G0 x a.toNat 0) 0:=by
 have ha:=VS hc;have:=lX (b:=b) (c:=c) hx hS (.inr (.inl rfl)) hc ha (h:=0) (.inl rfl) ?_ ?_;·rwa [Fh hx.sh] at this
 .rw[XJ hc];unfold bm;rw[qe hx hS ha (.inl rfl)];rfl
 .trivial
theorem d4(hc:x8 4 a b c=0):(sd x b=0/\Er x ⟨4,a,b,c⟩ 2)\/(∃e,J2 x.S (sd x b) c=some (0,e)/\Er x ⟨4,a,b,c⟩ e) \/
  (sd x b∈lv x.S/\∃n:Nat,c=n/\∃hn:n<(ob x.S (sd x b)).Fields.length,Dn x ⟨4,a,b,c⟩ (G0 x a.toNat (ob x.S (sd x b)).Fields[n]) (bg x (ob x.S (sd x b)).Fields[n])):=by
 obtain⟨ha,hb,_⟩:=Tq hc;have hm:u4 x ⟨4,a,b,c⟩=_:=XK hc;unfold bo at hm;rw[jc hx.sh,YI] at hm;by_cases h0:sd x b=0
 .refine .inl ⟨h0,by decide,?_,?_⟩
  .rw[hm];unfold Aq;rw[zb h0,zb (by simp),YI,kl (by decide)]
  .trivial
 .have has:Aq x b=(sd x b,0):=by unfold Aq;rw[za h0]
  rw[has,za (by simp)] at hm;right;rcases vI hx hS (sd x b) c (jP hx.sh b) with ⟨e,he,f1,f2⟩ | ⟨hl,n,hn0,hn,f1,f2⟩
  .refine .inl ⟨e,f1,he,?_,?_⟩
   .rw[hm];dsimp only;rw[f1,YI,Hs he,YI,YI,kl he]
   .trivial
  .refine .inr ⟨hl,n,hn0,hn,?_⟩;have hv:=hx.sh.fl _ hl _ (zh hn);refine lX hx hS (by omega) hc ha hv ?_ ?_
   .rw[hm];dsimp only;rw[f1,YI,qe hx hS ha hv];rfl
   .trivial
theorem QB{n:Nat}(hn:n<6):∃h:n<x.b7.length,cy x.b7 n=some (if x.b7[n].Target=0\/x.b7[n].Intact=false then (0,9) else (x.b7[n].Target,0))/\True:=by
 have c6:=hx.sh.c6;have hl:n<x.b7.length:=by omega
 refine⟨hl,?_,?_⟩
 .unfold cy jT;have:(decide ((n:Int)>=0)&&decide ((n:Int)<(x.b7.length:Int)))=true:=by simp;omega
  rw[this,YI,za (by simp),s7 hl,YI];by_cases q:x.b7[n].Target=0\/x.b7[n].Intact=false
  .rw[zb q,zb (by rcases q with q | q <;> simp[q])]
  .rw[za q,za (by simpa using q)]
 .trivial
theorem d7(hc:x8 7 a b c=0):∃h:b.toNat<x.b7.length,((x.b7[b.toNat].Intact=false/\Er x ⟨7,a,b,c⟩ 9) \/
  (x.b7[b.toNat].Intact=true/\Dn x ⟨7,a,b,c⟩ (G0 x a.toNat x.b7[b.toNat].Target) (bg x x.b7[b.toNat].Target))):=by
 obtain⟨ha,hb⟩:=Ts hc;obtain⟨n,rfl⟩:∃n:Nat,b=n:=⟨b.toNat,by omega⟩;obtain⟨hl,l1,l2⟩:=QB hx hS (n:=n) (by omega);rw[zR];refine⟨hl,?_⟩;have hm:u4 x ⟨7,a,n,c⟩=_:=XM hc;unfold aG at hm;rw[show cy (r7.mk x ⟨7,a,n,c⟩).x.b7 (r7.mk x ⟨7,a,n,c⟩).o.B=_ from l1,YI] at hm;have cl:=hx.sh.cl n hl;cases hI:x.b7[n].Intact
 .left;rw[zb (.inr hI)] at hm;refine⟨rfl,by decide,?_,?_⟩
  .rw[hm];dsimp only;rw[Hs (by decide),YI,YI];exact kl (e:=9) (by decide)
  .trivial
 .right;have ht:=(cl.2.2.2.2 hI).1;have ht0:x.b7[n].Target≠0:=λe=>eP hx.sh.sr (e▸ht);rw[za (by simp[ht0,hI])] at hm;refine⟨rfl,lX hx hS (by omega) hc ha (.inr ht) ?_ trivial⟩;rw[hm];dsimp only;rw[qe hx hS ha (.inr ht)];rfl
theorem d9(hc:x8 9 a b c=0):(sd x b=0/\Er x ⟨9,a,b,c⟩ 2)\/(sd x b∈lv x.S/\(∀v,¬Has x.T (sd x b) v)/\Er x ⟨9,a,b,c⟩ 9) \/
  (sd x b∈lv x.S/\∃v,Has x.T (sd x b) v/\Dn x ⟨9,a,b,c⟩ (G0 x a.toNat v) (bg x v)):=by
 obtain⟨ha,hb⟩:=Tu hc;have hT:=hx.sh.hr;have hm:u4 x ⟨9,a,b,c⟩=_:=XO hc;unfold bZ at hm;rw[jc hx.sh,YI] at hm;by_cases h0:sd x b=0
 .refine .inl ⟨h0,by decide,?_,?_⟩
  .rw[hm];unfold Aq;rw[zb h0,zb (by simp),YI,kl (by decide)]
  .trivial
 .have has:Aq x b=(sd x b,0):=by unfold Aq;rw[za h0]
  have hl:=(dV hx.sh b).resolve_left h0;rw[has,za (by simp)] at hm;dsimp only at hm;unfold uK at hm;right;by_cases hv:∃v,Has x.T (sd x b) v
  .obtain⟨v,hv⟩:=hv;rw[Iq hT hv] at hm;refine .inr ⟨hl,v,hv,lX hx hS (by omega) hc ha (.inr (hx.sh.pr _ _ hv).2) ?_ trivial⟩;rw[hm,YI,YI];dsimp only;rw[qe hx hS ha (.inr (hx.sh.pr _ _ hv).2)];rfl
  .have hv':∀v,¬Has x.T (sd x b) v:=λv q=>hv ⟨v,q⟩;rw[Ko hT hv'] at hm;refine .inl ⟨hl,hv',by decide,?_,?_⟩
   .rw[hm,YI,YI];dsimp only;rw[Hs (by decide),YI,YI];exact kl (e:=9) (by decide)
   .trivial
end
section
variable{x:Hp}{a b c:Int}
theorem Sk{z:Hp}(hz:J8 z)(hS:SL z){k:Int}{r:Int}(hk:k=5/\r=c\/(k=6\/k=8)/\r=b):AD x ⟨k,a,b,c⟩ (z,0)=some (bu z,bg z (sd z r),0):=by
 unfold AD Y6;rw[za (by simp),jf hz hS,YI];simp only[jn];rcases hk with ⟨rfl,rfl⟩ | ⟨rfl | rfl,rfl⟩
 .rw[zb (by rfl),HT hz.sh];rfl
 .rw[za (by decide),zb (by rfl),zb (by rfl),HT hz.sh];rfl
 .rw[za (by decide),za (by decide),zb (by rfl),HT hz.sh];rfl
variable(hx:J8 x)(hS:SL x)
include hx hS
theorem rD{z:Hp}(hz:J8 z)(zS:SL z)(k:Ks x.S z.S)(er:z.Roots=x.Roots){kd r:Int}(hk:kd=5/\r=c\/(kd=6\/kd=8)/\r=b)(hc:x8 kd a b c=0)(cw:Cw x z (if kd=6 then a else -1))
  (h1:u4 x ⟨kd,a,b,c⟩=AD x ⟨kd,a,b,c⟩ (z,0))(h2:True):Dn x ⟨kd,a,b,c⟩ z (bg x (sd x r)):=by
 refine⟨hz,zS,k.ev,cw,?_,?_⟩;·rw[h1,Sk hz zS hk,RD er,Vk hx.sh k (dV hx.sh r)]
 .trivial
theorem d5(hc:x8 5 a b c=0):(sd x a=0/\Er x ⟨5,a,b,c⟩ 2)\/(∃e,al x (sd x a) b (sd x c)=some (x,e)/\Er x ⟨5,a,b,c⟩ e) \/
  (sd x a∈lv x.S/\∃n:Nat,b=n/\n<(ob x.S (sd x a)).Fields.length/\Dn x ⟨5,a,b,c⟩ (bD x (sd x a) n (sd x c)) (bg x (sd x c))):=by
 obtain⟨ha,hb,hcc⟩:=Tr hc;have hm:u4 x ⟨5,a,b,c⟩=_:=XL hc;unfold aq at hm;rw[jc hx.sh,YI] at hm;by_cases h0:sd x a=0
 .have has:Aq x a=(0,2):=by unfold Aq;rw[zb h0]
  rw[has,zb (by simp)] at hm;refine .inl ⟨h0,by decide,?_,?_⟩
  .rw[hm,YI];exact kl (e:=2) (by decide)
  .trivial
 .have has:Aq x a=(sd x a,0):=by unfold Aq;rw[za h0]
  rw[has,za (by simp)] at hm;dsimp only at hm;rw[nr hx.sh,YI] at hm;right;rcases xJ hx hS (sd x a) b (sd x c) (jP hx.sh a) (jP hx.sh c) with ⟨e,he,f1,f2⟩ | ⟨hl,hv,n,hn0,hn,f1,f2⟩
  .refine .inl ⟨e,f1,he,?_,?_⟩;·rw[hm,f1,YI,YI,kl he]
   .trivial
  .refine .inr ⟨hl,n,hn0,hn,rD hx hS (Cp hx hl hn hv) (Kg hx.sh.sr hS hl _ _) (Bg hx.sh.sr hl hn _) (oE _ _ _ _).1 (.inl ⟨rfl,rfl⟩) hc (Cw.same (oE _ _ _ _).2.1 _) ?_ ?_⟩
   .rw[hm,f1];rfl
   .trivial
theorem d6(hc:x8 6 a b c=0):(sd x b=0/\Er x ⟨6,a,b,c⟩ 2)\/(∃e,R3 x a (sd x b) c=some (x,e)/\Er x ⟨6,a,b,c⟩ e) \/
  (wg x.Q a=false/\Dn x ⟨6,a,b,c⟩ (cE x a.toNat (sd x b) c) (bg x (sd x b))):=by
 obtain⟨ha,hb,hcc⟩:=PY hc;have hm:u4 x ⟨6,a,b,c⟩=_:=Tz hc;unfold L2 at hm;have key:(u4 x ⟨6,a,b,c⟩=(((R3 x a (sd x b) c).bind λv1=>some (v1.1,v1.2)).bind (AD x ⟨6,a,b,c⟩))/\True)\/(sd x b=0/\Er x ⟨6,a,b,c⟩ 2):=by
  by_cases h1:b = -1
  .subst h1;left;rw[Hm hx.sh (r:=-1) (by omega)];refine⟨?_,trivial⟩;rw[hm,zb (by rfl)]
  .rw[za (by simpa using h1),jc hx.sh,YI] at hm;by_cases h0:sd x b=0
   .have has:Aq x b=(0,2):=by unfold Aq;rw[zb h0]
    rw[has,zb (by simp)] at hm;refine .inr ⟨h0,by decide,?_,?_⟩
    .rw[hm,YI];exact kl (e:=2) (by decide)
    .trivial
   .have has:Aq x b=(sd x b,0):=by unfold Aq;rw[za h0]
    rw[has,za (by simp)] at hm;exact .inl ⟨hm,trivial⟩
 rcases key with ⟨hm,hnm⟩ | key
 .right;rcases DE hx a (sd x b) c (jP hx.sh b) hcc with ⟨e,he,f1,f2⟩ | ⟨hh,n,rfl,hn,hw,f1,f2⟩
  .refine .inl ⟨e,f1,he,?_,?_⟩;·rw[hm,f1,YI,YI,kl he]
   .trivial
  .rw[zR];obtain⟨r1,r2,_,_⟩:=Ai x n (sd x b) c;refine .inr ⟨hw,rD hx hS (vY hx hn hh hcc hw) (FH hx hS hn _ _) (FF hx hn _ _) r1 (.inr ⟨.inl rfl,rfl⟩) hc (by rw[zb rfl];exact Cw.set r2) ?_ ?_⟩
   .rw[hm,f1];rfl
   .trivial
 .exact .inl key
theorem d8(hc:x8 8 a b c=0):(sd x a=0/\Er x ⟨8,a,b,c⟩ 2)\/(sd x a∈lv x.S/\∃e,bW x (sd x a) (sd x b)=some (x,e)/\Er x ⟨8,a,b,c⟩ e) \/
  (sd x a∈lv x.S/\∃r,U1 x.T (sd x a) (sd x b)=some r/\r.2.2=0/\Dn x ⟨8,a,b,c⟩ (iE x (sd x b) r.1 r.2.1) (bg x (sd x b))):=by
 obtain⟨ha,hb⟩:=Tt hc;have hm:u4 x ⟨8,a,b,c⟩=_:=XN hc;unfold bp at hm;rw[jc hx.sh,YI] at hm;by_cases h0:sd x a=0
 .have has:Aq x a=(0,2):=by unfold Aq;rw[zb h0]
  rw[has,zb (by simp)] at hm;refine .inl ⟨h0,by decide,?_,?_⟩
  .rw[hm,YI];exact kl (e:=2) (by decide)
  .trivial
 .have has:Aq x a=(sd x a,0):=by unfold Aq;rw[za h0]
  have hl:=(dV hx.sh a).resolve_left h0;rw[has,za (by simp)] at hm;dsimp only at hm;rw[nr hx.sh,YI] at hm;right;rcases Rh hx hS (sd x a) (sd x b) (jP hx.sh a) (jP hx.sh b) with ⟨e,he,f1,f2⟩ | ⟨hl,hv,r,r1,r2,f1,f2⟩
  .refine .inl ⟨hl,e,f1,he,?_,?_⟩;·rw[hm,f1,YI,YI,kl he]
   .trivial
  .refine .inr ⟨hl,r,r1,r2,rD hx hS (EO hx hl hv r1 r2) (NJ hx.sh.sr hS _ _ _) (EN hx.sh.sr _ _ _) (rE _ _ _ _).1 (.inr ⟨.inr rfl,rfl⟩) hc (Cw.same (rE _ _ _ _).2.1 _) ?_ ?_⟩
   .rw[hm,f1];rfl
   .trivial
theorem d10(hz:zr x = [])(hc:x8 10 a b c=0):Dn x ⟨10,a,b,c⟩ x (if sd x a=sd x b then 1 else 0):=by
 obtain⟨ha,hb⟩:=Sj hc;refine⟨hx,hS,Ev.refl x,Cw.refl x _,?_,?_⟩
 .rw[VY hc];unfold R8 AD Y6;rw[YI,za (by simp),jf hx hS,YI];simp only[jn];rw[za (by decide),za (by decide),za (by decide),zb (by rfl),nr hx.sh,YI,nr hx.sh,YI];by_cases q:sd x a=sd x b
  .rw[zb (by simpa using q),zb q];rfl
  .rw[za (by simpa using q),za q];rfl
 .trivial
theorem d1(hb:x.S.Serial<9223372036854775807)(hc:x8 1 a b c=0):(∃e,W7 x.S b c=some (x.S,0,e)/\Er x ⟨1,a,b,c⟩ e) \/
  (b.toNat<=4/\(-1<=c/\c<=5)/\∃i,VM x.S i/\Dn x ⟨1,a,b,c⟩ (G0 (wS x (dm x.S i b.toNat c)) a.toNat (bV x.S i)) (x.S.Serial+1)):=by
 obtain⟨ha,hbb,hcc⟩:=Tp hc;have hR:=hx.sh.sr;have hm:u4 x ⟨1,a,b,c⟩=_:=XH hc;unfold X6 at hm;dsimp only at hm;rcases Wx hR hb b c with ⟨e,he,f1,f2⟩ | ⟨_,_,i,hF,f1,f2⟩
 .refine .inl ⟨e,f1,he,?_,?_⟩;·rw[hm,f1,YI,zb (by simpa using he),YI,kl he]
  .trivial
 .refine .inr ⟨by omega,hcc,i,hF,?_⟩;obtain⟨hi,h0,_⟩:=hF;have hn:b.toNat<=4:=by omega
  have hy:=yq hx hi h0 hn hcc;have yS:=WA hx hS hi h0 hn hcc;have hh:bV x.S i=0\/bV x.S i∈lv (wS x (dm x.S i b.toNat c)).S:=.inr (by
   show _∈lv (dm x.S i b.toNat c);rw[BB hR hi h0 hn hcc];exact t7 _ (zt.2 rfl))
  have hz:=bM hy (r:=a.toNat) (by omega) hh;have zS:=pe hy.sh.sr yS a.toNat (bV x.S i);obtain⟨e1,e2⟩:=vq hy ha hh;have e3:bg (wS x (dm x.S i b.toNat c)) (bV x.S i)=x.S.Serial+1:=by
   show (ob (dm x.S i b.toNat c) (bV x.S i)).Serial=_;rw[vb hR hi h0 hn hcc]
  refine⟨hz,zS,(Wz hx hi h0 hn hcc).ks (dc hy.sh.sr a.toNat _),Cw.same (jM (wS x (dm x.S i b.toNat c)) a.toNat _).2.1 _,?_,?_⟩
  .rw[hm,f1,YI,za (by simp)];dsimp only;rw[show B9 ⟨⟨dm x.S i b.toNat c,x.Roots,x.b7,x.T,x.Q⟩,⟨1,a,b,c⟩⟩ (bV x.S i) 0=_ from qe hy yS ha hh,YI,YI,Sl hz zS (by omega),e1,e2,e3]
  .trivial
end
theorem TA{x:Hp}(hx:J8 x)(hS:SL x)(hz:zr x = [])(hb:x.S.Serial<9223372036854775807)(o:g8):(∃e,Er x o e)\/∃z v,Dn x o z v:=by
 obtain⟨k,a,b,c⟩:=o;by_cases hc:x8 k a b c=0
 .have:=tp hc;have hk:k=1\/k=2\/k=3\/k=4\/k=5\/k=6\/k=7\/k=8\/k=9\/k=10\/k=11\/k=12:=by omega
  rcases hk with rfl | rfl | rfl | rfl | rfl | rfl | rfl | rfl | rfl | rfl | rfl | rfl
  .rcases d1 hx hS hb hc with ⟨e,_,h⟩ | ⟨_,_,i,_,h⟩;·exact .inl ⟨e,h⟩
   .exact .inr ⟨_,_,h⟩
  .exact .inr ⟨_,_,d2 hx hS hc⟩
  .exact .inr ⟨_,_,d3 hx hS hc⟩
  .rcases d4 hx hS hc with ⟨_,h⟩ | ⟨e,_,h⟩ | ⟨_,n,_,_,h⟩;·exact .inl ⟨_,h⟩
   .exact .inl ⟨_,h⟩
   .exact .inr ⟨_,_,h⟩
  .rcases d5 hx hS hc with ⟨_,h⟩ | ⟨e,_,h⟩ | ⟨_,n,_,_,h⟩;·exact .inl ⟨_,h⟩
   .exact .inl ⟨_,h⟩
   .exact .inr ⟨_,_,h⟩
  .rcases d6 hx hS hc with ⟨_,h⟩ | ⟨e,_,h⟩ | ⟨_,h⟩;·exact .inl ⟨_,h⟩
   .exact .inl ⟨_,h⟩
   .exact .inr ⟨_,_,h⟩
  .obtain⟨_,⟨_,h⟩ | ⟨_,h⟩⟩:=d7 hx hS hc;·exact .inl ⟨_,h⟩
   .exact .inr ⟨_,_,h⟩
  .rcases d8 hx hS hc with ⟨_,h⟩ | ⟨_,e,_,h⟩ | ⟨_,r,_,_,h⟩;·exact .inl ⟨_,h⟩
   .exact .inl ⟨_,h⟩
   .exact .inr ⟨_,_,h⟩
  .rcases d9 hx hS hc with ⟨_,h⟩ | ⟨_,_,h⟩ | ⟨_,v,_,h⟩;·exact .inl ⟨_,h⟩
   .exact .inl ⟨_,h⟩
   .exact .inr ⟨_,_,h⟩
  .exact .inr ⟨_,_,d10 hx hS hz hc⟩
  .obtain⟨h1,h2⟩:=Cj (x:=x) (a:=a) (b:=b) (c:=c) (.inl rfl) hc;exact .inl ⟨14,by decide,h1,h2⟩
  .obtain⟨h1,h2⟩:=Cj (x:=x) (a:=a) (b:=b) (c:=c) (.inr rfl) hc;exact .inl ⟨14,by decide,h1,h2⟩
 .obtain⟨h1,h2⟩:=Ma (x:=x) (o:=⟨k,a,b,c⟩) hc;exact .inl ⟨_,hc,h1,h2⟩
noncomputable def iY(x:Hp)(o:g8):Hp × Int × Int:=(u4 x o).getD (x,0,0)
structure VB (x:Hp) (o:g8) (y:Hp) (v e:Int):Prop where
 rt:J8 y
 sl:SL y
 zr:zr y = []
 ev:Ev x y
 cw:Cw x y (if o.Kind=6 then o.A else -1)
 er:e≠0->y=x/\v=0
 mc:u4 x o=some (y,v,e)
 rf:True
theorem Dn.Yz{x z:Hp}{o:g8}{v:Int}(d:Dn x o z v):VB x o (bu z) v 0:=by
 have st:=lU d.rt;exact⟨nu d.rt,Jt d.rt d.sl,BM d.rt,d.ev.YD st,d.cw.trans (st.cw _),λh=>absurd rfl h,d.mc,d.rf⟩
theorem QQ{x:Hp}(hx:J8 x)(hS:SL x)(hz:zr x = [])(hb:x.S.Serial<9223372036854775807)(o:g8):∃y v e,VB x o y v e:=by
 rcases TA hx hS hz hb o with ⟨e,h1,h2,h3⟩ | ⟨z,v,d⟩;·exact⟨x,0,e,hx,hS,hz,Ev.refl x,Cw.refl x _,λ_=>⟨rfl,rfl⟩,h2,h3⟩
 .exact⟨_,_,_,d.Yz⟩
theorem tM{x:Hp}(hx:J8 x)(hS:SL x)(hz:zr x = [])(hb:x.S.Serial<9223372036854775807)(o:g8):VB x o (iY x o).1 (iY x o).2.1 (iY x o).2.2:=by
 obtain⟨y,v,e,h⟩:=QQ hx hS hz hb o;have:iY x o=(y,v,e):=by unfold iY;rw[h.mc];rfl
 rw[this];exact h
noncomputable def runs(x:Hp)(l:List g8):Hp × List Int:=l.foldl (λp o=>((iY p.1 o).1,p.2 ++ [(iY p.1 o).2.1])) (x,[])
theorem pZ(x:Hp)(l:List g8)(o:g8):runs x (l ++ [o])=((iY (runs x l).1 o).1,(runs x l).2 ++ [(iY (runs x l).1 o).2.1]):=by
 unfold runs;rw[zat];rfl
theorem yM{x:Hp}(hx:J8 x)(hS:SL x)(hz:zr x = [])(l:List g8)(hb:x.S.Serial+l.length<9223372036854775807)(P:Hp->Prop)(h0:P x)
  (hs:∀(y:Hp) (o:g8),o∈l->J8 y->VB y o (iY y o).1 (iY y o).2.1 (iY y o).2.2->P y->P (iY y o).1):∀k,k<=l.length ->
  J8 (runs x (l.take k)).1/\SL (runs x (l.take k)).1/\zr (runs x (l.take k)).1 = []/\(runs x (l.take k)).1.S.Serial<=x.S.Serial+k/\(runs x (l.take k)).2.length=k/\P (runs x (l.take k)).1
 | 0,_=>⟨hx,hS,hz,by show x.S.Serial<=_;omega,rfl,h0⟩
 | k+1,hk=>by
  obtain⟨a1,a2,a3,a4,a5,a6⟩:=yM hx hS hz l hb P h0 hs k (by omega);have hk':k<l.length:=by omega
  have n:=tM a1 a2 a3 (by omega) l[k];rw[U2 hk',pZ];exact⟨n.rt,n.sl,n.zr,by have:=n.ev.s2;show (iY _ _).1.S.Serial<=_;omega,by simp[a5],hs _ _ (zh hk') a1 n a6⟩
theorem run_eq{x:Hp}(hx:J8 x)(hS:SL x)(hz:zr x = [])(l:List g8)(hl:l.length<=1000)(hb:x.S.Serial+l.length<9223372036854775807) :
  gP x l=some (runs x l)/\True:=by
 have all:=yM hx hS hz l hb (λ_=>True) trivial (λ_ _ _ _ _ _=>trivial);constructor
 .unfold gP;simp only[jn];refine bY (T:=Hp × List Int) l.length (λk acc=>acc=runs x (l.take k)) (by omega) rfl (λk acc hk hP=>?_) (λacc hP=>?_)
  .subst hP;obtain⟨a1,a2,a3,a4,a5,_⟩:=all k (by omega);have n:=tM a1 a2 a3 (by omega) l[k];refine .inl ⟨_,?_,rfl⟩;rw[U2 hk,pZ];show (if _ then _ else _)=_;rw[zb (by simpa using hk),s7 hk,YI,n.mc,YI,K3 (by omega) (by rw[a5];simp;omega),YI,n9]
  .subst hP;refine⟨runs x (l.take l.length),?_,?_⟩
   .show (if _ then _ else _)=_;rw[za (by simp)]
   .rw[zQ]
 .trivial
section
variable{x:Hp}(hB:HB x)
include hB
end
def qq(k:Nat)(l:Int)(p:Nat):Hp:=⟨⟨⟨List.replicate k ⟨0,0,z0⟩,l⟩,0⟩,List.replicate 6 0,List.replicate 6 ⟨0,false,-1⟩,List.replicate p ⟨0,0,0⟩,⟨[],30⟩⟩
theorem ME{k p:Nat}{l:Int}(hk:1<=k/\k<=24)(hl:0<=l/\l<=9)(hp:1<=p/\p<=8) :
  lA k l p=some (qq k l p)/\tR k l p=some (hO (qq k l p))/\J8 (qq k l p)/\SL (qq k l p)/\zr (qq k l p) = []:=by
 have e1:jh k l=some (qq k l p).S:=by
  unfold jh ay;rw[za (by simp;omega),kD (by omega) (by omega)];rfl
 obtain⟨a,h1,h2,h3,_⟩:=WI k l;rw[e1] at h1;have ha:=zL h1;subst ha;have hR:SR (qq k l p).S:=A0.1 h3;have hce:∀i,ce (qq k l p).S i=⟨0,0,z0⟩:=λi=>by
  unfold ce qq;dsimp only;rw[zd,List.getElem?_replicate];split <;> rfl
 have hlv:lv (qq k l p).S = []:=za5.2 λh hh=>by
  obtain⟨i,q⟩:=(gO hR).1 hh;have:=q.2.1;rw[hce] at this;cases this
 refine⟨?_,?_,⟨⟨hR,(Vu (V:=Int) (λ_ _=>True) hp.1 hp.2).1,rfl,rfl,rfl,zV _,(λt ht=>nomatch ht),List.Pairwise.nil,(λh hh=>.inl (zbd.1 hh).2),λh hh=>?_,λa v hv=>?_,λi hi=>?_⟩,λi hi ht=>?_,λh hh=>?_⟩,λh hh=>?_,?_⟩
 .unfold lA;rw[za (by simp;omega),e1,YI,show mk 8 6 (0:Int)=some (List.replicate 6 0) from rfl,YI];refine rT (a:=List.replicate 6 ⟨0,false,-1⟩) (by kernel_rfl) ?_;rw[Us hp.1 hp.2,YI];refine rT (a:=⟨[],30⟩) (by kernel_rfl) ?_;rfl
 .unfold tR;rw[za (by simp;omega),h2,YI,show mk 8 6 (0:Int)=some (List.replicate 6 0) from rfl,YI];refine rT (a:=List.replicate 6 ⟨0,false,-1⟩) (by kernel_rfl) ?_;unfold Jg;rw[za (by simp;omega),kD (by omega) (by omega),YI,YI];refine rT (a:=⟨[],30⟩) (by kernel_rfl) ?_;unfold hO qq;dsimp only;rw[zch,zch];rfl
 .rw[hlv] at hh;cases hh
 .obtain⟨i,hi,_⟩:=hv;have:=hi.2.1;rw[show (qq k l p).T=List.replicate p ⟨0,0,0⟩ from rfl,vn] at this;cases this
 .have:(qq k l p).b7[i]=⟨0,false,-1⟩:=List.getElem_replicate ..;rw[this];exact⟨by decide,by decide,λ_=>rfl,λh=>absurd rfl h,λh=>by cases h⟩
 .rw[hce] at ht;rcases ht with h | h <;> cases h
 .rw[hlv] at hh;cases hh
 .rw[hlv] at hh;cases hh
 .unfold zr;rw[hlv];rfl
section
variable{x:Hp}(hB:HB x)
include hB
end
def EZ(o:g8):fm:=⟨o.Kind,o.A,o.B,o.C⟩
abbrev Cd(o:g8):Int:=x8 o.Kind o.A o.B o.C
theorem Ig(k a b c:Int):U3 [k,a,b,c]=some (if x8 k a b c≠0 then (⟨0,0,0,0⟩,x8 k a b c) else (⟨k,a,b,c⟩,0)):=by
 unfold U3;rw[za (by simp)];show (V8 ⟨k,a,b,c⟩).bind _=_;rw[ov,YI];by_cases h:x8 k a b c=0
 .rw[za (by simpa using h),za (by simpa using h)]
 .rw[zb (by simpa using h),zb h]
theorem LY(k a b c:Int):jI [k,a,b,c]=some (if x8 k a b c≠0 then (⟨0,0,0,0⟩,x8 k a b c) else (⟨k,a,b,c⟩,0)):=by
 unfold jI;rw[za (by simp)];show (fY ⟨k,a,b,c⟩).bind _=_;rw[Ib,YI];by_cases h:x8 k a b c=0
 .rw[za (by simpa using h),za (by simpa using h)]
 .rw[zb (by simpa using h),zb h]
theorem four(l:List Int):(∃k a b c,l = [k,a,b,c])\/l.length≠4:=by
 match l with
 | []=>exact .inr (by simp)
 | [_]=>exact .inr (by simp)
 | [_,_]=>exact .inr (by simp)
 | [_,_,_]=>exact .inr (by simp)
 | [k,a,b,c]=>exact .inl ⟨k,a,b,c,rfl⟩
 | _::_::_::_::_::l=>exact .inr (by simp)
theorem Ci{l:List Int}(h:l.length≠4):U3 l=some (⟨0,0,0,0⟩,14)/\jI l=some (⟨0,0,0,0⟩,14):=by
 unfold U3 jI;have:(((l.length:Int) != 4))=true:=by simp;omega
 rw[zb this,zb this];exact⟨rfl,rfl⟩
def bA(l:List Int):g8 × Int:=(U3 l).getD (⟨0,0,0,0⟩,0)
theorem DY(l:List Int):U3 l=some (bA l)/\jI l=some (EZ (bA l).1,(bA l).2):=by
 unfold bA;rcases four l with ⟨k,a,b,c,rfl⟩ | h
 .rw[Ig,LY];refine⟨rfl,?_⟩;rw[ul];by_cases h:x8 k a b c≠0
  .rw[zb h,zb h];rfl
  .rw[za h,za h];rfl
 .rw[(Ci h).1,(Ci h).2];exact⟨rfl,rfl⟩
def oZ(o:g8):Bool:=((decide (o.Kind>=1))&&(decide (o.Kind<=10)))&&(Cd o==0)
def tP(p:List g8):Bool:=decide (p.length<=6)&&p.all oZ
def fi(l:List (List g8)):Bool:=decide (l.length<=6)&&l.all tP
section
variable{l:List (List g8)}(hl:l.length<=12)(hp:∀p∈l,p.length<=12)
include hl hp
theorem ES:fN l=some (fi l):=by
 unfold fN fi;by_cases h6:l.length > 6
 .rw[zb (by simp;omega),zY (by omega)];rfl
 .rw[za (by simp;omega),zC (by omega),zbf];simp only[jn];have key:=CF (f:=λ(s23:Int)=>
   if (decide (s23<(l.length:Int))) then
     (ix l s23).bind λv34=>
     if (decide ((v34.length:Int) > 6)) then
      some (.inr (.inl false))
     else
     (lp (S:=Int) (E:=Bool ⊕ Unit) (λ(s36:Int)=>
      if (decide (s36<(v34.length:Int))) then
       (ix v34 s36).bind λv38=>
       (fM v38).bind λv39=>
       (E1 ((!v39)==false) 0 (V8 v38)).bind λv40=>
       if ((!v39)||(v40 != 0)) then
        some (.inr (.inl false))
       else
       some (.inl (w7 (s36+1)))
      else
      some (.inr (.inr ()))) 0).bind λe35=>
     match e35 with
     | .inl w=>some (.inr (.inl w))
     | .inr w=>some (Sum.inl (w7 (s23+1)))
   else
   some (.inr (.inr ()))) l tP (.inr ()) (Sum.inl (β:=Unit) false) (by omega) (λk hk=>?_) (by simp)
  .refine rT key ?_;cases l.all tP <;> rfl
  .rw[zb (by simpa using hk),s7 hk,YI];unfold tP;have hm:=hp _ (zh hk);generalize l[k]=p at hm |-;by_cases hq:p.length > 6
   .rw[zb (by simp;omega),zY (by omega)];rfl
   .rw[za (by simp;omega),zC (by omega),zbf];have k2:=CF (f:=λ(s36:Int)=>
      if (decide (s36<(p.length:Int))) then
       (ix p s36).bind λv38=>
       (fM v38).bind λv39=>
       (E1 ((!v39)==false) 0 (V8 v38)).bind λv40=>
       if ((!v39)||(v40 != 0)) then
        some (.inr (.inl false))
       else
       some (Sum.inl (w7 (s36+1)))
      else
      some (.inr (.inr ()))) p oZ (.inr ()) (Sum.inl (β:=Unit) false) (by omega) (λj hj=>?_) (by simp)
    .refine zcu (rT k2 (r:=if p.all oZ=true then some (.inl (w7 ((k:Int)+1))) else some (.inr (.inl false))) ?_) ?_;·cases p.all oZ <;> rfl
     .rw[n9]
    .rw[zb (by simpa using hj),s7 hj,YI,ov];unfold oZ fM;rw[YI,n9];cases ((decide (p[j].Kind>=1))&&(decide (p[j].Kind<=10)));·rfl
     .by_cases h:Cd p[j]=0
      .have e:x8 p[j].Kind p[j].A p[j].B p[j].C=0:=h;rw[e,h];rfl
      .have e1:(x8 p[j].Kind p[j].A p[j].B p[j].C != 0)=true:=by simpa using h
       have e2:(Cd p[j]==0)=false:=by simpa using h
       rw[e2];refine rT (a:=Cd p[j]) rfl ?_;rw[show (Cd p[j] != 0)=true from e1];rfl
theorem Ha:pU (l.map (List.map EZ))=some (fi l):=by
 unfold pU fi;rw[zm];by_cases h6:l.length > 6
 .rw[zb (by simp;omega),zY (by omega)];rfl
 .rw[za (by simp;omega),zC (by omega),zbf];simp only[jn];have key:=CF (f:=λ(s23:Int)=>
   if (decide (s23<(l.length:Int))) then
     (ix (l.map (List.map EZ)) s23).bind λv34=>
     if (decide ((v34.length:Int) > 6)) then
      some (.inr (.inl false))
     else
     (lp (S:=Int) (E:=Bool ⊕ Unit) (λ(s36:Int)=>
      if (decide (s36<(v34.length:Int))) then
       (ix v34 s36).bind λv38=>
       (pT v38).bind λv39=>
       (E1 ((!v39)==false) 0 (fY v38)).bind λv40=>
       if ((!v39)||(v40 != 0)) then
        some (.inr (.inl false))
       else
       some (.inl (w7 (s36+1)))
      else
      some (.inr (.inr ()))) 0).bind λe35=>
     match e35 with
     | .inl w=>some (.inr (.inl w))
     | .inr w=>some (Sum.inl (w7 (s23+1)))
   else
   some (.inr (.inr ()))) l tP (.inr ()) (Sum.inl (β:=Unit) false) (by omega) (λk hk=>?_) (by simp)
  .refine rT key ?_;cases l.all tP <;> rfl
  .rw[zb (by simpa using hk),tg,s7 hk,un,YI,zm];unfold tP;have hm:=hp _ (zh hk);generalize l[k]=p at hm |-;by_cases hq:p.length > 6
   .rw[zb (by simp;omega),zY (by omega)];rfl
   .rw[za (by simp;omega),zC (by omega),zbf];have k2:=CF (f:=λ(s36:Int)=>
      if (decide (s36<(p.length:Int))) then
       (ix (p.map EZ) s36).bind λv38=>
       (pT v38).bind λv39=>
       (E1 ((!v39)==false) 0 (fY v38)).bind λv40=>
       if ((!v39)||(v40 != 0)) then
        some (.inr (.inl false))
       else
       some (Sum.inl (w7 (s36+1)))
      else
      some (.inr (.inr ()))) p oZ (.inr ()) (Sum.inl (β:=Unit) false) (by omega) (λj hj=>?_) (by simp)
    .refine zcu (rT k2 (r:=if p.all oZ=true then some (.inl (w7 ((k:Int)+1))) else some (.inr (.inl false))) ?_) ?_;·cases p.all oZ <;> rfl
     .rw[n9]
    .rw[zb (by simpa using hj),tg,s7 hj,un,YI,Ib];unfold oZ pT;rw[YI,n9];rw[show (EZ p[j]).Kind=p[j].Kind from rfl];cases ((decide (p[j].Kind>=1))&&(decide (p[j].Kind<=10)));·rfl
     .by_cases h:Cd p[j]=0
      .have e:x8 p[j].Kind (EZ p[j]).A (EZ p[j]).B (EZ p[j]).C=0:=h;rw[e,h];rfl
      .have e1:(x8 p[j].Kind p[j].A p[j].B p[j].C != 0)=true:=by simpa using h
       have e2:(Cd p[j]==0)=false:=by simpa using h
       rw[e2];refine rT (a:=Cd p[j]) rfl ?_;rw[show (Cd p[j] != 0)=true from e1];rfl
end
noncomputable def FO(x:Hp):List Int:=GK x.S x.T
noncomputable def dz(x:Hp):List Int:=VE x.S x.T (FO x)
theorem bk{x:Hp}{h:Int}:h∈dz x↔h∈lv x.S/\¬aU x.S x.T (FO x) h:=by
 classical
 unfold dz VE;rw[zk,zH]
section
variable{x:Hp}(hx:J8 x)
include hx
theorem eG:(dz x).Nodup:=zb7 _ (oV (A0.2 hx.sh.sr))
theorem cI:∀d∈dz x,d∈lv x.S:=λd hd=>(bk.1 hd).1
theorem Jo{h:Int}(hl:h∈lv x.S)(hs:(ob x.S h).Strong<12):KS x.S x.T h=(J3 (nZ x) h:Int):=Mf.2 hx.fair h hl hs
theorem CA{h:Int}(hl:h∈lv x.S)(ho:h∈nZ x):h∈FO x:=by
 refine pQ.2 ⟨hl,?_⟩;by_cases hs:(ob x.S h).Strong<12
 .left;rw[Jo hx hl hs];have:=iW.2 ⟨λe=>eP hx.sh.sr (e▸hl),ho⟩;omega
 .exact .inr (by omega)
theorem GJ{h:Int}(hh:h∈FO x):h∈lv x.S/\(h∈nZ x\/12<=(ob x.S h).Strong):=by
 obtain⟨hl,hs⟩:=pQ.1 hh;refine⟨hl,?_⟩;by_cases q:(ob x.S h).Strong<12
 .rcases hs with hs | hs
  .rw[Jo hx hl q] at hs;exact .inl (iW.1 (by omega)).2
  .omega
 .exact .inr (by omega)
theorem Qm:∀d∈dz x,d∉nZ x:=λd hd q=>by
 obtain⟨a,b⟩:=bk.1 hd;exact b (.base (CA hx a q) a)
theorem Ql:∀h∈lv x.S,h∉dz x->∀v∈(ob x.S h).Fields,v∉dz x:=λh hh hn v hv q=>by
 obtain⟨a,b⟩:=bk.1 q;have hr:aU x.S x.T (FO x) h:=rx λr=>hn (bk.2 ⟨hh,r⟩);exact b (.step hr (fW.2 ⟨hv,λe=>eP hx.sh.sr (e▸a)⟩) a)
theorem Qn:∀k v,Has x.T k v->k∉dz x->v∉dz x:=λk v hk hn q=>by
 obtain⟨a,b⟩:=bk.1 q;have hr:aU x.S x.T (FO x) k:=rx λr=>hn (bk.2 ⟨(hx.sh.pr k v hk).1,r⟩);exact b (.pair hk hr a)
theorem dO:J8 (gH x (dz x)):=Ba hx (eG hx) (cI hx) (Qm hx) (Ql hx) (Qn hx)
end
theorem yH:∀(l:List Int) {x:Hp} (hR:SR x.S) {h:Int} (hh:h∈lv x.S) (hs:12<=(ob x.S h).Strong),12<=(ob (l.foldl ax x).S h).Strong
 | [],_,_,_,_,hs=>hs
 | v::l,x,hR,h,hh,hs=>by
  have k1:=H7 hR v (f:=kR) λc=>P3;refine yH l (x:=ax x v) k1.sr (by
   show h∈lv (ue x v kR).S;rw[k1.lv];exact hh) ?_
  show 12<=(ob (ue x v kR).S h).Strong;rw[vz (x:=x) hR (h:=v) (f:=kR) (λc=>P3) hh];split
  .unfold kR;rw[zb hs];omega
  .exact hs
section
variable{x:Hp}(hx:J8 x)
include hx
theorem xU{h:Int}:h∈lv (gH x (dz x)).S↔aU x.S x.T (FO x) h:=by
 rw[Gf hx.sh.sr (eG hx) (cI hx),zk,zH,bk];constructor
 .rintro⟨a,b⟩;exact rx λr=>b ⟨a,r⟩
 .intro r;exact⟨r.live,λq=>q.2 r⟩
theorem Wg{h:Int}(hh:h∈lv (gH x (dz x)).S):(ob (gH x (dz x)).S h).Serial=(ob x.S h).Serial/\(ob (gH x (dz x)).S h).Prog=(ob x.S h).Prog/\(ob (gH x (dz x)).S h).Fields=(ob x.S h).Fields/\(ob (gH x (dz x)).S h).Started=(ob x.S h).Started:=by
 have r:=(xU hx).1 hh;obtain⟨n,e⟩:=Gg hx.sh.sr (eG hx) (cI hx) r.live (λq=>(bk.1 q).2 r);rw[e];exact⟨rfl,rfl,rfl,rfl⟩
theorem Mt{h:Int}(hh:h∈lv (gH x (dz x)).S)(hs:12<=(ob x.S h).Strong):12<=(ob (gH x (dz x)).S h).Strong:=by
 have r:=(xU hx).1 hh;have g:=eH (dz x) hx.sh.sr (eG hx) (cI hx);have hn:h∉dz x:=λq=>(bk.1 q).2 r;refine yH _ (x:=jl x (dz x) (lf x.T (dz x)).1) g.sr ?_ ?_
 .show h∈lv (oi x.S (dz x));rw[g.lv,zk];exact⟨r.live,by simpa using hn⟩
 .show 12<=(ob (oi x.S (dz x)) h).Strong;rw[g.ob h r.live hn];exact hs
theorem TK:nZ (gH x (dz x))=nZ x:=by
 obtain⟨e1,_,_,e4⟩:=sj hx.sh.sr (eG hx) (cI hx);unfold nZ;rw[e1,e4,ya _ _ _ λt ht=>by
  obtain⟨w,_,rfl,_⟩:=gy.1 ht;simp]
theorem Qk{h:Int}(hh:aU x.S x.T (FO x) h):aU (gH x (dz x)).S (gH x (dz x)).T (FO (gH x (dz x))) h:=by
 have w:=dO hx;obtain⟨_,_,e3,_⟩:=sj hx.sh.sr (eG hx) (cI hx);have hlen:(dz x).length<=1000:=by
  have:=Y9 (eG hx) (cI hx);have:=M0 (A0.2 hx.sh.sr);omega
 obtain⟨_,_,_,_,w5,_⟩:=jU hx.sh.hr (dz x) hlen;induction hh with
 | base h1 h2=>
  have hl:=(xU hx).2 (.base h1 h2);refine .base ?_ hl;rcases (GJ hx h1).2 with q | q
  .exact CA w hl (by rw[TK hx];exact q)
  .exact pQ.2 ⟨hl,.inr (Mt hx hl q)⟩
 | step q0 q1 q2 ih=>
  refine .step ih ?_ ((xU hx).2 (.step q0 q1 q2));unfold outs at q1 |-;rw[(Wg hx ((xU hx).2 q0)).2.2.1];exact q1
 | pair q1 q0 q2 ih=>
  refine .pair ?_ ih ((xU hx).2 (.pair q1 q0 q2));rw[e3];exact (w5 _ _).2 ⟨λq=>(bk.1 q).2 q0,q1⟩
theorem Ei:dz (gH x (dz x)) = []:=za5.2 λh hh=>by
 obtain⟨a,b⟩:=bk.1 hh;exact b (Qk hx ((xU hx).1 a))
end
theorem DV{x:Hp}(hx:J8 x)(hg:dz x = []):zr x = []:=za5.2 λh hh=>by
 have hl:=(cS.1 hh).1;have hs:=(cS.1 hh).2;have hf:=DH hx hh;have h0:h≠0:=λe=>eP hx.sh.sr (e▸hl);have r:aU x.S x.T (FO x) h:=rx λr=>by
  have:h∈dz x:=bk.2 ⟨hl,r⟩;rw[hg] at this;cases this
 unfold lH at hf;cases r with
 | base h1 h2=>
  rcases (GJ hx h1).2 with q | q
  .have:=iW.2 ⟨h0,q⟩;omega
  .omega
 | step q0 q1 q2=>
  have:=CE (y:=h) q0.live;have h1:=iW.2 ⟨h0,q1⟩;omega
 | pair q1 q0 q2=>
  have:=CU q1 h0;omega
theorem xV{x:Hp}(hx:J8 x):bu (gH x (dz x))=gH x (dz x):=Ot (DV (dO hx) (Ei hx))
theorem MH{c:Int}(h:0<=c):1<=Y5 c:=by unfold Y5;split <;> (try split) <;> omega
theorem Hb{x:Hp}(hR:SR x.S){h:Int}(hh:h∈lv x.S){k:Int}(hk:k∈lv x.S):(ob (gC x h).S k).Strong=if k=h then Y5 (ob x.S k).Strong else (ob x.S k).Strong:=by
 have oko:=J7 hR hh;have ho:Ap x.S (fz (ob x.S h)):=⟨oko.s1,oko.s2,oko.st,oko.wk,oko.p1,oko.p2,oko.fl⟩;have r1:=bN (o:=fz (ob x.S h)) hR hh rfl ho;have l1:lv (cT x.S h (fz (ob x.S h)))=lv x.S:=iA (o:=fz (ob x.S h)) hR hh rfl ho;have hr:=H5 hR hk;have e1:(ob (cT x.S h (fz (ob x.S h))) k).Strong=(ob x.S k).Strong:=by
  rw[ga (o:=fz (ob x.S h)) hR hh rfl ho (by omega)];split;·rename_i e;subst e;rfl
  .rfl
 have:=vz (x:=⟨cT x.S h (fz (ob x.S h)),x.Roots,x.b7,x.T,⟨x.Q.L ++ [Au x h],x.Q.Cap⟩⟩) r1 (h:=h) (f:=Y5) (λc=>E4) (k:=k) (by
  show k∈lv (cT x.S h (fz (ob x.S h)));rw[l1];exact hk)
 rw[show (ob (gC x h).S k).Strong=_ from this];show (if k=h then Y5 (ob (cT x.S h (fz (ob x.S h))) k).Strong else (ob (cT x.S h (fz (ob x.S h))) k).Strong)=_;rw[e1]
theorem UT{x:Hp}(hx:J8 x)(hz:zr x = []){h:Int}(hh:h∈lv x.S):zr (gC x h) = []:=za5.2 λk hk=>by
 obtain⟨a,b⟩:=cS.1 hk;rw[CZ hx.sh.sr hh] at a;rw[Hb hx.sh.sr hh a] at b;have h0:=(J7 hx.sh.sr a).st;have hn:(ob x.S k).Strong≠0:=λq=>by
  have:k∈zr x:=cS.2 ⟨a,q⟩;rw[hz] at this;cases this
 split at b;·have:=MH h0;omega
 .exact hn b
structure Qd (x y:Hp) (l:List Int):Prop where
 rt:J8 y
 sl:SL y
 zr:zr y = []
 lv:lv y.S=lv x.S
 ob:∀k∈Sh.lv x.S,∃n,Sh.ob y.S k=AP (if k∈l then fz (Sh.ob x.S k) else Sh.ob x.S k) n
 ro:y.Roots=x.Roots
 ce:y.b7=x.b7
 t:y.T=x.T
 q:y.Q=⟨x.Q.L++l.map (Au x),x.Q.Cap⟩
 bg:y.S.Serial=x.S.Serial
theorem Rm{x:Hp}(hR:SR x.S){h:Int}(hh:h∈lv x.S):(gC x h).S.Serial=x.S.Serial:=(nf hR hh).1.bg
theorem yA:∀(l:List Int) {x:Hp},J8 x->SL x->Sh.zr x = []->l.Nodup->(∀h∈l,h∈Sh.lv x.S/\due (Sh.ob x.S h)=true)->Qd x (l.foldl gC x) l
 | [],x,hx,hS,hz,_,_=>⟨hx,hS,hz,rfl,λk hk=>⟨(Sh.ob x.S k).Strong,by rw[za (by simp)];rfl⟩,rfl,rfl,rfl,by simp,rfl⟩
 | h::l,x,hx,hS,hz,hn,hd=>by
  obtain⟨hl,hdu⟩:=hd h (zf ..);have hR:=hx.sh.sr;rw[pi] at hn;have q2:=hdu;unfold due at q2;rw[zA,zH,zb8] at q2;have h1:=vo hx hl q2.1 q2.2;have h2:=NV hR hS hl;have h3:=UT hx hz hl;have lq:=CZ hR hl;have oq:∀k∈Sh.lv x.S,k≠h->∃n,Sh.ob (gC x h).S k=AP (Sh.ob x.S k) n:=λk hk hne=>by
   obtain⟨n,e⟩:=yz hR hl hk;rw[za hne] at e;exact⟨n,e⟩
  have ih:=yA l h1 h2 h3 hn.2 λk hk=>by
   obtain⟨a,b⟩:=hd k (zl _ hk);obtain⟨n,e⟩:=oq k a λe=>hn.1 (e▸hk);refine⟨by rw[lq];exact a,?_⟩;rw[e];exact b
  obtain⟨_,k1,k2,k3,k4⟩:=nf hR hl;refine⟨ih.rt,ih.sl,ih.zr,ih.lv.trans lq,λk hk=>?_,ih.ro.trans k1,ih.ce.trans k2,ih.t.trans k3,?_,ih.bg.trans (Rm hR hl)⟩
  .obtain⟨n,e⟩:=ih.ob k (by rw[lq];exact hk);obtain⟨m,e2⟩:=yz hR hl hk;refine⟨n,?_⟩;show Sh.ob (l.foldl gC (gC x h)).S k=_;rw[e];by_cases c:k=h
   .subst c;rw[za hn.1,zb (zf ..),e2,zb rfl]
   .rw[za c] at e2;by_cases c2:k∈l
    .rw[zb c2,zb (zl _ c2),e2]
    .rw[za c2,za (λq=>by
      rcases zN.1 q with r | r
      .exact c r
      .exact c2 r),e2]
  .show (l.foldl gC (gC x h)).Q=_;rw[ih.q,k4];have:l.map (Au (gC x h))=l.map (Au x):=zo λk hk=>by
    obtain⟨a,_⟩:=hd k (zl _ hk);obtain⟨n,e⟩:=oq k a λe=>hn.1 (e▸hk);show (⟨1,k,(Sh.ob (gC x h).S k).Prog⟩:e6)=⟨1,k,(Sh.ob x.S k).Prog⟩;rw[e]
   rw[this];simp
noncomputable def jW(x:Hp):List Int:=(dz x).filter λh=>due (Sh.ob x.S h)
noncomputable def As(x:Hp):Hp:=if jW x = [] then gH x (dz x) else (jW x).foldl gC x
theorem mB{x:Hp}:∀h∈jW x,h∈Sh.lv x.S/\due (Sh.ob x.S h)=true:=λh hh=>by
 obtain⟨a,b⟩:=zk.1 hh;exact⟨(bk.1 a).1,b⟩
theorem xA{x:Hp}(hx:J8 x):(jW x).Nodup:=zb7 _ (eG hx)
theorem LL{x:Hp}(hx:J8 x)(hS:SL x)(hz:zr x = []):Qd x ((jW x).foldl gC x) (jW x):=yA _ hx hS hz (xA hx) mB
theorem Gp{x:Hp}(hx:J8 x)(hS:SL x)(hz:zr x = []):J8 (As x)/\SL (As x)/\zr (As x) = []:=by
 unfold As;split;·exact⟨dO hx,LM hx.sh.sr hS (eG hx) (cI hx),DV (dO hx) (Ei hx)⟩
 .have q:=LL hx hS hz;exact⟨q.rt,q.sl,q.zr⟩
theorem Tx{y:Hp}(h:jW y = []):As y=gH y (dz y):=by
 unfold As;rw[zb h]
section
variable{x:Hp}(hx:J8 x)
include hx
end
structure Rs (x:Hp) (n:Nat):Prop where
 rt:J8 x
 sl:SL x
 zr:zr x = []
 bg:x.S.Serial<=n
section
variable{x:Hp}(hx:J8 x)(hS:SL x)
include hx hS
theorem LO:U0 x=some (dz x):=by
 have hB:=Wl hx hS;unfold U0;rw[GH (A0.2 hx.sh.sr) hx.sh.hr hB.tb hB.fb hB.sb];rfl
theorem Cs:(dz x).length<=24:=zP (zy ..) (M0 (A0.2 hx.sh.sr))
theorem Tk:gr x=some (jW x):=by
 have hR:=hx.sh.sr;have hl:=Cs hx hS;unfold gr;rw[LO hx hS,YI];unfold J6;simp only[jn];refine rT (a:=jW x) ?_ rfl;refine bY (dz x).length (λk b=>b=((dz x).take k).filter λh=>due (Sh.ob x.S h)) (by omega) rfl (λk b hk hP=>?_) (λb hP=>?_)
 .subst hP;have hm:=cI hx _ (zh hk);have hle:(((dz x).take k).filter λh=>due (Sh.ob x.S h)).length<=24:=zP (zy ..) (by simp;omega);refine .inl ⟨_,?_,rfl⟩;rw[zb (by simpa using hk),s7 hk,YI,U2 hk,zao];unfold ia;rw[xY hR hm,YI,YI];have e:(decide ((ob x.S (dz x)[k],(0:Int)).1.Prog>=0) && !(ob x.S (dz x)[k],(0:Int)).1.Started)=due (ob x.S (dz x)[k]):=rfl;rw[e];cases hd:due (ob x.S (dz x)[k])
  .rw[za (by simp),n9];simp[hd]
  .rw[zb rfl,K3 (by omega) (by simp;omega),YI,n9];simp[hd]
 .subst hP;refine⟨_,za (by simp),?_⟩;rw[zQ];rfl
noncomputable def LP(x:Hp):Int:=if jW x = [] then ((lv x.S).length:Int)-((lv (As x).S).length:Int) else 0
omit hx hS in
theorem Ui {l:List Int} (hn:l.Nodup) (hm:∀d∈l,d∈lv x.S):Xu x l=l:=by
 have key:∀(l b:List Int),(b++l).Nodup->(∀d∈l,d∈lv x.S)->l.foldl (λb h=>if h∈lv x.S/\h∉b then b ++ [h] else b) b=b++l:=by
  intro l;induction l with
  | nil=>intro b _ _;simp
  | cons a l ih=>
   intro b hn hm;rw[zaj];have ha:a∉b:=λq=>by
    rw[zbu] at hn;exact hn.2.2 a q a (zf ..) rfl
   rw[zb ⟨hm a (zf ..),ha⟩,ih (b ++ [a]) (by simpa using hn) λd hd=>hm d (zl _ hd)];simp
 exact key l [] (by simpa using hn) hm
variable(hz:zr x = [])
include hz
theorem RM{k:Nat}(hk:k<(jW x).length):(((jW x).take k).foldl gC x)=(((jW x).take k).foldl gC x)/\J8 (((jW x).take k).foldl gC x)/\SL (((jW x).take k).foldl gC x)/\(jW x)[k]∈lv (((jW x).take k).foldl gC x).S/\due (ob (((jW x).take k).foldl gC x).S (jW x)[k])=true:=by
 have hn:=xA hx;have q:=yA ((jW x).take k) hx hS hz ((zb9 ..).nodup hn) λh hh=>mB h (zaf hh);obtain⟨a,b⟩:=mB (jW x)[k] (zh hk);refine⟨rfl,q.rt,q.sl,by rw[q.lv];exact a,?_⟩;obtain⟨n,e⟩:=q.ob _ a;have hnot:(jW x)[k]∉(jW x).take k:=λh=>by
  have:=U2 hk;have hs:((jW x).take (k+1)).Nodup:=(zb9 ..).nodup hn;rw[this,zbu] at hs;exact hs.2.2 _ h _ (List.mem_singleton_self _) rfl
 rw[e,za hnot];exact b
theorem HW:(jW x).length<=24:=zP (zy ..) (Cs hx hS)
theorem Tw:aD x=some (As x,((jW x).length:Int),LP x):=by
 have hR:=hx.sh.sr;have hl:=HW hx hS hz;obtain⟨c1,c2,c3⟩:=Gp hx hS hz;unfold aD;rw[Tk hx hS,YI];simp only[jn];refine bY (jW x).length (λk b=>b=((jW x).take k).foldl gC x) (by omega) rfl (λk b hk hP=>?_) (λb hP=>?_)
 .subst hP;obtain⟨_,r1,r2,r3,r4⟩:=RM hx hS hz hk;refine .inl ⟨_,?_,rfl⟩;rw[zb (by simpa using hk),s7 hk,YI,BH r1 r2 (qK r1.sh.sr r3),YI,n9,U2 hk,zat];unfold Xy;rw[zb ⟨r3,r4⟩];rfl
 .subst hP;refine⟨_,za (by simp),?_⟩;rw[zQ];by_cases hb:jW x = []
  .have e:As x=gH x (dz x):=Tx hb;rw[za (by simp[hb])];unfold LP;rw[zb hb,e,hb];have h1:=eG hx;have h2:=cI hx;have hlive:=gw (A0.2 hR);have hlive2:=gw (A0.2 (dO hx).sh.sr);have l1:=M0 (A0.2 hR);have l2:=M0 (A0.2 (dO hx).sh.sr);show (U0 x).bind _=_;rw[LO hx hS,YI,List.foldl_nil,HY hx h1 h2 (Rz hx) (by rw[tt hR _ (by have:=Cs hx hS;omega) λh hh=>qK hR (h2 h hh),Ui h1 h2]),YI,jf (dO hx) (by rw[<-e];exact c2),YI,xV hx,hlive,YI,hlive2,YI,O9 (by omega) (by omega)];rfl
  .have:0<(jW x).length:=List.length_pos_iff.2 hb;rw[zb (by simp;omega)];unfold LP As;rw[za hb,za hb]
end
theorem Qe{x:Hp}(hx:J8 x)(hS:SL x)(hz:zr x = []):(As x).S.Serial=x.S.Serial:=by
 unfold As;split
 .have g:=eH (dz x) hx.sh.sr (eG hx) (cI hx);exact (gX ((dz x).flatMap (outs x.S)++(lf x.T (dz x)).2) (x:=jl x (dz x) (lf x.T (dz x)).1) g.sr).1.bg.trans g.bg
 .exact (LL hx hS hz).bg
def Sv(s s':b6):Prop:=s'.S.b7.length=s.S.b7.length/\∀i,i<s.S.b7.length->(ce s i).Gen<=(ce s' i).Gen/\((ce s' i).Gen=(ce s i).Gen->((ce s i).State≠0->(ce s' i).State≠0)/\((ce s' i).State=1->(ce s i).State=0\/((ce s i).State=1/\((ce s i).Val.Started=true->(ce s' i).Val.Started=true))))
theorem Sv.refl(s:b6):Sv s s:=⟨rfl,λi _=>⟨zag _,λ_=>⟨id,λh=>.inr ⟨h,id⟩⟩⟩⟩
theorem Sv.trans{a b c:b6}(h:Sv a b)(q:Sv b c):Sv a c:=by
 obtain⟨h1,h2⟩:=h;obtain⟨q1,q2⟩:=q;refine⟨q1.trans h1,λi hi=>?_⟩;obtain⟨a1,a2⟩:=h2 i hi;obtain⟨b1,b2⟩:=q2 i (by omega);refine⟨by omega,λe=>?_⟩;obtain⟨a3,a4⟩:=a2 (by omega);obtain⟨b3,b4⟩:=b2 (by omega);refine⟨λh=>b3 (a3 h),λh=>?_⟩;rcases b4 h with r | ⟨r,r'⟩
 .exact .inl (rx λn=>a3 n r)
 .rcases a4 r with k | ⟨k,k'⟩
  .exact .inl k
  .exact .inr ⟨k,λs=>r' (k' s)⟩
def Hz(s:b6)(h:Int):Prop:=∃(i:Nat) (g:Int),i<s.S.b7.length/\h=1+(i:Int)+32*g/\(g<(ce s i).Gen\/(g=(ce s i).Gen/\(ce s i).State≠0/\((ce s i).State=1->(ce s i).Val.Started=true)))
theorem Sv.Xc{s s':b6}(h:Sv s s'){k:Int}(q:Hz s k):Hz s' k:=by
 obtain⟨i,g,hi,e,q⟩:=q;obtain⟨h1,h2⟩:=h;obtain⟨a,b⟩:=h2 i hi;refine⟨i,g,by omega,e,?_⟩;rcases q with q | ⟨q1,q2,q3⟩
 .exact .inl (by omega)
 .by_cases c:(ce s' i).Gen=(ce s i).Gen
  .obtain⟨b1,b2⟩:=b c;refine .inr ⟨by omega,b1 q2,λr=>?_⟩;rcases b2 r with k | ⟨k1,k2⟩
   .exact absurd k q2
   .exact k2 (q3 k1)
  .exact .inl (by omega)
theorem KX{s:b6}(hR:SR s){h:Int}(hh:h∈lv s)(hs:(ob s h).Started=false):¬Hz s h:=by
 rintro⟨i,g,hi,e,q⟩;obtain⟨j,hj⟩:=(gO hR).1 hh;have hl:=hR.len;have hij:i=j:=by
  have:=hj.2.2;have:=hj.1;omega
 subst hij;have:=hj.2.2;rcases q with q | ⟨q1,q2,q3⟩
 .omega
 .rw[E9 hR hj,q3 hj.2.1] at hs;cases hs
theorem vE.sv{s s':b6}(hR:SR s)(k:vE s s'):Sv s s':=⟨k.len,λi hi=>by
 obtain⟨a,b,_,_,_⟩:=k.ce i hi;refine⟨by omega,λ_=>⟨by omega,λh=>.inr ⟨by omega,λq=>?_⟩⟩⟩;have h1:At s (bV s i) i:=⟨hi,by omega,rfl⟩;have h2:At s' (bV s i) i:=⟨by rw[k.len];exact hi,h,by rw[b];rfl⟩;have hl:=H5 hR ((gO hR).2 ⟨i,h1⟩);obtain⟨n,e⟩:=k.ob (bV s i) (by omega);rw[E9 k.sr h2,E9 hR h1] at e;rw[e];exact q⟩
theorem Om{s:b6}(hR:SR s){h:Int}(hh:h∈lv s){o:n7}(hs:o.Serial=(ob s h).Serial)(ho:Ap s o)(hst:(ob s h).Started=true->o.Started=true):Sv s (cT s h o):=⟨Jr s h o,λi hi=>by
 have q:=o0 hR hh;rw[yP hR hh hs ho];split
 .rename_i e;subst e;refine⟨zag _,λ_=>⟨id,λr=>.inr ⟨q.2.1,λk=>hst ?_⟩⟩⟩;rw[E9 hR q];exact k
 .exact⟨zag _,λ_=>⟨id,λr=>.inr ⟨r,id⟩⟩⟩⟩
theorem Nd{s:b6}(hR:SR s){i:Nat}(hi:i<s.S.b7.length)(ht:Th (ce s i))(d:Int):Sv s (lC s i d):=⟨J1 ..,λj hj=>by
 rw[eU hR hi ht];split
 .rename_i e;subst e;exact⟨zag _,λ_=>⟨id,λr=>.inr ⟨r,id⟩⟩⟩
 .exact⟨zag _,λ_=>⟨id,λr=>.inr ⟨r,id⟩⟩⟩⟩
theorem TR{s:b6}{i:Nat}(hi:i<s.S.b7.length):Sv s (DJ s i):=⟨V3 ..,λj hj=>by
 unfold DJ;rw[K4 hi];by_cases e:j=i
 .subst e;rw[zb rfl];split;·exact⟨zag _,λ_=>⟨λ_=>(by decide:(3:Int)≠0),λr=>absurd (show (3:Int)=1 from r) (by decide)⟩⟩
  .refine⟨by show _<=(ce s j).Gen+1;omega,λr=>?_⟩;have:(ce s j).Gen+1=(ce s j).Gen:=r;omega
 .rw[za e];exact⟨zag _,λ_=>⟨id,λr=>.inr ⟨r,id⟩⟩⟩⟩
theorem Gn.sv{s s':b6}{ds:List Int}(g:Gn s s' ds):Sv s s':=⟨g.len,λj hj=>by
 rw[g.ce];split
 .unfold FM;split
  .split;·exact⟨zag _,λ_=>⟨λ_=>(by decide:(3:Int)≠0),λr=>absurd (show (3:Int)=1 from r) (by decide)⟩⟩
   .refine⟨by show _<=(Sh.ce s j).Gen+1;omega,λr=>?_⟩;have:(Sh.ce s j).Gen+1=(Sh.ce s j).Gen:=r;omega
  .exact⟨zag _,λ_=>⟨λ_=>(by decide:(2:Int)≠0),λr=>absurd (show (2:Int)=1 from r) (by decide)⟩⟩
 .exact⟨zag _,λ_=>⟨id,λr=>.inr ⟨r,id⟩⟩⟩⟩
theorem WB{s:b6}(hR:SR s){i:Nat}(hi:i<s.S.b7.length)(h0:(ce s i).State=0){n:Nat}(hn:n<=4){p:Int}(hp : -1<=p/\p<=5):Sv s (dm s i n p):=⟨jB hR hi h0 hn hp,λj hj=>by
 rw[lD hR hi h0 hn hp];split
 .rename_i e;subst e;exact⟨zag _,λ_=>⟨λr=>absurd h0 r,λ_=>.inl h0⟩⟩
 .exact⟨zag _,λ_=>⟨id,λr=>.inr ⟨r,id⟩⟩⟩⟩
theorem Hj{x:Hp}(hR:SR x.S)(h:Int):Sv x.S (E5 x h).S:=(H7 hR h (f:=Y5) λc=>E4).sv hR
theorem Dk{x:Hp}(hR:SR x.S)(h:Int):Sv x.S (ax x h).S:=(H7 hR h (f:=kR) λc=>P3).sv hR
theorem Fe{x:Hp}(hR:SR x.S)(r:Nat)(h:Int):Sv x.S (G0 x r h).S:=
 (Hj hR h).trans (Dk (x:=wR (E5 x h) (x.Roots.set r h)) (jN hR h) _)
theorem Kh{x:Hp}(hR:SR x.S){h:Int}(hh:h∈lv x.S){n:Nat}(hn:n<(ob x.S h).Fields.length)(v:Int):Sv x.S (bD x h n v).S:=by
 have k1:=Dm hR v;have hh1:h∈lv (E5 x v).S:=by rw[k1.lv];exact hh
 have hof:(ob (E5 x v).S h).Fields=(ob x.S h).Fields:=by
  obtain⟨n,e⟩:=(H7 hR v (f:=Y5) λc=>E4).ob h (by have:=H5 hR hh;omega);show (ob (ue x v Y5).S h).Fields=_;rw[e]
 have ho:Ap (E5 x v).S (rm (ob (E5 x v).S h) ((ob x.S h).Fields.set n v)):=by
  have:=J7 k1.sr hh1;refine⟨this.s1,this.s2,this.st,this.wk,this.p1,this.p2,?_⟩;have h4:=this.fl;rw[hof] at h4;simpa using h4
 have k2:=Om (o:=rm (ob (E5 x v).S h) ((ob x.S h).Fields.set n v)) k1.sr hh1 rfl ho id;exact ((Hj hR v).trans k2).trans (Dk (x:=wS (E5 x v) (cT (E5 x v).S h (rm (ob (E5 x v).S h) ((ob x.S h).Fields.set n v)))) (bN (o:=rm (ob (E5 x v).S h) ((ob x.S h).Fields.set n v)) k1.sr hh1 rfl ho) _)
theorem NK{x:Hp}(hR:SR x.S)(v:Int)(t:Tb)(old:Int):Sv x.S (iE x v t old).S:=
 (Hj hR v).trans (Dk (x:=wT (E5 x v) t) (jN hR v) old)
theorem Uq{x:Hp}(hR:SR x.S)(h d:Int):Sv x.S (il x h d).S:=by
 unfold il;split
 .rename_i q;exact Nd hR q.1 q.2.1 d
 .exact Sv.refl _
theorem RR{x:Hp}(hR:SR x.S)(h:Int):Sv x.S (pB x h).S:=by
 unfold pB;split
 .rename_i q;have k:=Nd hR q.1 q.2.1 (-1);split;·exact k.trans (TR (by rw[k.1];exact q.1))
  .exact k
 .exact Sv.refl _
theorem OG{x:Hp}(hx:J8 x)(n:Nat)(h call:Int):Sv x.S (cE x n h call).S:=by
 have hR:=hx.sh.sr;unfold cE;have s1:Sv x.S (il (wC x (x.b7.set n (fD h call))) h 1).S:=Uq (x:=wC x (x.b7.set n (fD h call))) hR h 1;refine s1.trans (RR ?_ _);unfold il;split
 .rename_i q;have:=(hR.ok _ q.1 q.2.1).wk;exact va hR q.1 q.2.1 (by omega)
 .exact hR
theorem Tl{x:Hp}(hR:SR x.S){ds:List Int}(hn:ds.Nodup)(hm:∀d∈ds,d∈lv x.S):Sv x.S (gH x ds).S:=by
 have g:=eH ds hR hn hm;exact g.sv.trans ((gX (ds.flatMap (outs x.S)++(lf x.T ds).2) (x:=jl x ds (lf x.T ds).1) g.sr).1.sv g.sr)
theorem US{x:Hp}(hR:SR x.S){h:Int}(hh:h∈lv x.S):Sv x.S (gC x h).S:=by
 have oko:=J7 hR hh;have ho:Ap x.S (fz (ob x.S h)):=⟨oko.s1,oko.s2,oko.st,oko.wk,oko.p1,oko.p2,oko.fl⟩;exact (Om (o:=fz (ob x.S h)) hR hh rfl ho λ_=>rfl).trans ((nf hR hh).1.sv (bN (o:=fz (ob x.S h)) hR hh rfl ho))
theorem Vs{x:Hp}(hx:J8 x):Sv x.S (FQ x).S:=by
 cases h:zr x with
 | nil=>rw[ny h];exact Sv.refl _
 | cons z l=>
  have hz:z∈zr x:=by rw[h];exact zf ..
  have hzl:=(cS.1 hz).1;rw[jQ h];split;·exact US hx.sh.sr hzl
  .exact Tl hx.sh.sr (by simp) (by simpa using hzl)
theorem Vp{x:Hp}(hx:J8 x)(n:Nat):Sv x.S (oe n x).S:=by
 induction n with
 | zero=>exact Sv.refl _
 | succ n ih=>rw[fA];exact ih.trans (Vs (P6 hx n))
theorem RF{x:Hp}(hx:J8 x):Sv x.S (bu x).S:=Vp hx 100
structure Fw (x y:Hp):Prop where
 sv:Sv x.S y.S
 q:∃l,y.Q=⟨x.Q.L++l,x.Q.Cap⟩/\∀t∈l,t.Kind=1->¬Hz x.S t.At
theorem Fw.of{x y:Hp}(h:Sv x.S y.S)(q:y.Q=x.Q):Fw x y:=⟨h,[],by rw[q,zay],λt ht=>by cases ht⟩
theorem Fw.refl(x:Hp):Fw x x:=Fw.of (Sv.refl _) rfl
theorem Fw.trans{x y z:Hp}(a:Fw x y)(b:Fw y z):Fw x z:=by
 obtain⟨l,q1,q2⟩:=a.q;obtain⟨m,r1,r2⟩:=b.q;refine⟨a.sv.trans b.sv,l++m,by rw[r1,q1,zai],λt ht hk=>?_⟩;rcases zw.1 ht with h | h
 .exact q2 t h hk
 .exact λs=>r2 t h hk (a.sv.Xc s)
theorem Du{x:Hp}(hx:J8 x):Fw x (bu x):=by
 obtain⟨l,q1,q2,_⟩:=(lU hx).q;exact⟨RF hx,l,q1,λt ht hk=>KX hx.sh.sr (q2 t ht hk).1 (q2 t ht hk).2⟩
theorem jL{x:Hp}(hR:SR x.S)(r:Nat)(h:Int):Fw x (G0 x r h):=Fw.of (Fe hR r h) (jM x r h).2.2.2
theorem VZ{x:Hp}(hx:J8 x)(hS:SL x)(hz:zr x = [])(hb:x.S.Serial<9223372036854775807)(o:g8):(∃e,Er x o e)\/∃z v,Dn x o z v/\Fw x z:=by
 have hR:=hx.sh.sr;obtain⟨k,a,b,c⟩:=o;by_cases hc:x8 k a b c=0
 .have:=tp hc;have hk:k=1\/k=2\/k=3\/k=4\/k=5\/k=6\/k=7\/k=8\/k=9\/k=10\/k=11\/k=12:=by omega
  rcases hk with rfl | rfl | rfl | rfl | rfl | rfl | rfl | rfl | rfl | rfl | rfl | rfl
  .rcases d1 hx hS hb hc with ⟨e,_,h⟩ | ⟨hn,hcc,i,hF,h⟩;·exact .inl ⟨e,h⟩
   .obtain⟨hi,h0,_⟩:=hF;have k1:Fw x (wS x (dm x.S i b.toNat c)):=Fw.of (WB hR hi h0 hn hcc) rfl;exact .inr ⟨_,_,h,k1.trans (jL (x:=wS x (dm x.S i b.toNat c)) (EG hR hi h0 hn hcc) _ _)⟩
  .exact .inr ⟨_,_,d2 hx hS hc,jL hR _ _⟩
  .exact .inr ⟨_,_,d3 hx hS hc,jL hR _ _⟩
  .rcases d4 hx hS hc with ⟨_,h⟩ | ⟨e,_,h⟩ | ⟨_,n,_,_,h⟩;·exact .inl ⟨_,h⟩
   .exact .inl ⟨_,h⟩
   .exact .inr ⟨_,_,h,jL hR _ _⟩
  .rcases d5 hx hS hc with ⟨_,h⟩ | ⟨e,_,h⟩ | ⟨hl,n,_,hn,h⟩;·exact .inl ⟨_,h⟩
   .exact .inl ⟨_,h⟩
   .exact .inr ⟨_,_,h,Fw.of (Kh hR hl hn _) (oE _ _ _ _).2.2.2⟩
  .rcases d6 hx hS hc with ⟨_,h⟩ | ⟨e,_,h⟩ | ⟨_,h⟩;·exact .inl ⟨_,h⟩
   .exact .inl ⟨_,h⟩
   .exact .inr ⟨_,_,h,Fw.of (OG hx _ _ _) (Ai _ _ _ _).2.2.2⟩
  .obtain⟨_,⟨_,h⟩ | ⟨_,h⟩⟩:=d7 hx hS hc;·exact .inl ⟨_,h⟩
   .exact .inr ⟨_,_,h,jL hR _ _⟩
  .rcases d8 hx hS hc with ⟨_,h⟩ | ⟨_,e,_,h⟩ | ⟨_,r,_,_,h⟩;·exact .inl ⟨_,h⟩
   .exact .inl ⟨_,h⟩
   .exact .inr ⟨_,_,h,Fw.of (NK hR _ _ _) (rE _ _ _ _).2.2.2⟩
  .rcases d9 hx hS hc with ⟨_,h⟩ | ⟨_,_,h⟩ | ⟨_,v,_,h⟩;·exact .inl ⟨_,h⟩
   .exact .inl ⟨_,h⟩
   .exact .inr ⟨_,_,h,jL hR _ _⟩
  .exact .inr ⟨_,_,d10 hx hS hz hc,Fw.refl x⟩
  .obtain⟨h1,h2⟩:=Cj (x:=x) (a:=a) (b:=b) (c:=c) (.inl rfl) hc;exact .inl ⟨14,by decide,h1,h2⟩
  .obtain⟨h1,h2⟩:=Cj (x:=x) (a:=a) (b:=b) (c:=c) (.inr rfl) hc;exact .inl ⟨14,by decide,h1,h2⟩
 .obtain⟨h1,h2⟩:=Ma (x:=x) (o:=⟨k,a,b,c⟩) hc;exact .inl ⟨_,hc,h1,h2⟩
theorem TC{x:Hp}(hx:J8 x)(hS:SL x)(hz:zr x = [])(hb:x.S.Serial<9223372036854775807)(o:g8):Fw x (iY x o).1:=by
 rcases VZ hx hS hz hb o with ⟨e,_,h,_⟩ | ⟨z,v,d,f⟩
 .have:iY x o=(x,0,e):=by unfold iY;rw[h];rfl
  rw[this];exact Fw.refl x
 .have:iY x o=(bu z,v,0):=by unfold iY;rw[d.mc];rfl
  rw[this];exact f.trans (Du d.rt)
theorem WZ{x:Hp}(h1:kc x)(h2:Wk x){L:List Int}(h3:aB x L){r:Nat}(hr:r<6){h:Int}(hh:h=0\/h∈lv x.S):kc (G0 x r h)/\Wk (G0 x r h)/\aB (G0 x r h) L:=by
 have wu:=H7 h1.sr h (f:=Y5) λc=>E4;have l1:lv (E5 x h).S=lv x.S:=wu.lv;have f1:aB (E5 x h) (h::L):=Ff h1.sr h3 h;have s1:kc (E5 x h):=h1.st h (f:=Y5) λc=>E4;have s2:kc (wR (E5 x h) (x.Roots.set r h)):=s1.roots (by rw[zaq];exact h1.r6) λv hv=>by
  rw[l1];rcases zav hv with q | q
  .exact h1.rt v q
  .exact q▸hh
 have w1:Wk (E5 x h):=h2.st h1.sr h (f:=Y5) λc=>E4;have one:∀v k,J3 [v] k=if v=k/\k≠0 then 1 else 0:=λv k=>by rw[G3,G6,zaa]
 have f2:aB (wR (E5 x h) (x.Roots.set r h)) (x.Roots.getD r 0::L):=f1.mv rfl (λ_ _=>rfl) λk hk=>by
  have:=xl (l:=x.Roots) (r:=r) (by rw[h1.r6];exact hr) h k;rw[one,one] at this;rw[pg x h];unfold lH nZ;dsimp only;rw[F7,F7,pA,pA,G3 h L,G3 (x.Roots.getD r 0) L];omega
 exact⟨s2.st _ λc=>P3,Wk.st (x:=wR (E5 x h) (x.Roots.set r h)) w1 s2.sr _ λc=>P3,tV (x:=wR (E5 x h) (x.Roots.set r h)) s2.sr f2⟩
abbrev uC(x:Hp)(ts:List e6):Hp:=wQ x ⟨ts,x.Q.Cap⟩
noncomputable def wo(x:Hp)(ts:List e6)(h:Int):Hp:=ax (G0 (uC x ts) 5 h) h
section
variable{x:Hp}(hx:J8 x){t:e6}{ts:List e6}(hq:x.Q.L=t::ts)
include hx hq
theorem DB:kc (uC x ts):=by
 have h:=hx.sh;refine⟨h.sr,h.hr,h.r6,h.c6,h.cap,?_,λu hu=>h.tk u (by rw[hq];exact zl _ hu),?_,h.rt,h.fl,h.pr,λi hi=>?_⟩
 .have:=h.q30;rw[hq,zI] at this;show ts.length<=30;omega
 .have:=h.td;rw[hq,zbe] at this;exact this.2
 .obtain⟨a,b,c,d,e⟩:=h.cl i hi;refine⟨a,b,c,d,λq=>⟨(e q).1,?_⟩⟩;have:=(e q).2;rw[zbk] at this |-;intro r;obtain⟨u,hu,k1,k2⟩:=gG.1 r;exact this (gG.2 ⟨u,by rw[hq];exact zl _ hu,k1,k2⟩)
theorem FA:aB (uC x ts) (if t.Kind=1 then [t.At] else []):=hx.fair.mv rfl (λ_ _=>rfl) λh _=>by
 unfold lH nZ nW;dsimp only;rw[hq,ms];by_cases k:t.Kind=1
 .rw[zb k,zb (by simpa using k),zF,F7,F7,G3 t.At (List.map _ _),G3 t.At [],G6];omega
 .rw[za k,za (by simpa using k),G6]
theorem Gi(hk:t.Kind≠1):J8 (uC x ts):=⟨DB hx hq,hx.wk,by have:=FA hx hq;rwa [za hk] at this⟩
theorem GC(hk:t.Kind=1):t.At∈lv x.S/\(ob x.S t.At).Started=true:=by
 rcases (hx.sh.tk t (by rw[hq];exact zf ..)).2.2 with ⟨_,b,c⟩ | ⟨b,_⟩;·exact⟨b,c⟩
 .omega
theorem lx(hk:t.Kind=1):J8 (wo x ts t.At):=by
 have f:=FA hx hq;rw[zb hk] at f;obtain⟨a,b,c⟩:=WZ (DB hx hq) (x:=uC x ts) hx.wk f (r:=5) (by decide) (.inr (GC hx hq hk).1);exact⟨a.st _ λc=>P3,b.st a.sr _ λc=>P3,tV a.sr c⟩
omit hq in
theorem Ml (hS:SL x) (h:Int):SL (wo x ts h):=by
 have k:=pe (x:=uC x ts) hx.sh.sr hS 5 h;exact Di [h] (dc (x:=uC x ts) hx.sh.sr 5 h).sr k
omit hq in
theorem TF (h:Int):Ks x.S (wo x ts h).S:=by
 have k:=dc (x:=uC x ts) hx.sh.sr 5 h;exact k.trans (Dj k.sr h)
omit hq in
theorem Mj (h:Int):(wo x ts h).Roots=x.Roots.set 5 h/\(wo x ts h).b7=x.b7/\(wo x ts h).T=x.T/\(wo x ts h).Q=⟨ts,x.Q.Cap⟩:=by
 obtain⟨a,b,c,d⟩:=yI (G0 (uC x ts) 5 h) h;obtain⟨a',b',c',d'⟩:=jM (uC x ts) 5 h;exact⟨a.trans a',b.trans b',c.trans c',d.trans d'⟩
omit hq in
theorem TE (h:Int):Fw (uC x ts) (wo x ts h):=Fw.of ((Fe (x:=uC x ts) hx.sh.sr 5 h).trans (Dk (dc (x:=uC x ts) hx.sh.sr 5 h).sr h)) (Mj hx h).2.2.2
end
def ER(ps:List (List g8))(n:Int):List g8:=if n<0\/(ps.length:Int)<=n then [] else ps.getD n.toNat []
noncomputable def pre(x:Hp)(t:e6)(ts:List e6):Hp:=if t.Kind=1 then bu (wo x ts t.At) else uC x ts
noncomputable def UU(ps:List (List g8))(x:Hp)(t:e6)(ts:List e6):Hp:=(runs (pre x t ts) (ER ps t.Prog)).1
noncomputable def Kd(ps:List (List g8))(x:Hp)(t:e6)(ts:List e6):Hp:=if t.Kind=1 then bu (G0 (UU ps x t ts) 5 0) else UU ps x t ts
structure Oh (x:Hp):Prop where
 rt:J8 x
 sl:SL x
 zr:zr x = []
theorem VB.ok{x y:Hp}{o:g8}{v e:Int}(n:VB x o y v e):Oh y:=⟨n.rt,n.sl,n.zr⟩
theorem Js{x:Hp}(h:J8 x)(s:SL x):Oh (bu x):=⟨nu h,Jt h s,BM h⟩
theorem Oj{x:Hp}(hx:Oh x)(l:List g8)(hb:x.S.Serial+l.length<9223372036854775807):Oh (runs x l).1/\Fw x (runs x l).1/\(runs x l).1.S.Serial<=x.S.Serial+l.length/\(runs x l).2.length=l.length:=by
 have key:∀k,k<=l.length->Oh (runs x (l.take k)).1/\Fw x (runs x (l.take k)).1/\(runs x (l.take k)).1.S.Serial<=x.S.Serial+k/\(runs x (l.take k)).2.length=k:=by
  intro k;induction k with
  | zero=>exact λ_=>⟨hx,Fw.refl x,by show x.S.Serial<=_;omega,rfl⟩
  | succ k ih=>
   intro hk;obtain⟨a,b,c,d⟩:=ih (by omega);have hk':k<l.length:=by omega
   have n:=tM a.rt a.sl a.zr (by omega) l[k];rw[U2 hk',pZ];exact⟨n.ok,b.trans (TC a.rt a.sl a.zr (by omega) _),by have:=n.ev.s2;show (iY _ _).1.S.Serial<=_;omega,by simp[d]⟩
 have:=key l.length (zG _);rwa [zQ] at this
section
variable{x:Hp}(hx:Oh x){t:e6}{ts:List e6}(hq:x.Q.L=t::ts)(ps:List (List g8))
include hx hq
theorem GY:Oh (pre x t ts):=by
 unfold pre;split
 .rename_i k;exact Js (lx hx.rt hq k) (Ml hx.rt hx.sl _)
 .rename_i k;exact⟨Gi hx.rt hq k,hx.sl,hx.zr⟩
theorem UL:Fw (uC x ts) (pre x t ts):=by
 unfold pre;split
 .rename_i k;exact (TE hx.rt _).trans (Du (lx hx.rt hq k))
 .exact Fw.refl _
theorem CV:(pre x t ts).S.Serial=x.S.Serial:=by
 unfold pre;split
 .rename_i k;rw[(lU (lx hx.rt hq k)).bg,(TF hx.rt _).bg]
 .rfl
variable(hb:x.S.Serial+(ER ps t.Prog).length<9223372036854775807)
include hb
theorem De:Oh (UU ps x t ts)/\Fw (uC x ts) (UU ps x t ts)/\(UU ps x t ts).S.Serial<=x.S.Serial+(ER ps t.Prog).length:=by
 have e:=CV hx hq;obtain⟨a,b,c,_⟩:=Oj (GY hx hq) (ER ps t.Prog) (by rw[e];exact hb);exact⟨a,(UL hx hq).trans b,by rw[e] at c;exact c⟩
theorem Qi:Oh (Kd ps x t ts)/\Fw (uC x ts) (Kd ps x t ts)/\(Kd ps x t ts).S.Serial<=x.S.Serial+(ER ps t.Prog).length/\(t.Kind=1->sd (Kd ps x t ts) 5=0):=by
 obtain⟨a,b,c⟩:=De hx hq ps hb;unfold Kd;split
 .have hz:=bM a.rt (r:=5) (by decide) (h:=0) (.inl rfl);have k:=dc a.rt.sh.sr 5 0;refine⟨Js hz (pe a.rt.sh.sr a.sl 5 0),(b.trans (jL a.rt.sh.sr 5 0)).trans (Du hz),?_,λ_=>(vq a.rt (a:=5) (by decide) (h:=0) (.inl rfl)).1⟩;rw[(lU hz).bg,k.bg];exact c
 .exact⟨a,b,c,λq=>absurd q (by assumption)⟩
end
def Bd(ps:List (List g8))(t:e6):Int:=1+((ER ps t.Prog).length:Int)
def can(ps:List (List g8))(p:Hp × Int):Prop:=∃t ts,p.1.Q.L=t::ts/\Bd ps t<=p.2
noncomputable def Uv(ps:List (List g8))(p:Hp × Int):Hp × Int:=match p.1.Q.L with
 | []=>p
 | t::ts=>if Bd ps t<=p.2 then (Kd ps p.1 t ts,p.2-Bd ps t) else p
noncomputable def dN(ps:List (List g8)):Nat->Hp × Int->Hp × Int
 | 0,p=>p
 | n+1,p=>dN ps n (Uv ps p)
section
variable(ps:List (List g8))
theorem sx(n:Nat)(p:Hp × Int):dN ps (n+1) p=Uv ps (dN ps n p):=by
 induction n generalizing p with
 | zero=>rfl
 | succ n ih=>exact ih (Uv ps p)
theorem QP{p:Hp × Int}(h:p.1.Q.L = []):Uv ps p=p:=by unfold Uv;rw[h]
theorem oY{p:Hp × Int}{t:e6}{ts:List e6}(h:p.1.Q.L=t::ts):Uv ps p=if Bd ps t<=p.2 then (Kd ps p.1 t ts,p.2-Bd ps t) else p:=by unfold Uv;rw[h]
theorem DS{p:Hp × Int}{t:e6}{ts:List e6}(h:p.1.Q.L=t::ts):can ps p↔Bd ps t<=p.2:=by
 constructor
 .rintro⟨u,us,e,c⟩;rw[h] at e;injection e with e1 e2
  rw[e1];exact c
 .exact λc=>⟨t,ts,h,c⟩
theorem sw(t:e6):1<=Bd ps t:=by unfold Bd;omega
theorem Ic{p:Hp × Int}(hb:0<=p.2):∃n:Nat,(n:Int)<=p.2/\¬can ps (dN ps n p)/\∀j,j<n->can ps (dN ps j p):=by
 have key:∀m:Nat,(∃n:Nat,n<=m/\¬can ps (dN ps n p))\/((dN ps m p).2+m<=p.2/\0<=(dN ps m p).2):=by
  intro m;induction m with
  | zero=>exact .inr ⟨by show p.2+((0:Nat):Int)<=_;omega,hb⟩
  | succ m ih=>
   rcases ih with ⟨n,h1,h2⟩ | ⟨h1,h2⟩;·exact .inl ⟨n,by omega,h2⟩
   .by_cases q:can ps (dN ps m p)
    .right;obtain⟨t,ts,e,c⟩:=q;have:=sw ps t;rw[sx,oY ps e,zb c];dsimp only;omega
    .exact .inl ⟨m,by omega,q⟩
 have hex:∃n:Nat,(n:Int)<=p.2/\¬can ps (dN ps n p):=by
  rcases key (p.2.toNat+1) with ⟨n,h1,h2⟩ | ⟨h1,h2⟩
  .rcases zE n (p.2.toNat+1) with q | q
   .exact⟨n,by omega,h2⟩
   .have hn:n=p.2.toNat+1:=by omega
    rcases key p.2.toNat with ⟨n,h1,h2⟩ | ⟨h1,h3⟩;·exact⟨n,by omega,h2⟩
    .refine⟨p.2.toNat,by omega,λ⟨t,ts,e,c⟩=>?_⟩;have:=sw ps t;omega
  .omega
 obtain⟨n,⟨hn,hz⟩,hmin⟩:=dy hex;refine⟨n,hn,hz,λj hj=>rx λq=>?_⟩;have:=hmin j ⟨by omega,q⟩;omega
theorem Cg{p:Hp × Int}(hx:Oh p.1)(hb:0<=p.2)(hs:p.1.S.Serial+p.2<9223372036854775807):∀n,Oh (dN ps n p).1/\0<=(dN ps n p).2/\(dN ps n p).2<=p.2/\(dN ps n p).1.S.Serial+(dN ps n p).2<=p.1.S.Serial+p.2
 | 0=>⟨hx,hb,zag _,zag _⟩
 | n+1=>by
  obtain⟨a,b,c,d⟩:=Cg hx hb hs n;rw[sx];cases e:(dN ps n p).1.Q.L with
  | nil=>rw[QP ps e];exact⟨a,b,c,d⟩
  | cons t ts=>
   rw[oY ps e];split
   .rename_i q;have q2:=q;unfold Bd at q2;obtain⟨r1,_,r3,_⟩:=Qi a e ps (by omega);refine⟨r1,?_,?_,?_⟩;·dsimp only;omega
    .have:=sw ps t;dsimp only;omega
    .dsimp only;unfold Bd;omega
   .exact⟨a,b,c,d⟩
end
noncomputable def dn(ps:List (List g8))(p:Hp × Int):Nat:=if h:0<=p.2 then Classical.choose (Ic ps h) else 0
theorem Ih(ps:List (List g8)){p:Hp × Int}(h:0<=p.2):(dn ps p:Int)<=p.2/\¬can ps (dN ps (dn ps p) p)/\∀j,j<dn ps p->can ps (dN ps j p):=by
 unfold dn;rw[dif_pos h];exact za0 (Ic ps h)
noncomputable def dr(ps:List (List g8))(p:Hp × Int):Hp × Int:=dN ps (dn ps p) p
theorem Wa(ps:List (List g8)){x:Hp}{f:Int}(hx:Oh x)(hf:0<=f)(hs:x.S.Serial+f<9223372036854775807):Oh (dr ps (x,f)).1/\0<=(dr ps (x,f)).2/\(dr ps (x,f)).2<=f/\(dr ps (x,f)).1.S.Serial+(dr ps (x,f)).2<=x.S.Serial+f:=Cg ps (p:=(x,f)) hx hf hs _
section
variable{x:Hp}(hx:kc x)(hS:∀k∈lv x.S,(ob x.S k).Strong<=9223372036854775807)
include hx hS
theorem Uh{h:Int}(hh:h=0\/h∈lv x.S):h<=9223372036854775807:=by
 rcases hh with q | q
 .omega
 .have:=H5 hx.sr q;omega
theorem Oe(k:Int){h:Int}(hh:h<=9223372036854775807):bX x k h=some (if k<0\/5<k then (x,6) else if h=0\/h∈lv x.S then (G0 x k.toNat h,0) else (x,3)):=by
 have hR:=hx.sr;have r6:=hx.r6;unfold bX;by_cases hk:k<0\/5<k
 .rw[zb hk,zb (by rw[r6];simp;omega)]
 .rw[za hk,za (by rw[r6];simp;omega),M8 hR hh,YI];by_cases hn:h=0\/h∈lv x.S
  .rw[zb hn,zC hn,za (by simp)];obtain⟨n,rfl⟩:∃n:Nat,k=n:=⟨k.toNat,by omega⟩;have hn6:n<6:=by omega
   have hnl:n<x.Roots.length:=by omega
   have old:x.Roots[n]<=9223372036854775807:=Uh hx hS (hx.rt _ (zh hnl));have e1:=tY x h;have hn2:n<(E5 x h).Roots.length:=by rw[e1.1];exact hnl
   rw[s7 hnl,YI];unfold G4 R7 y5;rw[lR hR hh hS,YI];dsimp only;rw[dj (by omega) (by rw[e1.1];omega),YI,s7 hn2,YI,YI];have hrel:=fZ (x:=wR (E5 x h) (x.Roots.set n h)) (jN hR h) old;rw[zR,e1.1,show D9 ⟨(E5 x h).S,x.Roots.set n h,(E5 x h).b7,(E5 x h).T,(E5 x h).Q⟩ x.Roots[n]=_ from hrel];unfold G0;rw[zd,zc hnl];rfl
  .rw[za hn,zY hn,zb (by simp)]
end
theorem vm(ps:List (List g8))(n:Int):dx ps n=some (ER ps n):=by
 unfold dx ER;by_cases h:n<0\/(ps.length:Int)<=n
 .rw[zb (by simpa using h),zb h]
 .rw[za (by simpa using h),za h];obtain⟨k,rfl⟩:∃k:Nat,n=k:=⟨n.toNat,by omega⟩;have hk:k<ps.length:=by omega
  rw[s7 hk,YI,zR,zd,zc hk];rfl
abbrev Xx(ps:List (List g8)):List (List fm):=ps.map (List.map YA)
def Mp(ps:List (List g8)):Prop:=∀p∈ps,p.length<=6
theorem CW{ps:List (List g8)}(h:Mp ps)(n:Int):(ER ps n).length<=6:=by
 unfold ER;split;·simp
 .rename_i q;have hk:n.toNat<ps.length:=by omega
  rw[zd,zc hk];exact h _ (zh hk)
theorem wY{ps:List (List g8)}(h:Mp ps)(t:e6):bC ps t=some (Bd ps t):=by
 have:=CW h t.Prog;unfold bC Bd;rw[vm,YI,O9 (by omega) (by omega)]
theorem Gu(x:Hp):gK x=some (x.Q.L.isEmpty):=by
 unfold gK;rw[yW,YI];unfold RN;cases x.Q.L <;> rfl
section
variable{x:Hp}(hx:Oh x){t:e6}{ts:List e6}(hq:x.Q.L=t::ts){ps:List (List g8)}(hm:Mp ps)(hb:x.S.Serial<9000000000000000000)
include hx hq hm hb
theorem OE:mG x ps=some (Kd ps x t ts,t,0):=by
 have eN:=CW hm t.Prog;have pok:=GY hx hq;have pser:=CV hx hq;obtain⟨rok,_,_⟩:=De hx hq ps (by omega);have hrun:=(run_eq pok.rt pok.sl pok.zr (ER ps t.Prog) (by omega) (by rw[pser];omega)).1;have hrun':gP (pre x t ts) (ER ps t.Prog)=some (UU ps x t ts,(runs (pre x t ts) (ER ps t.Prog)).2):=hrun;have hz:=bM rok.rt (r:=5) (by decide) (h:=0) (.inl rfl);have zS:=pe rok.rt.sh.sr rok.sl 5 0;unfold mG;rw[yW,YI];have e:RN x.Q=(⟨ts,x.Q.Cap⟩,t,0):=by unfold RN;rw[hq]
 rw[e];dsimp only;rw[za (by simp)];simp only[jn];by_cases k:t.Kind=1
 .have hk:(t.Kind==1)=true:=by simpa using k
  have hat:=(GC hx.rt hq k).1;have ush:=DB hx.rt hq;have hm1:=qK hx.rt.sh.sr hat;have e1:bX ⟨x.S,x.Roots,x.b7,x.T,⟨ts,x.Q.Cap⟩⟩ 5 t.At=some (G0 (uC x ts) 5 t.At,0):=by
   have:=Oe (x:=uC x ts) ush hx.sl 5 hm1;rw[za (by omega),zb (.inr hat)] at this;exact this
  have e2:D9 (G0 (uC x ts) 5 t.At) t.At=some (wo x ts t.At):=fZ (dc (x:=uC x ts) hx.rt.sh.sr 5 t.At).sr hm1;have e3:=jf (lx hx.rt hq k) (Ml hx.rt hx.sl t.At);have e4:pre x t ts=bu (wo x ts t.At):=by unfold pre;rw[zb k]
  have e5:=Jn rok.rt rok.sl 5 (h:=0) (by decide);rw[za (by omega),zb (.inl rfl)] at e5;rw[zb hk,e1,YI];dsimp only;rw[e2,YI,e3,YI,vm,YI,<-e4,hrun',YI,zb hk];dsimp only;rw[e5,YI];refine rT (jf hz zS) ?_;unfold Kd;rw[zb k];rfl
 .have hk:¬(t.Kind==1)=true:=by simpa using k
  have e4:pre x t ts=uC x ts:=by unfold pre;rw[za k]
  rw[za hk,vm,YI,show (⟨x.S,x.Roots,x.b7,x.T,⟨ts,x.Q.Cap⟩⟩:b9)=pre x t ts from e4.symm,hrun',YI,za hk];unfold Kd;rw[za k]
end
section
variable{x:Hp}(hx:Oh x){ps:List (List g8)}(hm:Mp ps){f:Int}(hf:0<=f)(hf2:f<=1000000)(hb:x.S.Serial<8000000000000000000)
include hx hm hf hf2 hb
def Sr(p:Hp × Int):Int:=if p.1.Q.L.isEmpty then 0 else 12
theorem drain_eq:gJ x ps f=some ((dr ps (x,f)).1,(dn ps (x,f):Int),(dr ps (x,f)).2,Sr (dr ps (x,f))):=by
 obtain⟨a1,a2,a3⟩:=Ih ps (p:=(x,f)) hf;have all:=Cg ps (p:=(x,f)) hx hf (by show x.S.Serial+f<_;omega);unfold gJ;simp only[jn];dsimp only at a1;refine jy (λk=>((dN ps k (x,f)).2,(dN ps k (x,f)).1,(k:Int),(dN ps k (x,f)).2,(dN ps k (x,f)).1)) rfl (dn ps (x,f)) (λ_=>True) (by omega) trivial (λk hk _=>.inl ⟨?_,trivial⟩) (λ_=>⟨((dn ps (x,f):Int),(dr ps (x,f)).2,(dr ps (x,f)).1),?_,?_⟩)
 .obtain⟨b1,b2,b3,b4⟩:=all k;obtain⟨t,ts,e,c⟩:=a3 k hk;dsimp only at b2 b3 b4;have hc:=sw ps t;rw[Gu,e,YI];show (aT _).bind _=_;rw[yW,YI];have e2:RN (dN ps k (x,f)).1.Q=(⟨ts,(dN ps k (x,f)).1.Q.Cap⟩,t,0):=by unfold RN;rw[e]
  rw[e2];dsimp only;rw[wY hm,YI,za (by simp;omega),OE b1 e hm (by omega),YI,O9 (by omega) (by omega),n9,sx,oY ps e,zb c]
 .rw[Gu,YI];cases e:(dN ps (dn ps (x,f)) (x,f)).1.Q.L with
  | nil=>rfl
  | cons t ts=>
   have hc:¬Bd ps t<=(dN ps (dn ps (x,f)) (x,f)).2:=λq=>a2 ((DS ps e).2 q);show (aT _).bind _=_;rw[yW,YI];have e2:RN (dN ps (dn ps (x,f)) (x,f)).1.Q=(⟨ts,(dN ps (dn ps (x,f)) (x,f)).1.Q.Cap⟩,t,0):=by unfold RN;rw[e]
   rw[e2];dsimp only;rw[wY hm,YI,zb (by simp;omega)];rfl
 .dsimp only;rw[Gu,YI];unfold Sr;cases (dr ps (x,f)).1.Q.L.isEmpty <;> rfl
end
theorem WC{l:List (List g8)}(h:fi l=true):Mp l/\l.length<=6:=by
 unfold fi at h;rw[zA,zH,zg] at h;refine⟨λp hp=>?_,h.1⟩;have:=h.2 p hp;unfold tP at this;rw[zA,zH] at this;exact this.1
noncomputable def eo(ps:List (List g8))(x:Hp)(o:g8):Hp × Int × Int:=
 if o.Kind=11 then (As x,LP x-((jW x).length:Int),0)
 else if o.Kind=12 then ((dr ps (x,o.A)).1,(dn ps (x,o.A):Int),Sr (dr ps (x,o.A)))
 else iY x o
noncomputable def er(ps:List (List g8))(x:Hp)(row:List Int):Hp × Int × Int:=if (bA row).2≠0 then (x,0,(bA row).2) else eo ps x (bA row).1
noncomputable def jV(ps:List (List g8))(x:Hp)(rows:List (List Int)):Hp × List (Int × Int):=rows.foldl (λp r=>((er ps p.1 r).1,p.2 ++ [(er ps p.1 r).2])) (x,[])
theorem xH(ps:List (List g8))(x:Hp)(l:List (List Int))(r:List Int):jV ps x (l ++ [r])=((er ps (jV ps x l).1 r).1,(jV ps x l).2 ++ [(er ps (jV ps x l).1 r).2]):=by
 unfold jV;rw[zat];rfl
theorem Co(ps:List (List g8)):∀(l:List (List Int)) (x:Hp) (a:List (Int × Int)),l.foldl (λp r=>((er ps p.1 r).1,p.2 ++ [(er ps p.1 r).2])) (x,a)=((jV ps x l).1,a++(jV ps x l).2)
 | [],x,a=>by simp[jV]
 | r::l,x,a=>by
  unfold jV;rw[zaj,zaj,Co ps l,Co ps l _ ([]++_)];simp
theorem Ij(ps:List (List g8))(x:Hp)(l m:List (List Int)):jV ps x (l++m)=((jV ps (jV ps x l).1 m).1,(jV ps x l).2++(jV ps (jV ps x l).1 m).2):=by
 have:jV ps x (l++m)=m.foldl (λp r=>((er ps p.1 r).1,p.2 ++ [(er ps p.1 r).2])) (jV ps x l):=by
  unfold jV;rw[zat]
 rw[this];exact Co ps m (jV ps x l).1 (jV ps x l).2
theorem Ik(ps:List (List g8))(x:Hp)(l:List (List Int)):(jV ps x l).2.length=l.length:=by
 induction l generalizing x with
 | nil=>rfl
 | cons r l ih=>
  have:=Ij ps x [r] l;rw[List.singleton_append] at this;rw[this,zK,ih];show 1+l.length=l.length+1;omega
theorem Ch{row:List Int}(h:(bA row).2=0):x8 (bA row).1.Kind (bA row).1.A (bA row).1.B (bA row).1.C=0:=by
 unfold bA at h |-;rcases four row with ⟨k,a,b,c,rfl⟩ | hl
 .rw[Ig,ul] at h |-;by_cases q:x8 k a b c≠0
  .rw[zb q] at h;exact absurd h q
  .rw[za q];exact Classical.not_not.1 q
 .rw[(Ci hl).1,ul] at h;exact absurd h (by decide)
theorem LQ{a b c:Int}(h:x8 12 a b c=0):0<=a/\a<=200:=Bq (by decide) (show P0 a 0 200 12=0 from h)
section
variable{ps:List (List g8)}(hm:Mp ps){x:Hp}(hx:Oh x)(hb:x.S.Serial<7000000000000000000)
include hm hx hb
theorem Wb{o:g8}(ho:o.Kind=12->0<=o.A/\o.A<=200):Oh (eo ps x o).1/\(eo ps x o).1.S.Serial<=x.S.Serial+201:=by
 unfold eo;split
 .obtain⟨a,b,c⟩:=Gp hx.rt hx.sl hx.zr;refine⟨⟨a,b,c⟩,?_⟩;show (As x).S.Serial<=_;rw[Qe hx.rt hx.sl hx.zr];omega
 .split
  .rename_i h;obtain⟨h0,h2⟩:=ho h;obtain⟨a,b,c,d⟩:=Wa ps hx h0 (by omega);exact⟨a,by show (dr ps (x,o.A)).1.S.Serial<=_;omega⟩
  .have n:=tM hx.rt hx.sl hx.zr (by omega) o;have:=n.ev.s2;exact⟨n.ok,by omega⟩
theorem Wc(row:List Int):Oh (er ps x row).1/\(er ps x row).1.S.Serial<=x.S.Serial+201:=by
 unfold er;split;·exact⟨hx,by show x.S.Serial<=_;omega⟩
 .rename_i h;have hc:=Ch (Classical.not_not.1 h);refine Wb hm hx hb λhk=>?_;rw[hk] at hc;exact LQ hc
end
theorem Gx{ps:List (List g8)}(hm:Mp ps){x:Hp}(hx:Oh x):∀(l:List (List Int)),x.S.Serial+201*(l.length:Int)<7000000000000000000->Oh (jV ps x l).1/\(jV ps x l).1.S.Serial<=x.S.Serial+201*(l.length:Int):=by
 intro l;induction l generalizing x with
 | nil=>exact λ_=>⟨hx,by show x.S.Serial<=_;simp⟩
 | cons r l ih=>
  intro hb;rw[zI] at hb |-;obtain⟨a,b⟩:=Wc hm hx (by omega) r;obtain⟨c,d⟩:=ih a (by omega);have e:=Ij ps x [r] l;rw[List.singleton_append] at e;rw[e];exact⟨c,by
   have:(jV ps (jV ps x [r]).1 l).1.S.Serial<=(er ps x r).1.S.Serial+201*(l.length:Int):=d;show (jV ps (jV ps x [r]).1 l).1.S.Serial<=_;omega⟩
noncomputable def RI(x:Hp):List Int:=(lv x.S).map λh=>bg x h
inductive Fm (x:Hp) (o:g8) (z:Hp) (v:Int):Prop
 | new (i:Nat) (hF:VM x.S i) (hk:o.Kind=1) (ha:0<=o.A/\o.A<=5) (hn:o.B.toNat<=4) (hc : -1<=o.C/\o.C<=5) (hv:v=x.S.Serial+1) (hz:z=G0 (wS x (dm x.S i o.B.toNat o.C)) o.A.toNat (bV x.S i)):Fm x o z v
 | root (h:Int) (hk:o.Kind≠1) (ha:0<=o.A/\o.A<=5) (hh:h=0\/h∈lv x.S) (hz:z=G0 x o.A.toNat h):Fm x o z v
 | field (h:Int) (n:Nat) (u:Int) (hk:o.Kind=5) (hl:h∈lv x.S) (hn:n<(ob x.S h).Fields.length) (hu:u=0\/u∈lv x.S) (hz:z=bD x h n u):Fm x o z v
 | weak (h:Int) (hk:o.Kind=6) (ha:0<=o.A/\o.A<=5) (hc : -1<=o.C/\o.C<=5) (hh:h=0\/h∈lv x.S) (hw:wg x.Q o.A=false) (hz:z=cE x o.A.toNat h o.C):Fm x o z v
 | pair (h u:Int) (r:Tb × Int × Int) (hk:o.Kind=8) (hl:h∈lv x.S) (hu:u=0\/u∈lv x.S) (hr:U1 x.T h u=some r) (h0:r.2.2=0) (hz:z=iE x u r.1 r.2.1):Fm x o z v
 | same (hk:o.Kind=10) (hz:z=x):Fm x o z v
theorem Fm.ks{x z:Hp}{o:g8}{v:Int}(hx:J8 x)(f:Fm x o z v)(hk:o.Kind≠1):Ks x.S z.S:=by
 have hR:=hx.sh.sr;cases f with
 | new i hF hk'=>exact absurd hk' hk
 | root h _ ha hh hz=>rw[hz];exact dc hR _ _
 | field h n u _ hl hn hu hz=>rw[hz];exact Bg hR hl hn u
 | weak h _ ha hc hh hw hz=>rw[hz];exact FF hx (by omega) h _
 | pair h u r _ hl hu hr h0 hz=>rw[hz];exact EN hR u _ _
 | same _ hz=>rw[hz];exact Ks.refl hR
def Xn(p:Int × Int):g9:=⟨p.1,p.2⟩
section
variable{ps:List (List g8)}(hm:Mp ps){x:Hp}(hx:Oh x)(hb:x.S.Serial<7000000000000000000)
include hm hx hb
theorem To : -24<=LP x-((jW x).length:Int)/\LP x-((jW x).length:Int)<=24:=by
 have h1:=HW hx.rt hx.sl hx.zr;have h2:(lv x.S).length<=24:=M0 (A0.2 hx.rt.sh.sr);obtain⟨c1,_,_⟩:=Gp hx.rt hx.sl hx.zr;have h3:(lv (As x).S).length<=24:=M0 (A0.2 c1.sh.sr);unfold LP;split
 .rename_i e;rw[e];simp;omega
 .omega
theorem Yx(row:List Int):pL ⟨x,ps⟩ row=some (⟨(er ps x row).1,ps⟩,Xn (er ps x row).2):=by
 unfold pL;rw[(DY row).1,YI];unfold er;by_cases h:(bA row).2=0
 .rw[za (show ¬(((bA row).2 != 0)=true) by simp[h]),za (show ¬((bA row).2≠0) by simp[h])];have hc:=Ch h;generalize (bA row).1=o at hc;unfold mJ eo;by_cases k11:o.Kind=11
  .rw[zb (by simp[k11]),zb k11];refine zcu (b:=(aD x).bind λv4=>some (⟨v4.1,ps⟩,⟨w7 (v4.2.2-v4.2.1),0⟩)) rfl ?_;obtain⟨b1,b2⟩:=To hm hx hb;rw[Tw hx.rt hx.sl hx.zr,YI];dsimp only;rw[O9 (by omega) (by omega)];rfl
  .rw[za (by simp[k11]),za k11];by_cases k12:o.Kind=12
   .rw[zb (by simp[k12]),zb k12];refine zcu (b:=(gJ x ps o.A).bind λv5=>some (⟨v5.1,ps⟩,⟨v5.2.1,v5.2.2.2⟩)) rfl ?_;rw[k12] at hc;obtain⟨a0,a2⟩:=LQ hc;rw[drain_eq hx hm a0 (by omega) (by omega),YI];rfl
   .rw[za (by simp[k12]),za k12];refine zcu (b:=(u4 x o).bind λv3=>some (⟨v3.1,ps⟩,⟨v3.2.1,v3.2.2⟩)) rfl ?_;rw[(tM hx.rt hx.sl hx.zr (by omega) o).mc,YI];rfl
 .rw[zb (by simpa using h),zb h];rfl
end
section
variable{ps:List (List g8)}(hm:Mp ps){x:Hp}(hx:Oh x)
include hm hx
theorem Oz{rows:List (List Int)}{k:Nat}(hk:k<rows.length):jV ps x (rows.take (k+1))=((er ps (jV ps x (rows.take k)).1 rows[k]).1,(jV ps x (rows.take k)).2 ++ [(er ps (jV ps x (rows.take k)).1 rows[k]).2]):=by
 rw[zu hk,xH]
theorem XP(rows:List (List Int))(hl:rows.length<=1000)(hb:x.S.Serial<6000000000000000000):mH ⟨x,ps⟩ rows=some (⟨(jV ps x rows).1,ps⟩,(jV ps x rows).2.map Xn):=by
 unfold mH;simp only[jn];refine bY rows.length (λk s=>s=((⟨(jV ps x (rows.take k)).1,ps⟩:r8),(jV ps x (rows.take k)).2.map Xn)) (by omega) rfl (λk s hk hs=>.inl ⟨_,?_,rfl⟩) (λs hs=>⟨s,za (by simp),by rw[hs,zQ]⟩);subst hs;obtain⟨o1,o2⟩:=Gx hm hx (rows.take k) (by simp;omega);have hlen:=Ik ps x (rows.take k);have hkl:(rows.take k).length=k:=by simp;omega
 dsimp only;rw[zb (by simpa using hk),s7 hk,YI,Yx hm o1 (by rw[hkl] at o2;omega),YI,K3 (by omega) (by simp[hlen];omega),YI,n9,Oz hm hx hk];simp
end
section
variable{ps:List (List g8)}{x:Hp}(hx:J8 x)
include hx
end
theorem Rs.oh{x:Hp}{n:Nat}(h:Rs x n):Oh x:=⟨h.rt,h.sl,h.zr⟩
theorem WJ{n last places:Int}{ps:List (List g8)}(hl:ps.length<=12)(hp:∀p∈ps,p.length<=12) :
  (∃e,R6 n last places ps=some (⟨Qu,[]⟩,e)/\Dc n last places (Xx ps)=some (⟨hO Qu,[]⟩,e)/\(e=13\/e=1/\¬((1<=n/\n<=24)/\(0<=last/\last<=9)/\1<=places/\places<=8))) \/
  (∃k p:Nat,n=k/\places=p/\(1<=k/\k<=24)/\Mp ps/\Rs (qq k last p) 0/\R6 n last places ps=some (⟨qq k last p,ps⟩,0)/\Dc n last places (Xx ps)=some (⟨hO (qq k last p),Xx ps⟩,0)):=by
 have e1:fN ps=some (fi ps):=ES (by omega) hp;have e2:pU (Xx ps)=some (fi ps):=Ha (by omega) hp;unfold R6 Dc;rw[e1,e2,YI,YI];cases hq:fi ps;·exact .inl ⟨13,rfl,rfl,.inl rfl⟩
 .simp only[zck,zD,qr];by_cases h:(1<=n/\n<=24)/\(0<=last/\last<=9)/\1<=places/\places<=8
  .right;obtain⟨h1,h2,h3⟩:=h;obtain⟨k,rfl⟩:∃k:Nat,n=k:=⟨n.toNat,by omega⟩;obtain⟨p,rfl⟩:∃p:Nat,places=p:=⟨places.toNat,by omega⟩;obtain⟨a1,a2,hx,hS,hz⟩:=ME (k:=k) (p:=p) (l:=last) (by omega) h2 (by omega);refine⟨k,p,rfl,rfl,by omega,(WC hq).1,⟨hx,hS,hz,zag _⟩,?_,?_⟩
   .rw[a1,YI,hx.sh.r6];rfl
   .rw[a2,YI,show (hO (qq k last p)).Roots.length=6 from hx.sh.r6];rfl
  .left;have a1:lA n last places=some Qu:=by
    unfold lA;rw[zb (by simp;omega)];rfl
   have a2:tR n last places=some (hO Qu):=by
    unfold tR;rw[zb (by simp;omega)];rfl
   refine⟨1,?_,?_,.inr ⟨rfl,h⟩⟩;·rw[a1];rfl
   .rw[a2];rfl
theorem NL{x:Hp}(hx:J8 x)(hS:SL x){k v e:Int}(hk:k∈lv x.S)(hv:v=0\/v∈lv x.S)(h:bW x k v=some (x,e))(he:e≠0):e=8:=by
 have hR:=hx.sh.sr;have k0:k≠0:=λq=>eP hR (q▸hk);unfold bW at h;rw[za (by simpa using k0),M8 hR (tu hx hS (.inr hk)),YI,M8 hR (tu hx hS hv),zC (.inr hk),zC hv] at h;simp only[zck,mt,jG,YI,Bool.or_self,zD,qr] at h;obtain⟨r,r1,_,_,r5⟩:=dJ hx.sh.hr k v;rw[r1,YI] at h;by_cases h0:r.2.2=0
 .have e1:(r.2.2 != 0)=false:=by simpa using h0
  rw[e1,za (by simp)] at h;cases q:D6 x r.2.1 v ⟨r.1⟩ with
  | none=>rw[q] at h;cases h
  | some w=>
   rw[q,YI] at h;exact absurd (zX (λp=>p.2) (zL h)).symm he
 .rw[zb (by simpa using h0)] at h;have:r.2.2=e:=zX (λp=>p.2) (zL h);rcases r5 with ⟨q,rfl⟩ | ⟨_,_,⟨i,hi,rfl⟩ | ⟨_,rfl⟩⟩ | ⟨_,_,⟨i,hi,rfl⟩ | ⟨d,_,_,_,_,rfl⟩ | ⟨_,_,rfl⟩⟩;·exact absurd q k0
  .exact absurd rfl h0
  .exact absurd rfl h0
  .exact absurd rfl h0
  .exact absurd rfl h0
  .exact this.symm
theorem Ec{s:b6}(hR:SR s){h:Int}(hh:h∈lv s){n:Nat}(hn:n<(ob s h).Fields.length):J2 s h n=some ((ob s h).Fields[n],0):=by
 unfold J2;rw[uW (A0.2 hR) hh,YI,za (by simp),Yv hn];rfl
section
variable{x:Hp}(hB:HB x)
include hB
end
theorem FI{x:Hp}(hx:J8 x){k h c e:Int}(hk:0<=k/\k<=5)(hh:h=0\/h∈lv x.S)(hm:h<=9223372036854775807)(hc : -1<=c/\c<=5)(q:R3 x k h c=some (x,e))(he:e≠0):e=7:=by
 have hR:=hx.sh.sr;have c6:=hx.sh.c6;have q30:=hx.sh.q30;obtain⟨n,rfl⟩:∃n:Nat,k=n:=⟨k.toNat,by omega⟩;unfold R3 at q;have e1:((decide ((n:Int)<0))||(decide ((n:Int)>=(x.b7.length:Int))))=false:=by rw[c6];simp;omega
 rw[e1] at q;simp only[mt,jG,zcb] at q;have hwq:aA x.Q n=some (wg x.Q n):=xj (by omega);rw[hwq,YI,M8 hR hm,YI,zC hh] at q;cases hw:wg x.Q n
 .rw[hw,za (by decide),za (by decide)] at q;cases g1:jS x.b7 n h c with
  | none=>rw[g1] at q;cases q
  | some a=>
   rw[g1,YI] at q;cases g2:aa ⟨x.S,x.Roots,a.1,x.T,x.Q⟩ h 1 with
   | none=>rw[g2] at q;cases q
   | some b=>
    rw[g2,YI] at q;cases g3:aN b a.2.1 with
    | none=>rw[g3] at q;cases q
    | some d=>
     rw[g3,YI] at q;exact absurd (zX (λp=>p.2) (zL q)).symm he
 .rw[hw,zb rfl] at q;exact (zX (λp=>p.2) (zL q)).symm
section
variable{x:Hp}(hB:HB x)
include hB
end
structure Gd (σ:Int->Int) (s:b6):Prop where
 z:σ 0=0
 f:∀h i,T5 s h i->σ h=(ce s i).Val.Serial
def nd(σ:Int->Int)(s:b6)(i:Nat):b8:=⟨(ce s i).Val.Serial,i,(ce s i).Val.Prog,(ce s i).Val.Started,decide ((ce s i).State=1),decide (12<=(ce s i).Val.Strong),(ce s i).Val.Fields.map σ⟩
structure Sn (σ:Int->Int) (s:b6) (l:List b8):Prop where
 up:l.Pairwise λa b=>a.Serial<b.Serial
 mem:∀n,n∈l↔∃i,i<s.S.b7.length/\Th (ce s i)/\n=nd σ s i
def Ou(c:c8):Int:=if Th c then c.Val.Serial else if c.State=3 then -1 else 0
def wx(σ:Int->Int)(c:k7):k7:=⟨σ c.Target,c.Intact,c.Call⟩
def tx(σ:Int->Int)(t:e6):e6:=if t.Kind=1 then ⟨1,σ t.At,t.Prog⟩ else t
structure p9 (σ:Int->Int) (x:Hp) (m:a8):Prop where
 gd:Gd σ x.S
 nd:Sn σ x.S m.Nodes
 sl:m.Slots=(List.range x.S.S.b7.length).map λi=>Ou (Sh.ce x.S i)
 ge:m.Gens=(List.range x.S.S.b7.length).map λi=>(Sh.ce x.S i).Gen
 la:m.Last=x.S.S.Last
 npl:m.Places=x.T.length
 se:m.Serial=x.S.Serial
 ro:m.Roots=x.Roots.map σ
 ce:m.b7=x.b7.map (wx σ)
 p1:m.Pairs.Pairwise λa b=>a.Key≠b.Key
 p2:∀p,p∈m.Pairs↔∃k v,Has x.T k v/\p=⟨σ k,σ v⟩
 tk:m.Tasks=x.Q.L.map (tx σ)
section
variable{σ:Int->Int}{s:b6}(hR:SR s)(g:Gd σ s)
include hR g
theorem Gd.lv{h:Int}(hh:h∈lv s):σ h=(ob s h).Serial:=by
 have q:=o0 hR hh;rw[E9 hR q,g.f h _ q.d]
theorem Gd.pos{h:Int}{i:Nat}(q:T5 s h i):1<=σ h/\σ h<=s.Serial:=by
 rw[g.f h i q];exact⟨(hR.ok i q.1 q.2.1).s1,(hR.ok i q.1 q.2.1).s2⟩
theorem Gd.inj{h k:Int}{i j:Nat}(q:T5 s h i)(p:T5 s k j)(e:σ h=σ k):h=k:=by
 rw[g.f h i q,g.f k j p] at e;have:=hR.dif i j q.1 p.1 q.2.1 p.2.1 e;subst this;rw[q.2.2,p.2.2]
theorem Gd.inl{h k:Int}(hh:h∈Sh.lv s)(hk:k∈Sh.lv s)(e:σ h=σ k):h=k:=g.inj hR (o0 hR hh).d (o0 hR hk).d e
theorem Gd.ps{h:Int}(hh:h∈Sh.lv s):1<=σ h/\σ h<=s.Serial:=g.pos hR (o0 hR hh).d
theorem Gd.VF{h k:Int}(hh:h=0\/∃i,T5 s h i)(hk:k=0\/∃i,T5 s k i)(e:σ h=σ k):h=k:=by
 rcases hh with e1 | ⟨i,q⟩ <;> rcases hk with e2 | ⟨j,p⟩
 .rw[e1,e2]
 .subst e1;rw[g.z] at e;have:=g.pos hR p;omega
 .subst e2;rw[g.z] at e;have:=g.pos hR q;omega
 .exact g.inj hR q p e
theorem Gd.zero{h:Int}(hh:h=0\/∃i,T5 s h i):σ h=0↔h=0:=by
 refine⟨λe=>g.VF hR hh (.inl rfl) (e.trans g.z.symm),λe=>?_⟩;subst e;exact g.z
theorem MW{h:Int}(hh:h=0\/h∈Sh.lv s):h=0\/∃i,T5 s h i:=hh.imp id λq=>⟨_,(o0 hR q).d⟩
theorem xk{l:List Int}(hl:∀v∈l,v=0\/v∈Sh.lv s){h:Int}(hh:h∈Sh.lv s):J3 (l.map σ) (σ h)=J3 l h:=by
 have p:=g.ps hR hh;have p0:=(H5 hR hh).1;unfold J3;rw[za (by omega),za (by omega)];induction l with
 | nil=>rfl
 | cons v l ih=>
  rw[zF,zcj,zcj,ih λu hu=>hl u (zl _ hu)];congr 1;by_cases e:v=h
  .subst e;simp
  .have:σ v≠σ h:=λe'=>e (g.VF hR (MW hR g (hl v zf)) (.inr ⟨_,(o0 hR hh).d⟩) e');simp[e,this]
end
section
variable{σ:Int->Int}{s:b6}(hR:SR s){l:List b8}(q:Sn σ s l)
include hR q
theorem Sn.one{n m:b8}(hn:n∈l)(hm:m∈l)(e:n.Serial=m.Serial):n=m:=by
 obtain⟨i,hi,ti,rfl⟩:=(q.mem n).1 hn;obtain⟨j,hj,tj,rfl⟩:=(q.mem m).1 hm;have:=hR.dif i j hi hj ti tj e;rw[this]
theorem Sn.at{i:Nat}(hi:i<s.S.b7.length)(ht:Th (ce s i)):Sh.nd σ s i∈l:=(q.mem _).2 ⟨i,hi,ht,rfl⟩
theorem Sn.pos{n:b8}(hn:n∈l):1<=n.Serial/\n.Serial<=s.Serial:=by
 obtain⟨i,hi,ti,rfl⟩:=(q.mem n).1 hn;exact⟨(hR.ok i hi ti).s1,(hR.ok i hi ti).s2⟩
theorem Sn.len:l.length<=24:=by
 have h1:(l.map (·.Slot)).Nodup:=by
  rw[List.Nodup,zbl];refine zbr (λ{a b} ha hb h=>?_) q.up;obtain⟨i,hi,ti,rfl⟩:=(q.mem a).1 ha;obtain⟨j,hj,tj,rfl⟩:=(q.mem b).1 hb;intro e;have:i=j:=by
   have:(i:Int)=(j:Int):=e;omega
  subst this;exact absurd h (zbg _)
 have h2:∀v∈l.map (·.Slot),v∈(List.range s.S.b7.length).map λi:Nat=>(i:Int):=λv hv=>by
  obtain⟨n,hn,rfl⟩:=zn.1 hv;obtain⟨i,hi,ti,rfl⟩:=(q.mem n).1 hn;exact zn.2 ⟨i,zbb.2 hi,rfl⟩
 have:=Y9 h1 h2;rw[zm,zm,zca] at this;have:=hR.len;omega
theorem Sn.alive:l.filter (·.Alive)=(lv s).map λh=>Sh.nd σ s (D3 h):=by
 have key:∀(a b:List b8),a.Pairwise (λu v=>u.Serial<v.Serial)->b.Pairwise (λu v=>u.Serial<v.Serial)->(∀n,n∈a↔n∈b)->a=b:=by
  intro a;induction a with
  | nil=>intro b _ _ h;cases b with
   | nil=>rfl
   | cons y b=>exact absurd ((h y).2 zf) (by simp)
  | cons x a ih=>
   intro b ha hb h;cases b with
   | nil=>exact absurd ((h x).1 zf) (by simp)
   | cons y b=>
    rw[zbe] at ha hb;have e:x=y:=by
     rcases zN.1 ((h x).1 zf) with e | e
     .exact e
     .rcases zN.1 ((h y).2 zf) with e' | e'
      .exact e'.symm
      .have:=hb.1 x e;have:=ha.1 y e';omega
    subst e;congr 1;refine ih b ha.2 hb.2 λn=>⟨λhn=>?_,λhn=>?_⟩
    .rcases zN.1 ((h n).1 (zl _ hn)) with e | e
     .subst e;have:=ha.1 n hn;omega
     .exact e
    .rcases zN.1 ((h n).2 (zl _ hn)) with e | e
     .subst e;have:=hb.1 n hn;omega
     .exact e
 refine key _ _ (q.up.filter _) ?_ λn=>?_
 .rw[zbl];refine zbr (λ{a b} ha hb h=>?_) (mV (A0.2 hR)).2.2;show (ce s (D3 a)).Val.Serial<(ce s (D3 b)).Val.Serial;rwa [HV hR (o0 hR ha),HV hR (o0 hR hb)] at h
 .rw[zk,zn];constructor
  .rintro⟨hn,ha⟩;obtain⟨i,hi,ti,rfl⟩:=(q.mem n).1 hn;have h1:(ce s i).State=1:=by simpa[Sh.nd] using ha
   have hA:At s (bV s i) i:=⟨hi,h1,rfl⟩;exact⟨bV s i,(gO hR).2 ⟨i,hA⟩,by rw[hA.d.D3 hR]⟩
  .rintro⟨h,hh,rfl⟩;have hA:=o0 hR hh;exact⟨(q.mem _).2 ⟨D3 h,hA.1,hA.d.2.1,rfl⟩,by simp[Sh.nd,hA.2.1]⟩
end
def cJ(m:a8):List Int:=nW ⟨m.Tasks,30⟩
def qN(m:a8)(s:Int):Nat:=J3 m.Roots s+((m.Nodes.filter (·.Alive)).map λn=>J3 n.Fields s).sum+J3 (m.Pairs.map (·.Val)) s+J3 (cJ m) s
theorem NQ:∀ {t:Tb},HR t->(jH t).Pairwise λa b=>a.Key≠b.Key:=by
 intro t hR;have key:∀(l:Tb),(∀i j,i<l.length->j<l.length->(l.getD i ⟨0,0,0⟩).State=1->(l.getD j ⟨0,0,0⟩).State=1->(l.getD i ⟨0,0,0⟩).Key=(l.getD j ⟨0,0,0⟩).Key->i=j)->(jH l).Pairwise λa b=>a.Key≠b.Key:=by
  intro l;induction l with
  | nil=>intro _;exact List.Pairwise.nil
  | cons p l ih=>
   intro h;have h2:=ih λi j hi hj a b e=>by
    have:=h (i+1) (j+1) (by simpa using hi) (by simpa using hj) (by simpa using a) (by simpa using b) (by simpa using e);omega
   unfold jH at h2 |-;rw[ms];split
   .rename_i hp;rw[zF,zbe];refine⟨λa ha=>?_,h2⟩;obtain⟨u,hu,rfl⟩:=zn.1 ha;rw[zk] at hu;obtain⟨k,hk,e⟩:=wt hu.1;intro eb;have:=h 0 (k+1) (by simp) (by simpa using hk) (by simpa using hp) (by simp[zd,hk,e];simpa using hu.2) (by simp[zd,hk,e];exact eb);omega
   .exact h2
 exact key t λi j hi hj a b e=>hR.uq i j hi hj a b e
section
variable{σ:Int->Int}{x:Hp}{m:a8}(hS:kc x)(q:p9 σ x m)
include hS q
theorem p9.perm:m.Pairs.Perm ((jH x.T).map λp=>⟨σ p.Key,σ p.Val⟩):=by
 have h1:m.Pairs.Nodup:=q.p1.imp λh e=>h (by rw[e]);have h2:((jH x.T).map λp=>(⟨σ p.Key,σ p.Val⟩:g7)).Nodup:=by
  rw[List.Nodup,zbl];refine zbr (λ{a b} ha hb h e=>h ?_) (NQ hS.hr);exact q.gd.inl hS.sr (hS.pr _ _ (ca.1 ha)).1 (hS.pr _ _ (ca.1 hb)).1 (zX g7.Key e)
 rw[List.perm_ext_iff_of_nodup h1 h2];intro p;rw[q.p2,zn];constructor
 .rintro⟨k,v,h,rfl⟩;exact⟨⟨k,v⟩,ca.2 h,rfl⟩
 .rintro⟨⟨k,v⟩,h,rfl⟩;exact⟨k,v,ca.1 h,rfl⟩
theorem p9.GK:cJ m=(nW x.Q).map σ:=by
 unfold cJ nW;rw[q.tk];show List.map (·.At) (((x.Q.L.map (tx σ)).filter (·.Kind==1)))=_;rw[zct,zaw,zaw];have e:((λt:e6=>t.Kind==1) ∘ tx σ)=λt=>t.Kind==1:=by
  funext t
  show ((tx σ t).Kind==1)=_;unfold tx;split;·rename_i h;simp[h]
  .rfl
 rw[e];refine zo λt ht=>?_;have:=(zk.1 ht).2;show (tx σ t).At=σ t.At;unfold tx;rw[zb (by simpa using this)]
theorem MF:∀v∈nW x.Q,v=0\/v∈lv x.S:=λv hv=>by
 obtain⟨t,ht,k,rfl⟩:=jA.1 hv;rcases (hS.tk t ht).2.2 with h | h
 .exact .inr h.2.1
 .rw[h.1] at k;exact absurd k (by decide)
theorem p9.lH{h:Int}(hh:h∈lv x.S):qN m (σ h)=lH x h:=by
 have hR:=hS.sr;have p:=q.gd.ps hR hh;have p0:=(H5 hR hh).1;unfold qN Sh.lH;have ea:J3 m.Roots (σ h)=J3 (nz x.Roots) h:=by rw[q.ro,xk hR q.gd hS.rt hh,pA]
 have eb:((m.Nodes.filter (·.Alive)).map λn=>J3 n.Fields (σ h)).sum=jv x.S h:=by
  rw[q.nd.alive hR,zaw];unfold jv;congr 1;refine zo λa ha=>?_;show J3 ((Sh.ce x.S (D3 a)).Val.Fields.map σ) (σ h)=_;rw[<-E9 hR (o0 hR ha),xk hR q.gd (hS.fl a ha) hh];exact (pA _ _).symm
 have ec:J3 (m.Pairs.map (·.Val)) (σ h)=own x.T h:=by
  have:J3 (m.Pairs.map (·.Val)) (σ h)=J3 (((jH x.T).map (·.Val)).map σ) (σ h):=by
   unfold J3;split;·rfl
   .rw[zaw];have:=(q.perm hS).map (·.Val);rw[zaw] at this;exact List.perm_iff_count.1 this _
  rw[this,xk hR q.gd (λv hv=>?_) hh]
  .unfold J3 own;rw[za (by omega),List.count_eq_countP,List.countP_map];refine List.countP_congr λu hu=>?_;simp;omega
  .obtain⟨u,hu,rfl⟩:=zn.1 hv;exact .inr (hS.pr _ _ (ca.1 hu)).2
 have ed:J3 (cJ m) (σ h)=J3 (nW x.Q) h:=by rw[q.GK hS,xk hR q.gd (MF hS q) hh]
 rw[ea,eb,ec,ed];unfold nZ;rw[F7];omega
end
def fE(l:List b8)(s:Int)(f:b8->b8):List b8:=l.map λn=>if n.Serial=s then f n else n
theorem Gk(l:List b8)(s:Int){f:b8->b8}(h:∀n∈l,n.Serial=s->f n=n):fE l s f=l:=by
 unfold fE;conv=>rhs;rw[<-List.map_id l]
 refine zo λn hn=>?_;split;·rename_i e;exact h n hn e
 .rfl
section
variable{σ:Int->Int}{s s':b6}(hR:SR s){l:List b8}(q:Sn σ s l)
include hR q
theorem Sn.same(hl:s'.S.b7.length=s.S.b7.length)(h:∀i,i<s.S.b7.length->(Th (ce s' i)↔Th (ce s i))/\(Th (ce s i)->Sh.nd σ s' i=Sh.nd σ s i)):Sn σ s' l:=by
 refine⟨q.up,λn=>(q.mem n).trans ⟨?_,?_⟩⟩
 .rintro⟨i,hi,ti,e⟩;exact⟨i,by rw[hl];exact hi,(h i hi).1.2 ti,e.trans ((h i hi).2 ti).symm⟩
 .rintro⟨i,hi,ti,e⟩;rw[hl] at hi;exact⟨i,hi,(h i hi).1.1 ti,e.trans ((h i hi).2 ((h i hi).1.1 ti))⟩
variable{i:Nat}(hi:i<s.S.b7.length)(hl:s'.S.b7.length=s.S.b7.length)(ho:∀j,j≠i->ce s' j=ce s j)
include hi hl ho
omit hR q hi hl in
theorem lG {j:Nat} (h:j≠i):Sh.nd σ s' j=Sh.nd σ s j:=by
 unfold Sh.nd;rw[ho j h]
theorem Sn.x4(ht:Th (ce s i))(ht':Th (ce s' i))(hs:(ce s' i).Val.Serial=(ce s i).Val.Serial){f:b8->b8}(hf:f (Sh.nd σ s i)=Sh.nd σ s' i):Sn σ s' (fE l (ce s i).Val.Serial f):=by
 have h0:∀n∈l,n.Serial=(ce s i).Val.Serial->n=Sh.nd σ s i:=λn hn e=>q.one hR hn (q.at hR hi ht) e;have hser:∀n∈l,(if n.Serial=(ce s i).Val.Serial then f n else n).Serial=n.Serial:=λn hn=>by
  split
  .rename_i e;rw[h0 n hn e,hf];exact hs
  .rfl
 constructor
 .unfold fE;rw[zbl];refine zbr (λ{a b} ha hb h=>?_) q.up;rw[hser a ha,hser b hb];exact h
 .intro n;unfold fE;rw[zn];constructor
  .rintro⟨k,hk,rfl⟩;split
   .rename_i e;refine⟨i,by rw[hl];exact hi,ht',?_⟩;rw[h0 k hk e,hf]
   .rename_i e;obtain⟨j,hj,tj,eb⟩:=(q.mem k).1 hk;have hne:j≠i:=λc=>e (by rw[eb,c];rfl);exact⟨j,by rw[hl];exact hj,by rw[ho j hne];exact tj,by rw[lG ho hne];exact eb⟩
  .rintro⟨j,hj,tj,rfl⟩;by_cases c:j=i
   .subst c;refine⟨Sh.nd σ s j,q.at hR hi ht,?_⟩;exact (zb rfl).trans hf
   .rw[hl] at hj;rw[ho j c] at tj;refine⟨Sh.nd σ s j,q.at hR hj tj,?_⟩;rw[lG ho c];exact za λe=>c (hR.dif j i hj hi tj ht e)
theorem Sn.del(ht:Th (ce s i))(hn:¬Th (ce s' i)):Sn σ s' (l.filter λn=>n.Serial != (ce s i).Val.Serial):=by
 refine⟨q.up.filter _,λn=>?_⟩;rw[zk];constructor
 .rintro⟨hk,e⟩;obtain⟨j,hj,tj,rfl⟩:=(q.mem n).1 hk;have hne:j≠i:=λc=>by subst c;simp[Sh.nd] at e
  exact⟨j,by rw[hl];exact hj,by rw[ho j hne];exact tj,(lG ho hne).symm⟩
 .rintro⟨j,hj,tj,rfl⟩;have hne:j≠i:=λc=>hn (c▸tj);rw[hl] at hj;rw[ho j hne] at tj;rw[lG ho hne];refine⟨q.at hR hj tj,?_⟩;have:(Sh.nd σ s j).Serial≠(ce s i).Val.Serial:=λe=>hne (hR.dif j i hj hi tj ht e);simpa using this
theorem Sn.add(hn:¬Th (ce s i))(ht:Th (ce s' i))(hs:s.Serial<(ce s' i).Val.Serial):Sn σ s' (l ++ [Sh.nd σ s' i]):=by
 constructor
 .rw[zau];refine⟨q.up,List.pairwise_singleton ..,λa ha b hb=>?_⟩;rw[zt] at hb;subst hb;have:=(q.pos hR ha).2;show a.Serial<(ce s' i).Val.Serial;omega
 .intro n;rw[zw,zt];constructor
  .rintro (h | rfl)
   .obtain⟨j,hj,tj,rfl⟩:=(q.mem n).1 h;have hne:j≠i:=λc=>hn (c▸tj);exact⟨j,by rw[hl];exact hj,by rw[ho j hne];exact tj,(lG ho hne).symm⟩
   .exact⟨i,by rw[hl];exact hi,ht,rfl⟩
  .rintro⟨j,hj,tj,rfl⟩;by_cases c:j=i
   .subst c;exact .inr rfl
   .rw[hl] at hj;rw[ho j c] at tj;rw[lG ho c];exact .inl (q.at hR hj tj)
end
abbrev xp(m:a8)(l:List b8):a8:=⟨l,m.Slots,m.Gens,m.Last,m.Places,m.Serial,m.Roots,m.b7,m.Pairs,m.Tasks,m.Progs⟩
abbrev XB(m:a8)(l:List Int):a8:=⟨m.Nodes,m.Slots,m.Gens,m.Last,m.Places,m.Serial,l,m.b7,m.Pairs,m.Tasks,m.Progs⟩
abbrev RX(m:a8)(l:List k7):a8:=⟨m.Nodes,m.Slots,m.Gens,m.Last,m.Places,m.Serial,m.Roots,l,m.Pairs,m.Tasks,m.Progs⟩
abbrev Vv(m:a8)(l:List g7):a8:=⟨m.Nodes,m.Slots,m.Gens,m.Last,m.Places,m.Serial,m.Roots,m.b7,l,m.Tasks,m.Progs⟩
abbrev FD(m:a8)(l:List e6):a8:=⟨m.Nodes,m.Slots,m.Gens,m.Last,m.Places,m.Serial,m.Roots,m.b7,m.Pairs,l,m.Progs⟩
def Dv(n:b8):b8:=⟨n.Serial,n.Slot,n.Prog,n.Started,n.Alive,true,n.Fields⟩
def uf(m:a8)(s:Int):a8:=xp m (fE m.Nodes s Dv)
def fL(m:a8)(s:Int):a8:=if s≠0/\11<=qN m s then uf m s else m
def dd(m:a8)(r:Nat)(s:Int):a8:=XB (fL m s) (m.Roots.set r s)
theorem aC(m:a8)(s:Int):fL m s=xp m (fL m s).Nodes:=by
 unfold fL uf;split <;> rfl
theorem Gd.up{σ:Int->Int}{s s':b6}(g:Gd σ s)(h:∀k i,T5 s' k i->T5 s k i/\(ce s' i).Val.Serial=(ce s i).Val.Serial):Gd σ s':=
 ⟨g.z,λk i q=>by rw[g.f k i (h k i q).1,(h k i q).2]⟩
theorem T1{n:Nat}{f g:Nat->Int}(h:∀i,i<n->f i=g i):(List.range n).map f=(List.range n).map g:=zo λi hi=>h i (zbb.1 hi)
section
variable{σ:Int->Int}{x:Hp}{m:a8}(hR:SR x.S)(q:p9 σ x m)
include hR q
theorem p9.put{h:Int}(hh:h∈lv x.S){o:n7}(hs:o.Serial=(ob x.S h).Serial)(ho:Ap x.S o){f:b8->b8}
  (hf:f (Sh.nd σ x.S (D3 h))=⟨o.Serial,(D3 h:Nat),o.Prog,o.Started,true,decide (12<=o.Strong),o.Fields.map σ⟩):p9 σ (wS x (cT x.S h o)) (xp m (fE m.Nodes (σ h) f)):=by
 have p:=o0 hR hh;have hc:=λj=>yP hR hh hs ho j;have hl:(cT x.S h o).S.b7.length=x.S.S.b7.length:=J1 ..;have hsi:o.Serial=(Sh.ce x.S (D3 h)).Val.Serial:=by rw[hs,E9 hR p]
 have same:∀i,(Sh.ce (cT x.S h o) i).State=(Sh.ce x.S i).State/\(Sh.ce (cT x.S h o) i).Gen=(Sh.ce x.S i).Gen/\(Sh.ce (cT x.S h o) i).Val.Serial=(Sh.ce x.S i).Val.Serial:=λi=>by
  rw[hc i];split;·rename_i c;subst c;exact⟨rfl,rfl,hsi⟩
  .exact⟨rfl,rfl,rfl⟩
 have sT:∀i,Th (Sh.ce (cT x.S h o) i)↔Th (Sh.ce x.S i):=λi=>by unfold Th;rw[(same i).1]
 refine⟨q.gd.up λk i a=>⟨(Ds hR hh hs ho).1 a,(same i).2.2⟩,?_,?_,?_,q.la,q.npl,q.se,q.ro,q.ce,q.p1,q.p2,q.tk⟩
 .have:=q.nd.x4 (s':=cT x.S h o) hR p.1 hl (λj hj=>by rw[hc j,za hj]) p.d.2.1 ((sT _).2 p.d.2.1) (same _).2.2 (f:=f) (by
   rw[hf];unfold Sh.nd;rw[hc,zb rfl,zC p.2.1])
  rw[q.gd.f h _ p.d];exact this
 .show m.Slots=_;rw[q.sl];show _=List.map _ (List.range (cT x.S h o).S.b7.length);rw[hl];refine T1 λi hi=>?_;unfold Ou;rw[(same i).2.2,(same i).1];by_cases c:Th (Sh.ce x.S i)
  .rw[zb c,zb ((sT i).2 c)]
  .rw[za c,za λd=>c ((sT i).1 d)]
 .show m.Gens=_;rw[q.ge];show _=List.map _ (List.range (cT x.S h o).S.b7.length);rw[hl];exact T1 λi hi=>(same i).2.1.symm
theorem p9.AP{h:Int}(hh:h∈lv x.S){n:Int}(hn:0<=n):p9 σ (wS x (cT x.S h (AP (ob x.S h) n))) (xp m (fE m.Nodes (σ h) λk=>⟨k.Serial,k.Slot,k.Prog,k.Started,k.Alive,decide (12<=n),k.Fields⟩)):=by
 have ho:=J7 hR hh;have p:=o0 hR hh;refine q.put (o:=Sh.AP (ob x.S h) n) hR hh rfl ⟨ho.s1,ho.s2,hn,ho.wk,ho.p1,ho.p2,ho.fl⟩ ?_;unfold Sh.nd;rw[E9 hR p,zC p.2.1]
theorem p9.OU(h:Int):p9 σ (ax x h) m:=by
 unfold ax ue;split
 .rename_i hh;have p:=o0 hR hh;have:=q.AP hR hh (n:=kR (ob x.S h).Strong) (P3 (J7 hR hh).st);rw[Gk] at this;·exact this
  .intro n hn e;have:n=Sh.nd σ x.S (D3 h):=q.nd.one hR hn (q.nd.at hR p.1 p.d.2.1) (by rw[e,q.gd.f h _ p.d];rfl);rw[this];unfold Sh.nd;congr 1;rw[E9 hR p];refine zbp.2 ?_;unfold kR;split;·omega
   .split <;> omega
 .exact q
theorem p9.Vg{h:Int}(hh:h=0\/h∈lv x.S){k:Nat}(hk:h∈lv x.S->(ob x.S h).Strong<12->(ob x.S h).Strong=k):p9 σ (E5 x h) (if σ h≠0/\11<=k then uf m (σ h) else m):=by
 unfold E5 ue;rcases hh with e | hh
 .subst e;rw[za (eP hR),za (λc=>c.1 q.gd.z)];exact q
 .rw[zb hh];have p:=o0 hR hh;have h0:σ h≠0:=by have:=q.gd.ps hR hh;omega
  have hn:=(J7 hR hh).st;have Q:=q.AP hR hh (n:=Y5 (ob x.S h).Strong) (E4 hn);have one:∀n∈m.Nodes,n.Serial=σ h->n=Sh.nd σ x.S (D3 h):=λn hn e=>q.nd.one hR hn (q.nd.at hR p.1 p.d.2.1) (by rw[e,q.gd.f h _ p.d];rfl);have hinc:12<=Y5 (ob x.S h).Strong↔11<=(ob x.S h).Strong:=by
   unfold Y5;split;·omega
   .split <;> omega
  have hstk:∀n∈m.Nodes,n.Serial=σ h->n.Stuck=decide (12<=(ob x.S h).Strong):=λn hn e=>by
   rw[one n hn e,E9 hR p];rfl
  by_cases c:11<=(ob x.S h).Strong
  .have e1':(xp m (fE m.Nodes (σ h) λk=>⟨k.Serial,k.Slot,k.Prog,k.Started,k.Alive,decide (12<=Y5 (ob x.S h).Strong),k.Fields⟩))=uf m (σ h):=by
    rw[zC (hinc.2 c)];rfl
   rw[e1'] at Q;split;·exact Q
   .rename_i c2;have c3:12<=(ob x.S h).Strong:=by
     rcases Int.lt_or_le (ob x.S h).Strong 12 with c4 | c4
     .exact absurd ⟨h0,by have:=hk hh c4;omega⟩ c2
     .exact c4
    have:uf m (σ h)=m:=by
     unfold uf;rw[Gk];intro n hn e;have:=hstk n hn e;rw[zC c3] at this;unfold Dv;rw[<-this]
    rw[this] at Q;exact Q
  .have e1':(xp m (fE m.Nodes (σ h) λk=>⟨k.Serial,k.Slot,k.Prog,k.Started,k.Alive,decide (12<=Y5 (ob x.S h).Strong),k.Fields⟩))=m:=by
    rw[zY (λd=>c (hinc.1 d)),Gk];intro n hn e;have:=hstk n hn e;rw[zY (by omega)] at this;rw[<-this]
   rw[e1'] at Q;rw[za (λd=>by have:=hk hh (by omega);omega)];exact Q
end
theorem p9.WY{σ:Int->Int}{m:a8}:∀(l:List Int) {x:Hp},SR x.S->p9 σ x m->p9 σ (l.foldl ax x) m
 | [],_,_,h=>h
 | v::l,x,hR,h=>by
  rw[zaj];refine p9.WY l (x:=ax x v) ?_ (h.OU hR v);have:=gX [v] hR;exact this.1.sr
section
variable{σ:Int->Int}{x:Hp}{m:a8}(hS:kc x)(q:p9 σ x m)
include hS q
theorem p9.E5{h:Int}(hf:aB x [])(hh:h=0\/h∈lv x.S):p9 σ (E5 x h) (fL m (σ h)):=
 q.Vg hS.sr hh λhl hs=>by rw[q.lH hS hl,hf h hl hs,G6];rfl
theorem p9.roots(r:Nat)(h:Int):p9 σ (wR x (x.Roots.set r h)) (XB m (m.Roots.set r (σ h))):=
 ⟨q.gd,q.nd,q.sl,q.ge,q.la,q.npl,q.se,by rw[q.ro];exact (zcq ..).symm,q.ce,q.p1,q.p2,q.tk⟩
theorem p9.SI{r:Nat}{h:Int}{k:Nat}(hh:h=0\/h∈lv x.S)(hk:h∈lv x.S->(ob x.S h).Strong<12->(ob x.S h).Strong=k):p9 σ (G0 x r h) (XB (if σ h≠0/\11<=k then uf m (σ h) else m) (m.Roots.set r (σ h))):=by
 unfold G0;have Q:=q.Vg hS.sr hh hk;refine p9.OU (x:=wR (Sh.E5 x h) (x.Roots.set r h)) (jN hS.sr h) ?_ _;have e:(if σ h≠0/\11<=k then uf m (σ h) else m).Roots=m.Roots:=by split <;> rfl
 have ex:(Sh.E5 x h).Roots=x.Roots:=by rw[pg]
 rw[<-ex,<-e];exact⟨Q.gd,Q.nd,Q.sl,Q.ge,Q.la,Q.npl,Q.se,by rw[Q.ro];exact (zcq ..).symm,Q.ce,Q.p1,Q.p2,Q.tk⟩
theorem p9.G0{r:Nat}{h:Int}(hf:aB x [])(hh:h=0\/h∈lv x.S):p9 σ (G0 x r h) (dd m r (σ h)):=by
 have:=q.SI hS (r:=r) hh (k:=qN m (σ h)) λhl hs=>by rw[q.lH hS hl,hf h hl hs,G6];rfl
 exact this
end
abbrev We(n:b8)(l:List Int):b8:=⟨n.Serial,n.Slot,n.Prog,n.Started,n.Alive,n.Stuck,l⟩
section
variable{σ:Int->Int}{x:Hp}{m:a8}(hS:kc x)(q:p9 σ x m)
include hS q
theorem p9.bD{h:Int}(hf:aB x [])(hh:h∈lv x.S){k:Nat}{v:Int}(hv:v=0\/v∈lv x.S):p9 σ (bD x h k v) (xp (fL m (σ v)) (fE (fL m (σ v)).Nodes (σ h) λn=>We n (((ob x.S h).Fields.map σ).set k (σ v)))):=by
 have hR:=hS.sr;have Q:=q.E5 hS hf hv;have wu:vE x.S (Sh.E5 x v).S:=H7 hR v λc=>E4;have hh':h∈lv (Sh.E5 x v).S:=by rw[wu.lv];exact hh
 have hR':=wu.sr;have ho:=J7 hR' hh';have p:=o0 hR' hh';have hfl:(ob (Sh.E5 x v).S h).Fields=(ob x.S h).Fields:=by
  obtain⟨n,e⟩:=wu.ob h (by have:=H5 hR hh;omega);rw[e]
 have P:=Q.put (o:=rm (ob (Sh.E5 x v).S h) ((ob x.S h).Fields.set k v)) hR' hh' rfl ⟨ho.s1,ho.s2,ho.st,ho.wk,ho.p1,ho.p2,by
  show ((ob x.S h).Fields.set k v).length<=4;rw[zaq,<-hfl];exact ho.fl⟩ (f:=λn=>We n (((ob x.S h).Fields.map σ).set k (σ v))) (by
  unfold Sh.nd;rw[E9 hR' p,zC p.2.1,zcq])
 unfold Sh.bD;refine p9.OU (x:=wS (Sh.E5 x v) _) ?_ P _;exact bN hR' hh' rfl ⟨ho.s1,ho.s2,ho.st,ho.wk,ho.p1,ho.p2,by
  show ((ob x.S h).Fields.set k v).length<=4;rw[zaq,<-hfl];exact ho.fl⟩
end
theorem Dt{t:Tb}(hT:HR t){k v:Int}{r:Tb × Int × Int}(h:U1 t k v=some r)(h0:r.2.2=0)(k' v':Int):Has r.1 k' v'↔(k'≠k/\Has t k' v')\/(v≠0/\k'=k/\v'=v):=by
 obtain⟨u,hu,_,_,c⟩:=dJ hT k v;rw[hu] at h;obtain rfl:=zL h;rcases c with ⟨_,rfl⟩ | ⟨hk,hv,c⟩ | ⟨hk,hv,c⟩;·exact absurd (show (2:Int)=0 from h0) (by decide)
 .subst hv;rcases c with ⟨i,hi,rfl⟩ | ⟨hn,rfl⟩;·rw[sz hT hi];simp
  .constructor
   .intro hh;refine .inl ⟨λe=>?_,hh⟩;subst e;obtain⟨i,hi,_⟩:=hh;exact hn i hi
   .rintro (⟨_,hh⟩ | ⟨c,_⟩);·exact hh
    .exact absurd rfl c
 .have key:∀ {a:Tb},xq t k v (a,0)->(Has a k' v'↔(k'≠k/\Has t k' v')\/(v≠0/\k'=k/\v'=v)):=λP=>by
   rw[xd hT P rfl];constructor
   .rintro (⟨a,b⟩ | c);·exact .inr ⟨hv,a,b⟩
    .exact .inl c
   .rintro (c | ⟨_,a,b⟩);·exact .inr c
    .exact .inl ⟨a,b⟩
  rcases c with ⟨i,hi,rfl⟩ | ⟨d,_,_,_,hp,rfl⟩ | ⟨_,_,rfl⟩;·exact key (.old i hi)
  .exact key hp
  .exact absurd (show (8:Int)=0 from h0) (by decide)
theorem RE{t:Tb}(hT:HR t){k v:Int}{r:Tb × Int × Int}(h:U1 t k v=some r):r.1.length=t.length:=by
 obtain⟨u,hu,_,hl,_⟩:=dJ hT k v;rw[hu] at h;obtain rfl:=zL h;exact hl
section
variable{σ:Int->Int}{x:Hp}{m:a8}(hS:kc x)(q:p9 σ x m)
include hS q
theorem p9.iE{k v:Int}(hf:aB x [])(hk:k∈lv x.S)(hv:v=0\/v∈lv x.S){r:Tb × Int × Int}(h:U1 x.T k v=some r)(h0:r.2.2=0) :
  p9 σ (iE x v r.1 r.2.1) (Vv (fL m (σ v)) ((m.Pairs.filter λp=>p.Key != σ k)++if v=0 then [] else [⟨σ k,σ v⟩])):=by
 have hR:=hS.sr;have Q:=q.E5 hS hf hv;unfold Sh.iE;refine p9.OU (x:=wT (Sh.E5 x v) r.1) (jN hR v) ?_ _;refine⟨Q.gd,Q.nd,Q.sl,Q.ge,Q.la,?_,Q.se,Q.ro,Q.ce,?_,λp=>?_,Q.tk⟩
 .show _=((r.1.length:Nat):Int);rw[RE hS.hr h];have:(Sh.E5 x v).T=x.T:=by rw[pg]
  rw[<-this];exact Q.npl
 .show List.Pairwise _ _;rw[zau];refine⟨q.p1.filter _,?_,λa ha b hb=>?_⟩
  .split;·exact List.Pairwise.nil
   .exact List.pairwise_singleton ..
  .split at hb;·cases hb
   .rw[zt] at hb;subst hb;have:=(zk.1 ha).2;simpa using this
 .show p∈_↔∃k' v',Has r.1 k' v'/\_;rw[zw,zk,q.p2];constructor
  .rintro (⟨⟨k',v',hh,rfl⟩,c⟩ | c)
   .refine⟨k',v',(Dt hS.hr h h0 _ _).2 (.inl ⟨λe=>?_,hh⟩),rfl⟩;subst e;simp at c
   .split at c;·cases c
    .rename_i c0;rw[zt] at c;exact⟨k,v,(Dt hS.hr h h0 _ _).2 (.inr ⟨c0,rfl,rfl⟩),c⟩
  .rintro⟨k',v',hh,rfl⟩;rcases (Dt hS.hr h h0 _ _).1 hh with ⟨c,hh⟩ | ⟨c0,rfl,rfl⟩
   .refine .inl ⟨⟨k',v',hh,rfl⟩,?_⟩;have:σ k'≠σ k:=λe=>c (q.gd.inl hR (hS.pr _ _ hh).1 hk e);simpa using this
   .right;rw[za c0];exact zt.2 rfl
end
def El(m:a8)(n:b8):a8:=
 ⟨m.Nodes.filter (λk=>k.Serial != n.Serial),m.Slots.set n.Slot.toNat (if m.Gens.getD n.Slot.toNat 0=m.Last then -1 else 0),
  if m.Gens.getD n.Slot.toNat 0=m.Last then m.Gens else m.Gens.set n.Slot.toNat (m.Gens.getD n.Slot.toNat 0+1),m.Last,m.Places,m.Serial,m.Roots,m.b7,m.Pairs,m.Tasks,m.Progs⟩
def DR(m:a8)(s:Int):a8:=match m.Nodes.find? (λn=>n.Serial==s) with
 | none=>m
 | some n=>if n.Alive=true\/0<jb m.b7 s then m else El m n
theorem vp{n:Nat}(f:Nat->Int){i:Nat}(v:Int):((List.range n).map f).set i v=(List.range n).map λj=>if j=i then v else f j:=by
 refine zb2 (by simp) λj h1 h2=>?_;rw[zcr];simp only[q9,List.getElem_range];by_cases c:i=j
 .rw[zb c,zb c.symm]
 .rw[za c,za (za3 c)]
def FN(s:b6)(i:Nat):c8:=if (ce s i).Gen=s.S.Last then ⟨3,(ce s i).Gen,z0⟩ else ⟨0,(ce s i).Gen+1,z0⟩
theorem TS(s:b6)(i:Nat):¬Th (FN s i):=by
 unfold FN Th;split <;> simp
section
variable{σ:Int->Int}{x:Hp}{m:a8}(hR:SR x.S)(q:p9 σ x m)
include hR q
theorem p9.El{i:Nat}(hi:i<x.S.S.b7.length)(ht:Th (Sh.ce x.S i)):p9 σ (wS x (H6 x.S i (FN x.S i))) (El m (Sh.nd σ x.S i)):=by
 have hc:=λj=>K4 hi (FN x.S i) j;have hl:=V3 x.S i (FN x.S i);have hno:=TS x.S i;have hg:m.Gens.getD i 0=(Sh.ce x.S i).Gen:=by
  rw[q.ge,zd,zB,List.getElem?_range hi];rfl
 have hsl:(Sh.nd σ x.S i).Slot.toNat=i:=by unfold Sh.nd;simp
 unfold Sh.El;rw[hsl,hg,q.la];refine⟨q.gd.up λk j a=>?_,?_,?_,?_,rfl,q.npl,q.se,q.ro,q.ce,q.p1,q.p2,q.tk⟩
 .have hne:j≠i:=λe=>by
   have:=a.2.1;change Th (Sh.ce (H6 x.S i (FN x.S i)) j) at this
   rw[hc,zb e] at this;exact hno this
  refine⟨(DQ hi _ hne).1 a,?_⟩;change (Sh.ce (H6 x.S i (FN x.S i)) j).Val.Serial=_
  rw[hc,za hne]
 .exact q.nd.del (s':=H6 x.S i (FN x.S i)) hR hi hl (λj hj=>by rw[hc,za hj]) ht (by rw[hc,zb rfl];exact hno)
 .show _=List.map (λj=>Ou (Sh.ce (H6 x.S i (FN x.S i)) j)) (List.range (H6 x.S i (FN x.S i)).S.b7.length);show m.Slots.set i _=_;rw[hl,q.sl,vp];refine T1 λj hj=>?_;rw[hc];by_cases c:j=i
  .rw[zb c,zb c];unfold Ou;rw[za hno];unfold FN;split <;> rfl
  .rw[za c,za c]
 .show _=List.map (λj=>(Sh.ce (H6 x.S i (FN x.S i)) j).Gen) (List.range (H6 x.S i (FN x.S i)).S.b7.length);show (if (Sh.ce x.S i).Gen=x.S.S.Last then m.Gens else m.Gens.set i ((Sh.ce x.S i).Gen+1))=_;rw[hl,q.ge];unfold FN;split
  .rename_i c;refine T1 λj hj=>?_;rw[K4 hi];split;·rename_i e;rw[e]
   .rfl
  .rw[vp];refine T1 λj hj=>?_;rw[K4 hi];split <;> rfl
theorem p9.alike{s':b6}(hl:s'.S.b7.length=x.S.S.b7.length)(hla:s'.S.Last=x.S.S.Last)(hse:s'.Serial=x.S.Serial)
  (h:∀i,i<x.S.S.b7.length->(Sh.ce s' i).State=(Sh.ce x.S i).State/\(Sh.ce s' i).Gen=(Sh.ce x.S i).Gen/\(Sh.ce s' i).Val.Serial=(Sh.ce x.S i).Val.Serial/\(Sh.ce s' i).Val.Prog=(Sh.ce x.S i).Val.Prog/\(Sh.ce s' i).Val.Started=(Sh.ce x.S i).Val.Started/\(Sh.ce s' i).Val.Strong=(Sh.ce x.S i).Val.Strong/\(Sh.ce s' i).Val.Fields=(Sh.ce x.S i).Val.Fields):p9 σ (wS x s') m:=by
 have sT:∀i,i<x.S.S.b7.length->(Th (Sh.ce s' i)↔Th (Sh.ce x.S i)):=λi hi=>by unfold Th;rw[(h i hi).1]
 refine⟨q.gd.up λk i a=>?_,q.nd.same hR hl λi hi=>⟨sT i hi,λht=>?_⟩,?_,?_,by rw[q.la];exact hla.symm,q.npl,by rw[q.se];exact hse.symm,q.ro,q.ce,q.p1,q.p2,q.tk⟩
 .have hi:i<x.S.S.b7.length:=by have:=a.1;rw[<-hl];exact this
  refine⟨⟨hi,(sT i hi).1 a.2.1,?_⟩,(h i hi).2.2.1⟩;have:=a.2.2;change k=1+(i:Int)+32*(Sh.ce s' i).Gen at this
  rw[(h i hi).2.1] at this;exact this
 .obtain⟨a1,a2,a3,a4,a5,a6,a7⟩:=h i hi;unfold Sh.nd;rw[a1,a3,a4,a5,a6,a7]
 .show _=List.map _ (List.range s'.S.b7.length);rw[hl,q.sl];refine T1 λi hi=>?_;unfold Ou;rw[(h i hi).2.2.1,(h i hi).1];by_cases c:Th (Sh.ce x.S i)
  .rw[zb c,zb ((sT i hi).2 c)]
  .rw[za c,za λd=>c ((sT i hi).1 d)]
 .show _=List.map _ (List.range s'.S.b7.length);rw[hl,q.ge];exact T1 λi hi=>(h i hi).2.1.symm
theorem p9.find{h:Int}{i:Nat}(p:T5 x.S h i):m.Nodes.find? (λn=>n.Serial==σ h)=some (Sh.nd σ x.S i):=by
 have hs:=q.gd.f h i p;rw[List.find?_eq_some_iff_getElem];obtain⟨j,hj,e⟩:=wt (q.nd.at hR p.1 p.2.1);refine⟨by rw[hs];exact mt _,j,hj,e,λk hk=>?_⟩;have:=za6.1 q.nd.up k j (by omega) hj hk;rw[e] at this;have:m.Nodes[k].Serial≠σ h:=by
  rw[hs];have:m.Nodes[k].Serial<(Sh.ce x.S i).Val.Serial:=this;omega
 simpa using this
theorem p9.Wf:m.Nodes.find? (λn=>n.Serial==0)=none:=by
 rw[zb4];intro n hn e;have:=(q.nd.pos hR hn).1;have:n.Serial=0:=by simpa using e
 omega
theorem p9.jb{l:List k7}{h:Int}(hl:∀c∈l,σ c.Target=σ h->c.Target=h)(h0:h≠0)(h1:σ h≠0):Sh.jb (l.map (wx σ)) (σ h)=Sh.jb l h:=by
 unfold Sh.jb;rw[List.countP_map];refine List.countP_congr λc hc=>?_;show ((σ h != 0)&&(σ c.Target==σ h))=true↔((h != 0)&&(c.Target==h))=true;have:σ c.Target=σ h↔c.Target=h:=⟨hl c hc,λe=>by rw[e]⟩;simp[h0,h1,this]
end
end Go.Sh
