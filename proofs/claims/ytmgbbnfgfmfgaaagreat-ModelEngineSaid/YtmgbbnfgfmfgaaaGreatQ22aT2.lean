/- A part. -/
import Derived.Test.YtmgbbnfgfmfgaaaGreatQ22aT
set_option linter.unusedVariables false
set_option linter.unusedSimpArgs false
set_option linter.unusedSectionVars false
namespace Go.Sh
noncomputable def zr(x:Hp):List Int:=(lv x.S).filter λh=>(ob x.S h).Strong==0
theorem dm{x:Hp}{h:Int}:h∈zr x↔h∈lv x.S/\(ob x.S h).Strong=0:=by
 unfold zr;rw[zk,pu]
theorem Et{x:Hp}(hx:L1 x){z:Int}(hz:z∈zr x):lY x z=0:=by
 obtain⟨a,b⟩:=dm.1 hz;have:=hx.fair z a (by omega);rw[J1] at this;omega
theorem GA{l:List Int}{h:Int}(h0:h≠0)(e:T3 l h=0):h∉l:=λq=>by
 have:=jo.2 ⟨h0,q⟩;omega
theorem NY{α:Type}(f:α->Nat):∀ {l:List α} {a:α},a∈l->f a<=(l.map f).sum
 | b::l,a,h=>by
  rw[zU,zbg];rcases zM.1 h with e | e
  .subst e;omega
  .have:=NY f e;omega
theorem Dh{s:b6}{a y:Int}(ha:a∈lv s):T3 (outs s a) y<=kz s y:=NY (λx=>T3 (outs s x) y) ha
theorem DB{t:Tb}{k v:Int}(h:Has t k v)(h0:v≠0):0<own t v:=zbx.2 ⟨⟨k,v⟩,cE.2 h,by simp[h0]⟩
def lE(t:Tb)(ks:List Int):Tb × List Int:=(aZ t ks).getD (t,[])
theorem ki{t:Tb}(hT:HR t)(ks:List Int)(hks:ks.length<=1000):aZ t ks=some (lE t ks)/\HR (lE t ks).1/\(lE t ks).2.length<=ks.length/\pw (t.map eF) ks=some ((lE t ks).1.map eF,(lE t ks).2) /\
  (∀k v,Has (lE t ks).1 k v↔k∉ks/\Has t k v)/\∀y,own (lE t ks).1 y+T3 (lE t ks).2 y=own t y:=by
 obtain⟨a,had,h1,h2,h3,h4,h5,h6,h7,h8,h9⟩:=wH hT ks hks;have:lE t ks=(a,had):=by unfold lE;rw[h1];rfl
 rw[this];exact⟨h1,h2,h4,h5,h6,h9⟩
noncomputable def gS(x:Hp)(ds:List Int):Hp:=(ds.flatMap (outs x.S)++(lE x.T ds).2).foldl aN (jG x ds (lE x.T ds).1)
theorem ij:∀(l:List Int) {x:Hp},SR x.S->vY x.S (l.foldl aN x).S/\l.foldl aN x=wS x (l.foldl aN x).S
 | [],x,h=>⟨vY.refl h,rfl⟩
 | v::l,x,h=>by
  have k1:=I4 h v (f:=lu) λc=>Q1;obtain⟨k2,e⟩:=ij l (x:=aN x v) k1.sr;refine⟨k1.trans k2,?_⟩;show l.foldl aN (aN x v)=wS x (l.foldl aN (aN x v)).S;rw[e,WT x v]
theorem BA{x:Hp}(hx:L1 x){ds:List Int}(hn:ds.Nodup)(hm:∀d∈ds,d∈lv x.S)
  (ho:∀d∈ds,d∉oz x)(hf:∀h∈lv x.S,h∉ds->∀v∈(ob x.S h).Fields,v∉ds)(hp:∀k v,Has x.T k v->k∉ds->v∉ds):L1 (gS x ds):=by
 have hl:ds.length<=24:=zO (ae hn hm) (K8 (y8.2 hx.sh.sr));obtain⟨_,w1,_,_,w2,w3⟩:=ki hx.sh.hr ds (by omega);obtain⟨a,b,c⟩:=Lc hx hn hm ho hf hp w1 w2 w3;exact Ai _ a b c
theorem Hf{x:Hp}(hR:SR x.S){ds:List Int}(hn:ds.Nodup)(hm:∀d∈ds,d∈lv x.S):lv (gS x ds).S=(lv x.S).filter λh=>decide (h∉ds):=by
 have g:=eX ds hR hn hm;exact (ij (ds.flatMap (outs x.S)++(lE x.T ds).2) (x:=jG x ds (lE x.T ds).1) g.sr).1.lv.trans g.lv
theorem Hg{x:Hp}(hR:SR x.S){ds:List Int}(hn:ds.Nodup)(hm:∀d∈ds,d∈lv x.S){k:Int}(hk:k∈lv x.S)(hd:k∉ds):∃n,ob (gS x ds).S k=Bp (ob x.S k) n:=by
 have g:=eX ds hR hn hm;have hr:=H5 hR hk;obtain⟨n,e⟩:=(ij (ds.flatMap (outs x.S)++(lE x.T ds).2) (x:=jG x ds (lE x.T ds).1) g.sr).1.ob k (by omega);refine⟨n,?_⟩;have e':ob (gS x ds).S k=_:=e;have g':ob (jG x ds (lE x.T ds).1).S k=ob x.S k:=g.ob k hk hd;rw[e',g']
theorem sF{x:Hp}(hR:SR x.S){ds:List Int}(hn:ds.Nodup)(hm:∀d∈ds,d∈lv x.S):(gS x ds).Roots=x.Roots/\(gS x ds).b7=nT x.b7 ds/\(gS x ds).T=(lE x.T ds).1/\(gS x ds).Q=⟨x.Q.L++kl x.b7 ds,x.Q.Cap⟩:=by
 have g:=eX ds hR hn hm;have e:=(ij (ds.flatMap (outs x.S)++(lE x.T ds).2) (x:=jG x ds (lE x.T ds).1) g.sr).2;have e':gS x ds=wS (jG x ds (lE x.T ds).1) (gS x ds).S:=e;rw[e'];exact⟨rfl,rfl,rfl,rfl⟩
theorem AQ{x:Hp}(hx:L1 x){z:Int}(hz:z∈zr x):L1 (gS x [z]):=by
 obtain⟨a,b⟩:=dm.1 hz;have h0:z≠0:=λe=>ff hx.sh.sr (e▸a);have hn:=Et hx hz;unfold lY at hn;refine BA hx (by simp) (by simpa using a) (λd hd=>?_) (λh hh hne v hv q=>?_) (λk v hkv _ q=>?_)
 .rw[zp] at hd;subst hd;exact GA h0 (by omega)
 .rw[zp] at q;subst q;have:=Dh (y:=v) hh;have h1:=jo.2 ⟨h0,show v∈outs x.S h from gr.2 ⟨hv,h0⟩⟩;omega
 .rw[zp] at q;subst q;have:=DB hkv h0;omega
def due(o:n0):Bool:=decide (0<=o.Prog) && !o.Started
noncomputable def GQ(x:Hp):Hp:=match zr x with
 | []=>x
 | z::_=>if due (ob x.S z) then gN x z else gS x [z]
noncomputable def oD:Nat->Hp->Hp
 | 0,x=>x
 | n+1,x=>oD n (GQ x)
theorem fO(n:Nat)(x:Hp):oD (n+1) x=GQ (oD n x):=by
 induction n generalizing x with
 | zero=>rfl
 | succ n ih=>exact ih (GQ x)
theorem nM{x:Hp}(h:zr x = []):GQ x=x:=by unfold GQ;rw[h]
theorem kf{x:Hp}{z:Int}{l:List Int}(h:zr x=z::l):GQ x=if due (ob x.S z) then gN x z else gS x [z]:=by unfold GQ;rw[h]
theorem Mm{x:Hp}(hx:L1 x):L1 (GQ x):=by
 cases h:zr x with
 | nil=>rw[nM h];exact hx
 | cons z l=>
  have hz:z∈zr x:=by rw[h];exact zg ..
  rw[kf h];split
  .rename_i q;unfold due at q;rw[zy,zG,zb7] at q;exact vH hx (dm.1 hz).1 q.1 q.2
  .exact AQ hx hz
theorem Q3{x:Hp}(hx:L1 x)(n:Nat):L1 (oD n x):=by
 induction n with
 | zero=>exact hx
 | succ n ih=>rw[fO];exact Mm ih
section
variable{x:Hp}(hR:SR x.S){h:Int}(hh:h∈lv x.S)
include hR hh
theorem ns:vY (dp x.S h (fN (ob x.S h))) (gN x h).S/\(gN x h).Roots=x.Roots/\(gN x h).b7=x.b7/\(gN x h).T=x.T/\(gN x h).Q=⟨x.Q.L ++ [AU x h],x.Q.Cap⟩:=by
 have oko:=K9 hR hh;have r1:=bZ (o:=fN (ob x.S h)) hR hh rfl ⟨oko.s1,oko.s2,oko.st,oko.wk,oko.p1,oko.p2,oko.fl⟩;refine⟨I4 (x:=⟨dp x.S h (fN (ob x.S h)),x.Roots,x.b7,x.T,⟨x.Q.L ++ [AU x h],x.Q.Cap⟩⟩) r1 h λc=>E9,?_⟩;have e:gN x h=wS ⟨dp x.S h (fN (ob x.S h)),x.Roots,x.b7,x.T,⟨x.Q.L ++ [AU x h],x.Q.Cap⟩⟩ (gN x h).S:=pB _ h;rw[e];exact⟨rfl,rfl,rfl,rfl⟩
theorem DF:lv (gN x h).S=lv x.S:=by
 have oko:=K9 hR hh;exact (ns hR hh).1.lv.trans (iN (o:=fN (ob x.S h)) hR hh rfl ⟨oko.s1,oko.s2,oko.st,oko.wk,oko.p1,oko.p2,oko.fl⟩)
theorem Ab{k:Int}(hk:k∈lv x.S):∃n,ob (gN x h).S k=Bp (if k=h then fN (ob x.S h) else ob x.S k) n:=by
 have oko:=K9 hR hh;have hr:=H5 hR hk;obtain⟨n,e⟩:=(ns hR hh).1.ob k (by omega);refine⟨n,?_⟩;rw[e,gx (o:=fN (ob x.S h)) hR hh rfl ⟨oko.s1,oko.s2,oko.st,oko.wk,oko.p1,oko.p2,oko.fl⟩ (by omega)]
end
noncomputable def mu(x:Hp):Nat:=(lv x.S).length+((lv x.S).filter λh => !(ob x.S h).Started).length
theorem Yt{x:Hp}(hR:SR x.S):mu x<=48:=by
 have h1:(lv x.S).length<=24:=K8 (y8.2 hR);have h2:((lv x.S).filter λh => !(ob x.S h).Started).length<=(lv x.S).length:=zD ..;unfold mu;omega
theorem Xg{x:Hp}(hx:L1 x)(h:zr x ≠ []):mu (GQ x)<mu x:=by
 cases hz:zr x with
 | nil=>exact absurd hz h
 | cons z l=>
  have hzm:z∈zr x:=by rw[hz];exact zg ..
  have hzl:=(dm.1 hzm).1;have hR:=hx.sh.sr;rw[kf hz];split
  .rename_i q;unfold due at q;rw[zy,zG,zb7] at q;unfold mu;rw[DF hR hzl];have:=filter_lt (p:=λh => !(ob (gN x z).S h).Started) (q:=λh => !(ob x.S h).Started) (l:=lv x.S) (λk hk hp=>by
    obtain⟨n,e⟩:=Ab hR hzl hk;rw[e] at hp;split at hp;·exact absurd hp (by simp)
    .exact hp) z hzl (by rw[q.2];rfl) (by
    obtain⟨n,e⟩:=Ab hR hzl hzl;rw[e,zb rfl];rfl)
   omega
  .unfold mu;have hn:([z]:List Int).Nodup:=by simp
   have hm:∀d ∈ [z],d∈lv x.S:=by simpa using hzl
   rw[Hf hR hn hm,zan];have h1:((lv x.S).filter λh=>decide (h ∉ [z])).length<((lv x.S).filter λ_=>true).length:=filter_lt (λ_ _ _=>rfl) z hzl rfl (by simp);rw[zbo.2 (λ_ _=>rfl)] at h1;have h2:((lv x.S).filter λa=>(!(ob (gS x [z]).S a).Started)&&decide (a ∉ [z])).length<=((lv x.S).filter λh => !(ob x.S h).Started).length:=by
    rw[<-zbw,<-zbw];refine List.countP_mono_left λa ha hp=>?_;rw[zy,zG] at hp;obtain⟨n,e⟩:=Hg hR hn hm ha hp.2;rw[e] at hp;exact hp.1
   omega
noncomputable def bI(x:Hp):Hp:=oD 100 x
theorem vM{x:Hp}(hx:L1 x):∃n,n<=48/\zr (oD n x) = []/\(∀j,j<n->zr (oD j x) ≠ [])/\bI x=oD n x:=by
 have key:∀m,(∃n,n<=m/\zr (oD n x) = [])\/mu (oD m x)+m<=mu x:=by
  intro m;induction m with
  | zero=>exact .inr (zF _)
  | succ m ih=>
   rcases ih with ⟨n,h1,h2⟩ | ih;·exact .inl ⟨n,by omega,h2⟩
   .by_cases q:zr (oD m x) = []
    .exact .inl ⟨m,by omega,q⟩
    .have:=Xg (Q3 hx m) q;rw[<-fO] at this;exact .inr (by omega)
 have h48:=Yt hx.sh.sr;have hex:∃n,n<=48/\zr (oD n x) = []:=by
  rcases key 49 with ⟨n,h1,h2⟩ | h
  .rcases zE n 49 with q | q
   .exact⟨n,by omega,h2⟩
   .rcases key 48 with h | h
    .exact h
    .have:mu (oD 48 x)=0:=by omega
     refine⟨48,zF _,?_⟩;have hl:(lv (oD 48 x).S).length=0:=by unfold mu at this;omega
     unfold zr;rw[zT hl];rfl
  .omega
 obtain⟨n,⟨hn,hz⟩,hmin⟩:=dQ hex;refine⟨n,hn,hz,λj hj q=>?_,?_⟩
 .have:=hmin j ⟨by omega,q⟩;omega
 .have:∀k,oD (n+k) x=oD n x:=λk=>by
   induction k with
   | zero=>rfl
   | succ k ih=>rw[show n+(k+1)=(n+k)+1 by omega,fO,ih,nM hz]
  have h100:=this (100-n);rw[show n+(100-n)=100 by omega] at h100;exact h100
theorem nH{x:Hp}(hx:L1 x):L1 (bI x):=Q3 hx 100
theorem Ci{x:Hp}(hx:L1 x):zr (bI x) = []:=by
 obtain⟨n,_,h,_,e⟩:=vM hx;rw[e];exact h
theorem PD{x:Hp}(h:zr x = []):bI x=x:=by
 have:∀n,oD n x=x:=λn=>by
  induction n with
  | zero=>rfl
  | succ n ih=>rw[fO,ih,nM h]
 exact this 100
section
variable{x:Hp}(hR:SR x.S)
include hR
theorem qV{h:Int}(hh:h∈lv x.S):h<=9223372036854775807:=by have:=H5 hR hh;omega
theorem yA{h:Int}(hh:h∈lv x.S):x4 x.S h=some (ob x.S h,0):=by
 obtain⟨e,h1,h2⟩:=gj (y8.2 hR) (qV hR hh);rw[h1,h2.2 hh]
theorem zero_eq:eK x=some (zr x):=by
 have h24:(lv x.S).length<=24:=K8 (y8.2 hR);unfold eK;simp only[jn];rw[fg (y8.2 hR),a0q];rw[V7 (lv x.S) (λb h=>if (ob x.S h).Strong==0 then b ++ [h] else b) id (λk b=>b.length<=k) (by omega) (zF _) (λk hk b hb=>?_) (λb hb=>by simp)]
 .rw[foldl_filter];rfl
 .simp only[we,hk,wt,zY,s7 hk,a0q,yA hR (zh hk)];by_cases c:((ob x.S (lv x.S)[k]).Strong==0)=true
  .rw[zb c,zb c,J3 (by omega) (by simp;omega),a0q,o0];exact⟨rfl,by simp;omega⟩
  .rw[za c,za c,o0];exact⟨rfl,by omega⟩
end
noncomputable def Zm(x:Hp)(h:Int):Hp:=if h∈lv x.S/\due (ob x.S h)=true then gN x h else x
theorem Kx{s:b6}(hR:SR s){h:Int}(hl:h∈lv s):AR s (fN (ob s h)):=by
 have oko:=K9 hR hl;exact⟨oko.s1,oko.s2,oko.st,oko.wk,oko.p1,oko.p2,oko.fl⟩
theorem Kb(o:n0):P6 o=some (due o):=by
 unfold P6 due;congr 1
section
variable{x:Hp}(hx:L1 x)(hS:SL x){h:Int}(hh:h<=9223372036854775807)
include hx hS hh
theorem HW(hl:h∈lv x.S)(hd:due (ob x.S h)=true):x.Q.L.length<30:=by
 have hb:0<=(ob x.S h).Prog/\(ob x.S h).Started=false:=by
  unfold due at hd;rw[zy,zG,zb7] at hd;exact hd
 have:=(vH hx hl hb.1 hb.2).sh.q30;rw[(ns hx.sh.sr hl).2.2.2.2] at this;simp at this;omega
theorem Cc:Y3 x h=some (Zm x h):=by
 have hR:=hx.sh.sr;have cap:=hx.sh.cap;obtain⟨e,h1,h2⟩:=gj (y8.2 hR) hh;unfold Y3 Zm;rw[h1,a0q];by_cases hl:h∈lv x.S
 .have e0:e=0:=h2.2 hl;subst e0;have e1:(((0:Int) != 0)==false)=true:=rfl;simp only[e1,fX,Kb,a0q];cases hd:due (ob x.S h);·rw[zb (by simp),za (by simp)]
  .rw[za (by simp),zb ⟨hl,rfl⟩];have hr:=HW hx hS hh hl hd;have hok:=Kx hR hl;have l1:=iN (o:=fN (ob x.S h)) hR hl rfl hok;have r1:=bZ (o:=fN (ob x.S h)) hR hl rfl hok;rw[xF (o:=fN (ob x.S h)) hR hl rfl hok,a0q,Uo _ (by omega),a0q];have et:Xz x.Q ⟨1,h,(ob x.S h).Prog⟩=(⟨x.Q.L ++ [AU x h],x.Q.Cap⟩,0):=by
    unfold Xz;rw[za (by omega)]
   rw[et];dsimp only;rw[mj r1 hh (λk hk=>?_),a0q];·rfl
   .dsimp only at hk |-;rw[l1] at hk;rw[gx (o:=fN (ob x.S h)) hR hl rfl hok (qV hR hk)];split;·exact hS h hl
    .exact hS k hk
 .have e0:e≠0:=λq=>hl (h2.1 q);have e1:(e != 0)=true:=by simpa using e0
  rw[e1];simp only[show ((true==false)=true)=False by simp,D3,ul,a0q,Bool.true_or,zY];rw[za (λq=>hl q.1)]
end
noncomputable def Zi(x:Hp)(l:List Int):List Int:=l.foldl (λb h=>if h∈lv x.S/\h∉b then b ++ [h] else b) []
theorem Od{x:Hp}{z:Int}(hz:z∈lv x.S):Zi x [z] = [z]:=by
 unfold Zi;simp[hz]
section
variable{x:Hp}(hR:SR x.S)
include hR
theorem tI(l:List Int)(hl:l.length<=1000)(hb:∀h∈l,h<=9223372036854775807):aj x l=some (Zi x l):=by
 unfold aj;simp only[jn];have key:=V7 (f:=λ((s20,s21,s22):Int × (List (Int × Bool)) × (List Int))=>
   if (decide (s20<(l.length:Int))) then
     (ix l s20).bind λv32=>
     (x4 x.S v32).bind λv33=>
     if ((v33.2==0)==true) then
      if (!((A2 s21 v32).getD (false:Bool))) then
       (app 8 s22 [v32]).bind λv34=>
       some (Sum.inl (w9 (s20+1),(p7 s21 v32 true),v34))
      else
      some (.inl (w9 (s20+1),s21,s22))
     else
     some (.inl (w9 (s20+1),s21,s22))
   else
   some (.inr s22)) l (λ(b:List (Int × Bool) × List Int) h=>if h∈lv x.S/\h∉b.2 then (p7 b.1 h true,b.2 ++ [h]) else b) (λb=>b.2) (λk b=>b.2.length<=k/\∀d,(A2 b.1 d).getD false=decide (d∈b.2)) (b0:=([],[])) (by omega) ⟨zF _,λd=>by simp[A2]⟩ (λk hk b hb2=>?_) (λb hb2=>by simp)
 .rw[key,a0q];congr 1;have:∀(l:List Int) (m:List (Int × Bool)) (b:List Int),(l.foldl (λ(b:List (Int × Bool) × List Int) h=>if h∈lv x.S/\h∉b.2 then (p7 b.1 h true,b.2 ++ [h]) else b) (m,b)).2=l.foldl (λb h=>if h∈lv x.S/\h∉b then b ++ [h] else b) b:=λl=>by
   induction l with
   | nil=>intro m b;rfl
   | cons h l ih=>
    intro m b;rw[zal,zal];by_cases c:h∈lv x.S/\h∉b
    .rw[zb c,zb c,ih]
    .rw[za c,za c,ih]
  exact this l [] []
 .obtain⟨hb1,hb3⟩:=hb2;obtain⟨e,h1,h2⟩:=gj (y8.2 hR) (hb _ (zh hk));simp only[we,hk,wt,zY,s7 hk,a0q,h1,hb3];by_cases hl:l[k]∈lv x.S
  .have e0:e=0:=h2.2 hl;subst e0;by_cases hm:l[k]∈b.2
   .rw[zb (by rfl),za (by simp[hm]),za (λq=>q.2 hm),o0];exact⟨rfl,by omega,hb3⟩
   .rw[zb (by rfl),zb (by simp[hm]),zb ⟨hl,hm⟩,J3 (by omega) (by simp;omega),a0q,o0];refine⟨rfl,by simp;omega,λd=>?_⟩;rw[qd];by_cases q:d=l[k]
    .rw[zb q];simp[q]
    .rw[za q,hb3];simp[q]
  .have e0:e≠0:=λq=>hl (h2.1 q);rw[za (by simp[e0]),za (λq=>hl q.1),o0];exact⟨rfl,by omega,hb3⟩
end
theorem yt{α β:Type}(p:α->Bool)(f:α->β):∀(xs:List α) (acc:List β),xs.foldl (λb x=>if p x then b ++ [f x] else b) acc=acc++(xs.filter p).map f
 | [],acc=>by simp
 | x::xs,acc=>by
  rw[zal,yt p f xs];by_cases h:p x=true
  .simp[h]
  .simp[h]
theorem pZ{α:Type}{l:List α}{i:Nat}(h:i<l.length)(d:α):l.getD i d=l[i]:=by
 rw[zd,zc h];rfl
theorem Le(c:j5)(ds:List Int)(hl:ds.length<=1000):cR c ds=some (jO ds c):=by
 unfold cR jO;rw[contains_eq _ _ (by omega)];cases (c.Intact&&c.Target != 0);·rfl
 .simp[D3]
def oA(l:List j5)(ds:List Int):List Nat:=(List.range l.length).filter λw=>jO ds (l.getD w cz)
theorem Ww{l:List j5}{ds:List Int}{w:Nat}(h:w∈oA l ds):w<l.length:=by
 unfold oA at h;rw[zk,za7] at h;exact h.1
theorem SH(l:List j5)(ds:List Int):(oA l ds).length<=l.length:=by
 unfold oA;exact zO (zD ..) (by simp)
theorem Wx(l:List j5)(ds:List Int):(oA l ds).Nodup:=zb6 _ List.nodup_range
theorem Rw(l:List j5)(ds:List Int):cls l ds=(oA l ds).filter λw=>decide (0<=(l.getD w cz).Call):=by
 unfold cls oA;rw[zan];refine pm λw _=>?_;rw[Bool.and_comm]
def tD(l:List Nat):List Int:=l.map λ(n:Nat)=>(n:Int)
theorem JE{l:List Nat}{k:Nat}(h:k<l.length):ix (tD l) (k:Int)=some ((l[k]:Nat):Int):=by
 unfold tD;rw[tE,s7 h];rfl
theorem yE(l:List Nat):(tD l).length=l.length:=zl ..
theorem LR(l:List j5)(ds:List Int)(hl:l.length<=1000)(hd:ds.length<=1000):M9 l ds=some (tD (oA l ds)):=by
 unfold M9;simp only[jn];have hr:(List.range l.length).length=l.length:=by simp
 have key:=V7 (List.range l.length) (λ(b:List Int) (w:Nat)=>if jO ds (l.getD w cz) then b ++ [(w:Int)] else b) id (λk b=>b.length<=k) (b0:=[]) (f:=λ((s17,s18):Int × (List Int))=>
   if (decide (s17<(l.length:Int))) then
     (ix l s17).bind λv26=>
     (cR v26 ds).bind λv27=>
     if v27 then
      (app 8 s18 [s17]).bind λv28=>
      some (Sum.inl (w9 (s17+1),v28))
     else
     some (.inl (w9 (s17+1),s18))
   else
   some (.inr s18)) (by omega) (zF _) (λk hk b hb=>?_) (λb hb=>by simp)
 .rw[key,yt];rfl
 .rw[hr] at hk;simp only[we,hk,wt,zY,s7 hk,a0q,Le _ _ hd,List.getElem_range,pZ hk];by_cases c:jO ds l[k]=true
  .rw[zb c,zb c,J3 (by omega) (by simp;omega),a0q,o0];exact⟨rfl,by simp;omega⟩
  .rw[za c,za c,o0];exact⟨rfl,by omega⟩
theorem Lh(l:List j5)(hl:l.length<=1000):ck l=some l:=by
 unfold ck;rw[kU (by omega) (by omega),a0q];unfold xv;rw[zb (by simp),a0q];simp
def sI(l:List j5)(K:List Nat):List j5:=(List.range l.length).map λi=>if i∈K then ⟨(l.getD i cz).Target,false,(l.getD i cz).Call⟩ else l.getD i cz
theorem lI(l:List j5)(K:List Nat):(sI l K).length=l.length:=by simp[sI]
theorem sJ{l:List j5}{K:List Nat}{i:Nat}(h:i<(sI l K).length):(sI l K)[i]=if i∈K then ⟨(l.getD i cz).Target,false,(l.getD i cz).Call⟩ else l.getD i cz:=by simp[sI]
theorem Nd(l:List j5):sI l []=l:=by
 refine zb1 (lI ..) λi h1 h2=>?_;rw[sJ,za (by simp),pZ h2]
theorem Lg{l:List j5}{K:List Nat}{w:Nat}(hw:w<l.length):sI l (K ++ [w])=(sI l K).set w ⟨(l.getD w cz).Target,false,(l.getD w cz).Call⟩:=by
 refine zb1 (by rw[zap,lI,lI]) λi h1 h2=>?_;rw[sJ,zcq];by_cases e:w=i
 .subst e;rw[zb rfl,zb (by simp)]
 .rw[za e,sJ];by_cases q:i∈K
  .rw[zb (t6 _ q),zb q]
  .rw[za,za q];rw[zu,zp];exact λq2=>q2.elim q λq3=>e q3.symm
theorem Nc(l:List j5)(ds:List Int):sI l (oA l ds)=nT l ds:=by
 refine zb1 (by rw[lI];simp[nT]) λi h1 h2=>?_;have hi:i<l.length:=by rw[lI] at h1;exact h1
 have ec:(nT l ds)[i]=ru ds l[i]:=ut _;rw[sJ,ec,pZ hi];unfold ru;by_cases c:jO ds l[i]=true
 .rw[zb c,zb];unfold oA;rw[zk,za7,pZ hi];exact⟨hi,c⟩
 .rw[za c,za];unfold oA;rw[zk,za7,pZ hi];exact λq=>c q.2
theorem T2{α:Type}{l:List α}{k:Nat}(h:k<l.length):l.take (k+1)=l.take k ++ [l[k]]:=zt h
theorem ET(l:List j5)(ds:List Int)(hl:l.length<=1000)(hd:ds.length<=1000):gB l ds=some (nT l ds,tD (cls l ds)):=by
 unfold gB;rw[LR l ds hl hd,a0q,Lh l hl,a0q];simp only[jn,yE];have hp:=SH l ds;refine Y8 (oA l ds).length (λk (b:List j5 × List Int)=>b.1=sI l ((oA l ds).take k)/\b.2=tD (((oA l ds).take k).filter λw=>decide (0<=(l.getD w cz).Call))) (by omega) ⟨by simp[Nd],by simp[tD]⟩ ?_ ?_
 .rintro k ⟨b1,b2⟩ hk ⟨rfl,rfl⟩;left;have hw:=Ww (zh hk);have hnm:(oA l ds)[k]∉(oA l ds).take k:=λq=>by
   have hn:=Wx l ds;rw[<-zb3 k (oA l ds),zbu] at hn;exact hn.2.2 _ q (oA l ds)[k] (by rw[List.drop_eq_getElem_cons hk];exact zg ..) rfl
  have h1:(oA l ds)[k]<(sI l ((oA l ds).take k)).length:=by rw[lI];exact hw
  have e1:ix (sI l ((oA l ds).take k)) (((oA l ds)[k]:Nat):Int)=some (l.getD (oA l ds)[k] cz):=by rw[s7 h1,sJ,za hnm]
  have h2:(oA l ds)[k]<((sI l ((oA l ds).take k)).set (oA l ds)[k] ⟨(l.getD (oA l ds)[k] cz).Target,false,(l.getD (oA l ds)[k] cz).Call⟩).length:=by rw[zap];exact h1
  have e2:ix ((sI l ((oA l ds).take k)).set (oA l ds)[k] ⟨(l.getD (oA l ds)[k] cz).Target,false,(l.getD (oA l ds)[k] cz).Call⟩) (((oA l ds)[k]:Nat):Int)=some ⟨(l.getD (oA l ds)[k] cz).Target,false,(l.getD (oA l ds)[k] cz).Call⟩:=by rw[s7 h2,List.getElem_set_self]
  dsimp only;simp only[we,hk,wt,zY,JE hk,a0q,e1,zP,e2];have hle:(tD (((oA l ds).take k).filter λw=>decide (0<=(l.getD w cz).Call))).length<=1000:=by
   rw[yE];exact zO (zD ..) (by simp;omega)
  rw[T2 hk,Lg hw,zbc];by_cases c:0<=(l.getD (oA l ds)[k] cz).Call
  .rw[zb (zC c),J3 (by omega) (by simp only[zH,zag];omega),a0q,o0];refine⟨_,rfl,rfl,?_⟩;rw[or,zb (zC c)];simp[tD]
  .rw[za (λq=>c (zbl q)),o0];refine⟨_,rfl,rfl,?_⟩;rw[or,za (λq=>c (zbl q))];simp[tD]
 .rintro⟨b1,b2⟩ ⟨rfl,rfl⟩;refine⟨_,za (by simp),?_⟩;dsimp only;rw[zW,Nc,<-Rw]
def Ms(x:Hp)(ds:List Int):Hp:=⟨x.S,x.Roots,nT x.b7 ds,x.T,⟨x.Q.L++kl x.b7 ds,x.Q.Cap⟩⟩
theorem mU(l:List j5)(ds:List Int):(kl l ds).length=(cls l ds).length:=zl ..
theorem Hl{l:List j5}{ds:List Int}{w:Nat}(h:w∈cls l ds):w<l.length:=by
 unfold cls at h;rw[zk,za7] at h;exact h.1
theorem Vh{l:List j5}{ds:List Int}{k:Nat}(h:k<(kl l ds).length):(kl l ds)[k]=⟨2,(((cls l ds)[k]'(by rw[<-mU];exact h):Nat):Int),(l.getD ((cls l ds)[k]'(by rw[<-mU];exact h)) cz).Call⟩:=ut _
theorem Nf{l:List j5}{ds:List Int}{w:Nat}(h:w<l.length):ix (nT l ds) (w:Int)=some (ru ds l[w]):=by
 unfold nT;rw[tE,s7 h];rfl
section
variable{x:Hp}{ds:List Int}(hc:x.b7.length<=6)(hd:ds.length<=1000)(hq:(x.Q.L++kl x.b7 ds).length<=30)(hcap:x.Q.Cap=30)
include hc hd hq hcap
theorem La{k:Nat}(hk:k<(kl x.b7 ds).length):Xz ⟨x.Q.L++(kl x.b7 ds).take k,x.Q.Cap⟩ (kl x.b7 ds)[k]=(⟨x.Q.L++(kl x.b7 ds).take (k+1),x.Q.Cap⟩,0):=by
 rw[zL] at hq;unfold Xz;rw[za (by dsimp only;rw[zL,zaf,hcap];omega),T2 hk,zah]
theorem Hk:fK x ds=some (Ms x ds):=by
 unfold fK;rw[ET _ _ (by omega) hd,a0q];dsimp only;simp only[jn,yE];have hq2:=hq;rw[zL] at hq2;refine Y8 (cls x.b7 ds).length (λk (q:TQ)=>q=⟨x.Q.L++(kl x.b7 ds).take k,x.Q.Cap⟩) (by rw[<-mU];omega) (by simp) ?_ ?_
 .rintro k q hk rfl;left;have hw:=Hl (zh hk);have hk2:k<(kl x.b7 ds).length:=by rw[mU];exact hk
  simp only[we,hk,wt,zY,JE hk,a0q,Nf hw];have et:(⟨2,(((cls x.b7 ds)[k]:Nat):Int),(ru ds x.b7[(cls x.b7 ds)[k]]).Call⟩:g6)=(kl x.b7 ds)[k]:=by
   rw[Vh,(uW ds _).2.1,pZ hw]
  rw[et,Uo _ (by dsimp only;rw[zL,zaf];omega),La hc hd hq hcap hk2,a0q,o0 (by rw[<-mU] at hk;omega)];exact⟨_,rfl,rfl⟩
 .rintro q rfl;refine⟨_,za (by simp),?_⟩;rw[<-mU,zW];rfl
end
theorem Ch(s:b6)(i:Nat)(c d:c8):I3 (I3 s i c) i d=I3 s i d:=by
 unfold I3;dsimp only;rw[List.set_set]
section
variable{s:b6}(hR:SR s){d:Int}(hd:d∈lv s)
include hR hd
def k1(s:b6)(d:Int):b6:=I3 s (E0 d) ⟨1,(ce s (E0 d)).Gen,Li (ob s d)⟩
def k2(s:b6)(d:Int):b6:=I3 s (E0 d) ⟨2,(ce s (E0 d)).Gen,Li (ob s d)⟩
theorem Hn:AR s (Li (ob s d)):=by
 have ho:=K9 hR hd;exact⟨ho.s1,ho.s2,zae _,ho.wk,ho.p1,ho.p2,zX _⟩
theorem NV:dp s d (Li (ob s d))=k1 s d:=by
 have q:=o7 hR hd;unfold dp fY k1 I3;rw[q.2.1]
theorem Ye:At (k1 s d) d (E0 d):=by
 have q:=o7 hR hd;refine⟨by unfold k1;rw[W6];exact q.1,?_,?_⟩;·unfold k1;rw[L4 q.1,zb rfl]
 .unfold k1;rw[L4 q.1,zb rfl];exact q.2.2
theorem Yf:SR (k1 s d):=by rw[<-NV hR hd];exact bZ (o:=Li (ob s d)) hR hd rfl (Hn hR hd)
theorem Yi:SR (k2 s d):=by
 have q:=o7 hR hd;have hc:=hR.cell _ q.1;unfold k2;refine hR.I3 q.1 ⟨by simp,by simp,hc.2.2.1,hc.2.2.2⟩ (λq=>absurd (.inr rfl) q) (λ_=>⟨Hn hR hd,.inl q.2.1,?_⟩);show (ob s d).Serial=_;rw[F7 hR q]
theorem Yg:U7 (k2 s d) d (E0 d):=by
 have q:=o7 hR hd;refine⟨by unfold k2;rw[W6];exact q.1,?_,?_⟩;·unfold k2;rw[L4 q.1,zb rfl];exact .inr rfl
 .unfold k2;rw[L4 q.1,zb rfl];exact q.2.2
theorem RS:Z0 (k1 s d).S d=some ((k2 s d).S,0):=by
 have q:=o7 hR hd;have hR1:=Yf hR hd;have q1:=Ye hR hd;have hr:=H5 hR hd;have hlen:=hR1.len;have hH:sp d:=((rG hR1).2 q1.d).2.1;have hsl:(d-1) % 32=(E0 d:Nat):=((rG hR1).2 q1.d).2.2.1;have hg:(d-1) / 32=(ce s (E0 d)).Gen:=by
  have:=q.2.2;have h24:=hR.len;have:=q.1;omega
 unfold Z0 F3;rw[xr hR1 q1.d,a0q,za (by simp),JF q1.1,a0q,q1.2.1,za (by simp),a0q,za (by simp),jN (by omega),a0q,zb hH,hsl,lz (by omega),a0q,zb hH,hg,mF rfl q1.1 hlen,a0q];have e:(ce (k1 s d) (E0 d)).Val=Li (ob s d):=by unfold k1;rw[L4 q.1,zb rfl]
 rw[e];congr 2;show (I3 (k1 s d) (E0 d) _).S=(k2 s d).S;unfold k1 k2;rw[Ch]
theorem XZ(hw:(ob s d).Weak=0):Ew (k2 s d) (E0 d)=wU s d:=by
 have q:=o7 hR hd;have e:ce (k2 s d) (E0 d)=⟨2,(ce s (E0 d)).Gen,Li (ob s d)⟩:=by unfold k2;rw[L4 q.1,zb rfl]
 unfold Ew wU GM;rw[e];rw[F7 hR q] at hw;rw[zb hw];unfold k2;rw[Ch];rfl
theorem Yh(hw:(ob s d).Weak≠0):k2 s d=wU s d:=by
 have q:=o7 hR hd;unfold k2 wU GM;rw[F7 hR q] at hw |-;rw[za hw]
end
theorem LA{x:Hp}(hR:SR x.S){d:Int}(hd:d∈lv x.S):bh x d=some (wS x (wU x.S d)):=by
 unfold bh;rw[yA hR hd,a0q];have e1:T1 x.S d (⟨(ob x.S d).Serial,0,(ob x.S d).Weak,(ob x.S d).Prog,(ob x.S d).Started,[]⟩:n0)=some (k1 x.S d,0):=by
  rw[<-NV hR hd];exact xF (o:=Li (ob x.S d)) hR hd rfl (Hn hR hd)
 rw[e1,a0q,RS hR hd,a0q];by_cases hw:(ob x.S d).Weak=0
 .rw[zb (by simpa using hw),Jz (Yi hR hd) (Yg hR hd),a0q,XZ hR hd hw];rfl
 .rw[za (by simpa using hw)];show some (wS x (k2 x.S d))=_;rw[Yh hR hd hw]
theorem DQ:∀(l:List Int) {x:Hp},SR x.S->SL x->SL (l.foldl aN x)
 | [],x,_,h=>h
 | v::l,x,hR,h=>DQ l (x:=aN x v) (Pn hR v) (h.Qi hR v)
theorem DO{y:Hp}(hR:SR y.S)(l:List Int)(hl:l.length<=1000000)(hb:∀v∈l,v<=9223372036854775807){K:Hp->Option Hp}:((lp (S:=Int × b9) (E:=b9) (λ((s35,s36):Int × b9)=>
     if (decide (s35<(l.length:Int))) then
      (ix l s35).bind λv39=>
      (E4 s36 v39).bind λv40=>
      some (.inl (w9 (s35+1),v40))
     else
     some (.inr s36)) (0,y)).bind K)=K (l.foldl aN y):=by
 have key:=V7 l aN id (λk z=>SR z.S) (b0:=y) (f:=λ((s35,s36):Int × b9)=>
     if (decide (s35<(l.length:Int))) then
      (ix l s35).bind λv39=>
      (E4 s36 v39).bind λv40=>
      some (Sum.inl (w9 (s35+1),v40))
     else
     some (.inr s36)) (by omega) hR (λk hk z hz=>?_) (λz hz=>by simp)
 .rw[key,a0q];rfl
 .simp only[we,hk,wt,zY,s7 hk,a0q,gw hz (hb _ (zh hk))];rw[o0];exact⟨rfl,Pn hz _⟩
theorem NL(s:b6)(ds:List Int){k:Nat}(hk:k<ds.length):oG s (ds.take (k+1))=wU (oG s (ds.take k)) ds[k]:=by
 unfold oG;rw[T2 hk,zaq];rfl
section
variable{y:Hp}(hR:SR y.S){ds:List Int}(hn:ds.Nodup)(hm:∀d∈ds,d∈lv y.S)
include hR hn hm
theorem yH{k:Nat}(hk:k<ds.length):SR (oG y.S (ds.take k))/\ds[k]∈lv (oG y.S (ds.take k)):=by
 have g:=eX (ds.take k) hR ((zb8 k ds).nodup hn) λd hd=>hm d (zad hd);refine⟨g.sr,?_⟩;rw[g.lv,zk,zG];refine⟨hm _ (zh hk),λq=>?_⟩;rw[<-zb3 k ds,zbu] at hn;exact hn.2.2 _ q ds[k] (by rw[List.drop_eq_getElem_cons hk];exact zg ..) rfl
theorem Lz(hl:ds.length<=1000){K:Hp->Option Hp}:((lp (S:=Int × b9) (E:=b9) (λ((s42,s43):Int × b9)=>
    if (decide (s42<(ds.length:Int))) then
     (ix ds s42).bind λv46=>
     (bh s43 v46).bind λv47=>
     some (.inl (w9 (s42+1),v47))
    else
    some (.inr s43)) (0,y)).bind K)=K (wS y (oG y.S ds)):=by
 have key:=iC (f:=λ((s42,s43):Int × b9)=>
    if (decide (s42<(ds.length:Int))) then
     (ix ds s42).bind λv46=>
     (bh s43 v46).bind λv47=>
     some (Sum.inl (w9 (s42+1),v47))
    else
    some (.inr s43)) (t0:=y) ds.length (λk z=>z=wS y (oG y.S (ds.take k))) (λz=>z=wS y (oG y.S ds)) (by omega) rfl ?_ ?_
 .obtain⟨e,h1,h2⟩:=key;rw[h1,a0q,h2]
 .rintro k z hk rfl;left;obtain⟨h1,h2⟩:=yH hR hn hm hk;simp only[we,hk,wt,zY,s7 hk,a0q,LA (x:=wS y (oG y.S (ds.take k))) h1 h2];rw[o0,NL _ _ hk];exact⟨_,rfl,rfl⟩
 .rintro z rfl;exact⟨_,za (by simp),by rw[zW]⟩
end
section
variable{x:Hp}(hx:L1 x){ds:List Int}(hn:ds.Nodup)(hm:∀d∈ds,d∈lv x.S)
include hx hn hm
theorem Hq:ds.length<=24:=zO (ae hn hm) (K8 (y8.2 hx.sh.sr))
theorem Ju{d:Int}(hd:d∈lv x.S):(ob x.S d).Fields.length<=4:=(K9 hx.sh.sr hd).fl
theorem JY{d:Int}(hd:d∈lv x.S):(outs x.S d).length<=4:=zO (Oz _) (Ju hx hn hm hd)
theorem vf:∀(l:List Int),(∀d∈l,d∈lv x.S)->(l.flatMap (outs x.S)).length<=4*l.length
 | [],_=>by simp
 | d::l,h=>by
  rw[zbj,zL,zH];have:=vf l λe he=>h e (zn _ he);have:=JY hx hn hm (h d (zg ..));omega
theorem SF:∀v∈ds.flatMap (outs x.S)++(lE x.T ds).2,v<=9223372036854775807:=λv hv=>by
 rcases zu.1 hv with q | q
 .obtain⟨d,hd,q⟩:=ms.1 q;obtain⟨q,_⟩:=gr.1 q;rcases hx.sh.fl d (hm d hd) v q with e | e
  .omega
  .exact qV hx.sh.sr e
 .by_cases h0:v=0
  .omega
  .have hl:=Hq hx hn hm;have h3:=(ki hx.sh.hr ds (by omega)).2.2.2.2.2 v;have h4:=jo.2 ⟨h0,q⟩;have h5:0<own x.T v:=by omega
   obtain⟨p,hp,hq⟩:=zbx.1 h5;have hq:(v != 0&&p.Val==v)=true:=hq;rw[zy,pu] at hq;have:=(hx.sh.pr _ _ (cE.1 hp)).2;rw[hq.2] at this;exact qV hx.sh.sr this
theorem OO:(ds.flatMap (outs x.S)++(lE x.T ds).2).length<=200:=by
 have hl:=Hq hx hn hm;have h1:=vf hx hn hm ds hm;have h2:=(ki hx.sh.hr ds (by omega)).2.2.1;rw[zL];omega
theorem Jj(hq:(x.Q.L++kl x.b7 ds).length<=30){l:List Int}(h1:aj x l=some ds):ca x l=some (gS x ds):=by
 have hl:=Hq hx hn hm;have hR:=hx.sh.sr;obtain⟨w1,w2,w3,w4,w5,w6⟩:=ki hx.sh.hr ds (by omega);have ol:=OO hx hn hm;have fl:=vf hx hn hm ds hm;unfold ca;rw[h1,a0q,Hk (by have:=hx.sh.c6;omega) (by omega) hq hx.sh.cap,a0q];simp only[jn];have key:=V7 ds (λb d=>b++outs x.S d) id (λk b=>b.length<=4*k) (b0:=[]) (f:=λ((s49,s50):Int × (List Int))=>
   if (decide (s49<(ds.length:Int))) then
    (ix ds s49).bind λv53=>
    (x4 (Ms x ds).S v53).bind λv54=>
    (jD v54.1.Fields).bind λv55=>
    (app 8 s50 v55).bind λv56=>
    some (Sum.inl (w9 (s49+1),v56))
   else
   some (.inr s50)) (by omega) (by simp) (λk hk b hb=>?_) (λb hb=>by simp)
 .rw[key,a0q,rH,zci];dsimp only[id];rw[show (Ms x ds).T=x.T from rfl,w1,a0q];have ol2:=ol;rw[zL] at ol2;rw[J3 (by omega) (by omega),a0q];have k1:=Lz (y:=⟨(Ms x ds).S,(Ms x ds).Roots,(Ms x ds).b7,(lE x.T ds).1,(Ms x ds).Q⟩) hR hn hm (by omega) (K:=λe=>(lp (S:=Int × b9) (E:=b9) (λ((s35,s36):Int × b9)=>
     if (decide (s35<((ds.flatMap (outs x.S)++(lE x.T ds).2).length:Int))) then
      (ix (ds.flatMap (outs x.S)++(lE x.T ds).2) s35).bind λv39=>
      (E4 s36 v39).bind λv40=>
      some (.inl (w9 (s35+1),v40))
     else
     some (.inr s36)) (0,e)).bind λe34=>some e34)
  refine zcv k1 ?_;have g:=eX ds hR hn hm;have k2:=DO (y:=wS (⟨(Ms x ds).S,(Ms x ds).Roots,(Ms x ds).b7,(lE x.T ds).1,(Ms x ds).Q⟩:Hp) (oG x.S ds)) g.sr _ (by omega) (SF hx hn hm) (K:=λe34=>some e34);refine zcv k2 ?_;rfl
 .have hd:=hm _ (zh hk);have f4:=Ju hx hn hm hd;have o4:=JY hx hn hm hd;simp only[we,hk,wt,zY,s7 hk,a0q,show (Ms x ds).S=x.S from rfl,yA hR hd,FO _ (by omega:(ob x.S ds[k]).Fields.length<=1000000)];have e:nz (ob x.S ds[k]).Fields=outs x.S ds[k]:=rfl;rw[e,J3 (by omega) (by omega),a0q,o0];exact⟨rfl,by rw[zL];omega⟩
end
theorem Rp{x:Hp}(hR:SR x.S)(hS:SL x){ds:List Int}(hn:ds.Nodup)(hm:∀d∈ds,d∈lv x.S)(t:Tb):SL (jG x ds t):=λk hk=>by
 have g:=eX ds hR hn hm;have hk:k∈lv (oG x.S ds):=hk;rw[g.lv,zk,zG] at hk;have e:ob (jG x ds t).S k=ob x.S k:=g.ob k hk.1 hk.2;rw[e];exact hS k hk.1
theorem MW{x:Hp}(hR:SR x.S)(hS:SL x){ds:List Int}(hn:ds.Nodup)(hm:∀d∈ds,d∈lv x.S):SL (gS x ds):=
 DQ _ (x:=jG x ds (lE x.T ds).1) (eX ds hR hn hm).sr (Rp hR hS hn hm _)
theorem Pe{x:Hp}(hR:SR x.S)(hS:SL x){h:Int}(hh:h∈lv x.S):SL (gN x h):=by
 have hok:=Kx hR hh;have r1:=bZ (o:=fN (ob x.S h)) hR hh rfl hok;refine SL.F0 (x:=⟨dp x.S h (fN (ob x.S h)),x.Roots,x.b7,x.T,⟨x.Q.L ++ [AU x h],x.Q.Cap⟩⟩) (λk hk=>?_) r1 h;dsimp only at hk |-;rw[iN (o:=fN (ob x.S h)) hR hh rfl hok] at hk;rw[gx (o:=fN (ob x.S h)) hR hh rfl hok (qV hR hk)];split;·exact hS h hh
 .exact hS k hk
theorem Xh{x:Hp}(hx:L1 x)(hS:SL x):SL (GQ x):=by
 cases h:zr x with
 | nil=>rw[nM h];exact hS
 | cons z l=>
  have hz:=(dm.1 (show z∈zr x by rw[h];exact zg ..)).1;rw[kf h];split;·exact Pe hx.sh.sr hS hz
  .exact MW hx.sh.sr hS (by simp) (by simpa using hz)
theorem Ip{x:Hp}(hx:L1 x)(hS:SL x)(n:Nat):SL (oD n x):=by
 induction n with
 | zero=>exact hS
 | succ n ih=>rw[fO];exact Xh (Q3 hx n) ih
theorem Kv{x:Hp}(hx:L1 x)(hS:SL x):SL (bI x):=Ip hx hS 100
section
variable{x:Hp}(hx:L1 x)(hS:SL x)
include hx hS
theorem Mr{z:Int}(hz:z∈zr x):(x.Q.L++kl x.b7 [z]).length<=30:=by
 have h1:=(AQ hx hz).sh.q30;have hzl:=(dm.1 hz).1;rw[(sF hx.sh.sr (ds:=[z]) (by simp) (by simpa using hzl)).2.2.2] at h1;exact h1
theorem Mb(h:zr x = []):((eK x).bind λv4=>
  if ((v4.length:Int)==0) then
   some (Sum.inr x)
  else
  (ix v4 0).bind λv5=>
  (x4 x.S v5).bind λv6=>
  (P6 v6.1).bind λv7=>
  if v7 then
   (Y3 x v5).bind λv8=>
   some (.inl v8)
  else
  (cut v4 0 1).bind λv9=>
  (ca x v9).bind λv10=>
  some (Sum.inl (α:=Hp) (β:=Hp) v10))=some (.inr x):=by
 rw[zero_eq hx.sh.sr,a0q,h];rfl
theorem Zu(z:Int)(l:List Int):cut (z::l) 0 1=some [z]:=by
 unfold cut;rw[zb (by simp;omega)];simp
theorem Ig(h:zr x ≠ []):((eK x).bind λv4=>
  if ((v4.length:Int)==0) then
   some (Sum.inr x)
  else
  (ix v4 0).bind λv5=>
  (x4 x.S v5).bind λv6=>
  (P6 v6.1).bind λv7=>
  if v7 then
   (Y3 x v5).bind λv8=>
   some (.inl v8)
  else
  (cut v4 0 1).bind λv9=>
  (ca x v9).bind λv10=>
  some (Sum.inl (α:=Hp) (β:=Hp) v10))=some (.inl (GQ x)):=by
 cases hz:zr x with
 | nil=>exact absurd hz h
 | cons z l=>
  have hzm:z∈zr x:=by rw[hz];exact zg ..
  have hzl:=(dm.1 hzm).1;have hR:=hx.sh.sr;rw[zero_eq hR,a0q,hz,za (by simp;omega),show ix (z::l) 0=some z from rfl,a0q,yA hR hzl,a0q,Kb,a0q,kf hz];by_cases hd:due (ob x.S z)=true
  .rw[zb hd,zb hd,Cc hx hS (qV hR hzl),a0q];unfold Zm;rw[zb ⟨hzl,hd⟩]
  .rw[za hd,za hd,Zu hx hS,a0q,Jj hx (ds:=[z]) (by simp) (by simpa using hzl) (Mr hx hS hzm) (by rw[tI hR [z] (by simp) (by simpa using qV hR hzl),Od hzl]),a0q]
theorem jB:R8 x=some (bI x):=by
 obtain⟨n,hn,h1,h2,h3⟩:=vM hx;unfold R8;refine lP (λj=>oD j x) rfl n (λ_=>True) (by omega) trivial (λk hk _=>.inl ⟨?_,trivial⟩) (λ_=>⟨oD n x,?_,by rw[h3]⟩)
 .have:=Ig (Q3 hx k) (Ip hx hS k) (h2 k hk);rw[<-fO] at this;exact this
 .exact Mb (Q3 hx n) (Ip hx hS n) h1
end
def P8(n l m e:Int):Int:=if n<l\/n > m then e else 0
def cT(a b c:Int):Int:=if a≠0 then a else if b≠0 then b else c
def y6(k a b c:Int):Int:=
 if k=1 then cT (P8 a 0 5 6) (P8 b 0 4 1) (P8 c (-1) 5 13)
 else if k=2\/k=9\/k=10 then cT (P8 a 0 5 6) (P8 b 0 5 6) 0
 else if k=3 then P8 a 0 5 6
 else if k=4 then cT (P8 a 0 5 6) (P8 b 0 5 6) (P8 c 0 3 5)
 else if k=5 then cT (P8 a 0 5 6) (P8 b 0 3 5) (P8 c (-1) 5 6)
 else if k=6 then cT (P8 a 0 5 7) (P8 b (-1) 5 6) (P8 c (-1) 5 13)
 else if k=7 then cT (P8 a 0 5 6) (P8 b 0 5 7) 0
 else if k=8 then cT (P8 a 0 5 6) (P8 b (-1) 5 6) 0
 else if k=11 then 0
 else if k=12 then P8 a 0 200 12
 else 14
def DM:l5:=⟨some 251,0,5,6⟩
def SU:l5:=⟨some 252,0,5,6⟩
def Yu:l5:=⟨some 252,-1,5,6⟩
def YB:l5:=⟨some 254,-1,5,13⟩
def wb:List (Int × List l5):=[(1,[DM,⟨some 252,0,4,1⟩,YB]),(2,[DM,SU]),(3,[DM]),(4,[DM,SU,⟨some 254,0,3,5⟩]),
 (5,[DM,⟨some 252,0,3,5⟩,⟨some 254,-1,5,6⟩]),(6,[⟨some 251,0,5,7⟩,Yu,YB]),(7,[DM,⟨some 252,0,5,7⟩]),(8,[DM,Yu]),(9,[DM,SU]),(10,[DM,SU]),(11,[]),(12,[⟨some 251,0,200,12⟩])]
theorem Ho:mV=some wb:=by kernel_rfl
def ic(o:k8)(d:l5):Int:=if d.part=some 251 then o.A else if d.part=some 252 then o.B else o.C
def qL(o:k8)(d:l5):Bool:=decide (ic o d<d.least)||decide (ic o d > d.most)
def te(o:k8):List l5->Int ⊕ Unit
 | []=>.inr ()
 | d::ds=>if qL o d then .inl d.e else te o ds
theorem Fg(o:k8)(d:l5)(ds:List l5):te o (d::ds)=if qL o d then .inl d.e else te o ds:=rfl
def ID(d:l5):Prop:=d.part=some 251\/d.part=some 252\/d.part=some 254
theorem WA(o:k8){d:l5}(h:ID d):tg d.part o=some (ic o d):=by
 unfold ic;rcases h with h | h | h
 .rw[h];rfl
 .rw[h];rfl
 .rw[h];rfl
theorem VV(o:k8)(ds:List l5)(hl:ds.length<=10)(hp:∀d∈ds,ID d):lp (S:=Int) (E:=Int ⊕ Unit) (λ(s11:Int)=>
   if (decide (s11<(ds.length:Int))) then
    (ix ds s11).bind λv13=>
    (tg v13.part o).bind λv14=>
    if ((decide (v14<v13.least))||(decide (v14 > v13.most))) then
     some (.inr (.inl v13.e))
    else
    some (.inl (w9 (s11+1)))
   else
   some (.inr (.inr ()))) 0=some (te o ds):=by
 refine qo (BS ds.length (λk=>te o ds=te o (ds.drop k)) (λe=>e=te o ds) (by omega) rfl (λk hk hP=>?_) (λhP=>?_))
 .rw[zb (by simpa using hk),s7 hk,a0q,WA o (hp _ (zh hk)),a0q];rw[List.drop_eq_getElem_cons hk,Fg] at hP;by_cases c:qL o ds[k]=true
  .rw[zb (show ((decide (ic o ds[k]<ds[k].least))||(decide (ic o ds[k] > ds[k].most)))=true from c)];rw[zb c] at hP;exact .inr ⟨_,rfl,hP.symm⟩
  .rw[za (show ¬((decide (ic o ds[k]<ds[k].least))||(decide (ic o ds[k] > ds[k].most)))=true from c),o0];rw[za c] at hP;exact .inl ⟨rfl,hP⟩
 .rw[List.drop_length] at hP;exact⟨_,za (by simp),hP.symm⟩
theorem RB:∀p∈wb,p.2.length<=10/\∀d∈p.2,ID d:=by
 have:wb.all (λp=>decide (p.2.length<=10)&&p.2.all λd=>(d.part==some 251)||(d.part==some 252)||(d.part==some 254))=true:=by kernel_rfl
 intro p hp;have:=zf.1 this p hp;rw[zy,zG,zf] at this;refine⟨this.1,λd hd=>?_⟩;have:=this.2 d hd;simp only[zbv,pu] at this;unfold ID;rcases this with (h | h) | h
 .exact .inl h
 .exact .inr (.inl h)
 .exact .inr (.inr h)
theorem JP{m:List (Int × List l5)}{k:Int}{v:List l5}(h:A2 m k=some v):(k,v)∈m:=by
 induction m with
 | nil=>cases h
 | cons p m ih=>
  unfold A2 at h;split at h
  .rename_i c;have:k=p.1:=by simpa using c
   cases h;subst this;exact zg ..
  .exact zn _ (ih h)
def uH(o:k8)(ds:List l5):Int:=match te o ds with
 | .inl e=>e
 | .inr _=>0
theorem TE(o:k8):uH o []=0:=rfl
theorem uI(o:k8)(d:l5)(ds:List l5):uH o (d::ds)=if qL o d then d.e else uH o ds:=by
 unfold uH;rw[Fg];cases qL o d <;> rfl
theorem Df(o:k8)(d:l5):P8 (ic o d) d.least d.most d.e=if qL o d then d.e else 0:=by
 unfold P8 qL;by_cases h:ic o d<d.least\/ic o d > d.most
 .rw[zb h,zb (by simpa using h)]
 .rw[za h,za (by simpa using h)]
theorem TC(o:k8)(d:l5):uH o [d]=P8 (ic o d) d.least d.most d.e:=by rw[uI,TE,Df]
theorem PQ(o:k8)(d e:l5)(h1:d.e≠0):uH o [d,e]=cT (P8 (ic o d) d.least d.most d.e) (P8 (ic o e) e.least e.most e.e) 0:=by
 rw[uI,TC,Df o d];unfold cT;cases qL o d
 .simp only[zA,ul,ne_eq,not_true_eq_false];split;·rfl
  .rename_i h;simpa using h
 .simp[h1]
theorem TD(o:k8)(d e f:l5)(h1:d.e≠0)(h2:e.e≠0):uH o [d,e,f]=cT (P8 (ic o d) d.least d.most d.e) (P8 (ic o e) e.least e.most e.e) (P8 (ic o f) f.least f.most f.e):=by
 rw[uI,uI,TC,Df o d,Df o e];unfold cT;cases qL o d <;> cases qL o e <;> simp[h1,h2]
theorem NX(o:k8):(match A2 wb o.Kind with
  | none=>14
  | some ds=>uH o ds)=y6 o.Kind o.A o.B o.C:=by
 obtain⟨k,a,b,c⟩:=o;dsimp only;by_cases h:1<=k/\k<=12
 .have:k=1\/k=2\/k=3\/k=4\/k=5\/k=6\/k=7\/k=8\/k=9\/k=10\/k=11\/k=12:=by omega
  rcases this with rfl | rfl | rfl | rfl | rfl | rfl | rfl | rfl | rfl | rfl | rfl | rfl
  .exact TD _ _ _ _ (by decide) (by decide)
  .exact PQ _ _ _ (by decide)
  .exact TC _ _
  .exact TD _ _ _ _ (by decide) (by decide)
  .exact TD _ _ _ _ (by decide) (by decide)
  .exact TD _ _ _ _ (by decide) (by decide)
  .exact PQ _ _ _ (by decide)
  .exact PQ _ _ _ (by decide)
  .exact PQ _ _ _ (by decide)
  .exact PQ _ _ _ (by decide)
  .rfl
  .exact TC _ _
 .have e:A2 wb k=none:=by
   cases hm:A2 wb k with
   | none=>rfl
   | some v=>
    have:=JP hm;simp only[wb,zM,Prod.mk.injEq,zcm,or_false] at this;omega
  rw[e];unfold y6;repeat rw[za (by omega)]
theorem oJ(o:k8):X5 o=some (y6 o.Kind o.A o.B o.C):=by
 rw[<-NX];unfold X5;rw[Ho,a0q];cases h:A2 wb o.Kind with
 | none=>rfl
 | some ds=>
  obtain⟨h1,h2⟩:=RB _ (JP h);rw[za (by simp)];simp only[jn,un];rw[VV o ds h1 h2,a0q];unfold uH;cases te o ds <;> rfl
theorem RO(n l m e:Int):dY n l m e=some (P8 n l m e):=by
 unfold dY P8;by_cases h:n<l\/n > m
 .rw[zb h,zb (by simpa using h)]
 .rw[za h,za (by simpa using h)]
theorem ND(a b c:Int):cL a b c=some (cT a b c):=by
 unfold cL cT;by_cases h:a=0
 .by_cases g:b=0
  .rw[za (by simpa using h),za (by simpa using g),za (by simpa using h),za (by simpa using g)]
  .rw[za (by simpa using h),zb (by simpa using g),za (by simpa using h),zb (by simpa using g)]
 .rw[zb (by simpa using h),zb (by simpa using h)]
theorem Jm(o:fF):gv o=some (y6 o.Kind o.A o.B o.C):=by
 unfold gv y6;simp only[RO,ND,a0q,jn];by_cases h:1<=o.Kind/\o.Kind<=12
 .have:o.Kind=1\/o.Kind=2\/o.Kind=3\/o.Kind=4\/o.Kind=5\/o.Kind=6\/o.Kind=7\/o.Kind=8\/o.Kind=9\/o.Kind=10\/o.Kind=11\/o.Kind=12:=by omega
  rcases this with h | h | h | h | h | h | h | h | h | h | h | h <;> rw[h] <;> rfl
 .have n:∀j:Int,1<=j->j<=12->(o.Kind==j)=false:=λj h1 h2=>by
   rw[beq_eq_false_iff_ne];omega
  simp only[n 1 (by omega) (by omega),n 2 (by omega) (by omega),n 3 (by omega) (by omega),n 4 (by omega) (by omega),n 5 (by omega) (by omega),n 6 (by omega) (by omega),n 7 (by omega) (by omega),n 8 (by omega) (by omega),n 9 (by omega) (by omega),n 10 (by omega) (by omega),n 11 (by omega) (by omega),n 12 (by omega) (by omega),zA,ul];repeat rw[za (by omega)]
theorem Td{x:Hp}(hx:L1 x){ds:List Int}:(x.Q.L++kl x.b7 ds).length<=30:=by
 have hS:=hx.sh;have c6:=hS.c6;have h24:(lv x.S).length<=24:=K8 (y8.2 hS.sr);have htd:(x.Q.L++kl x.b7 ds).Pairwise λa b=>¬(a.Kind=b.Kind/\a.At=b.At):=by
  rw[zar];refine⟨hS.td,BC ..,λa ha b hb q=>?_⟩;obtain⟨w,hw,rfl,hh,_⟩:=gJ.1 hb;have hi:x.b7[w].Intact=true:=by
   unfold jO at hh;rw[zy,zy] at hh;exact hh.1.1
  have:=((hS.cl w hw).2.2.2.2 hi).2;rw[zbm] at this;exact this (gR.2 ⟨a,ha,q.1,q.2⟩)
 have:=AB (m:=lv x.S) htd λt ht=>by
  rcases zu.1 ht with q | q
  .rcases (hS.tk t q).2.2 with c | c
   .exact .inl ⟨c.1,c.2.1⟩
   .exact .inr c
  .obtain⟨w,hw,rfl,_,_⟩:=gJ.1 q;exact .inr ⟨rfl,by dsimp only;omega,by dsimp only;omega⟩
 omega
section
variable{x:Hp}(hB:HB x)
include hB
end
structure EE (x y:Hp):Prop where
 lv:∀h∈lv y.S,h∈lv x.S
 aR:y.S.Serial=x.S.Serial
 len:y.S.S.b7.length=x.S.S.b7.length
 ob:∀h∈Sh.lv y.S,(ob y.S h).Serial=(ob x.S h).Serial/\(Sh.ob y.S h).Prog=(Sh.ob x.S h).Prog/\(Sh.ob y.S h).Fields=(Sh.ob x.S h).Fields/\((Sh.ob x.S h).Started=true->(Sh.ob y.S h).Started=true)
 rt:y.Roots=x.Roots
 cn:y.b7.length=x.b7.length
 cl:∀i (h:i<y.b7.length) (h':i<x.b7.length),y.b7[i]=⟨x.b7[i].Target,x.b7[i].Intact&&decide (x.b7[i].Target∈Sh.lv y.S),x.b7[i].Call⟩
 q:∃l,y.Q=⟨x.Q.L++l,x.Q.Cap⟩/\(∀t∈l,t.Kind=1->t.At∈Sh.lv x.S/\(Sh.ob x.S t.At).Started=false)/\∀h∈Sh.lv y.S,(Sh.ob y.S h).Started=true->(Sh.ob x.S h).Started=false->∃t∈l,t.Kind=1/\t.At=h
 rc:∀h,bk x.S x.T (oz x) h->bk y.S y.T (oz y) h
 has:∀k v,Has y.T k v->Has x.T k v
theorem EE.refl{x:Hp}(hx:jt x):EE x x:=by
 refine⟨λ_ h=>h,rfl,rfl,λh _=>⟨rfl,rfl,rfl,id⟩,rfl,rfl,λi h h'=>?_,⟨[],by simp,by simp,λh _ a b=>?_⟩,λ_ h=>h,λ_ _ h=>h⟩
 .have:=(hx.cl i h).2.2.2.2;cases hI:x.b7[i].Intact;·rw[Bool.false_and,<-hI]
  .rw[zC (this hI).1,Bool.and_self,<-hI]
 .rw[a] at b;cases b
theorem EE.trans{x y z:Hp}(a:EE x y)(b:EE y z):EE x z:=by
 obtain⟨l1,q1,q2,q3⟩:=a.q;obtain⟨l2,r1,r2,r3⟩:=b.q;refine⟨λh hh=>a.lv h (b.lv h hh),b.aR.trans a.aR,b.len.trans a.len,λh hh=>?_,b.rt.trans a.rt,b.cn.trans a.cn,λi h h'=>?_,⟨l1++l2,?_,λt ht hk=>?_,λh hh s1 s2=>?_⟩,λh hh=>b.rc h (a.rc h hh),λk v hh=>a.has k v (b.has k v hh)⟩
 .obtain⟨b1,b2,b3,b4⟩:=b.ob h hh;obtain⟨a1,a2,a3,a4⟩:=a.ob h (b.lv h hh);exact⟨b1.trans a1,b2.trans a2,b3.trans a3,λq=>b4 (a4 q)⟩
 .have hy:i<y.b7.length:=by rw[a.cn];exact h'
  rw[b.cl i h hy,a.cl i hy h'];dsimp only;congr 1;rw[Bool.and_assoc];congr 1;by_cases q:x.b7[i].Target∈Sh.lv z.S
  .rw[zC q,zC (b.lv _ q)];rfl
  .rw[zQ q,Bool.and_false]
 .rw[r1,q1,zah]
 .rcases zu.1 ht with q | q
  .exact q2 t q hk
  .obtain⟨e1,e2⟩:=r2 t q hk;refine⟨a.lv _ e1,?_⟩;cases hs:(Sh.ob x.S t.At).Started;·rfl
   .rw[(a.ob _ e1).2.2.2 hs] at e2;cases e2
 .cases hs:(Sh.ob y.S h).Started
  .obtain⟨t,ht,e⟩:=r3 h hh s1 hs;exact⟨t,t7 _ ht,e⟩
  .obtain⟨t,ht,e⟩:=q3 h (b.lv h hh) hs s2;exact⟨t,t6 _ ht,e⟩
theorem Kt(s:b6)(h:Int)(o:n0):(dp s h o).S.b7.length=s.S.b7.length:=K3 ..
theorem SP{x:Hp}(hx:L1 x){z:Int}(hz:z∈lv x.S)(hs:(ob x.S z).Started=false):EE x (gN x z):=by
 have hR:=hx.sh.sr;obtain⟨k,e1,e2,e3,e4⟩:=ns hR hz;have l1:=DF hR hz;have hob:∀h∈lv x.S,(ob (gN x z).S h).Serial=(ob x.S h).Serial/\(ob (gN x z).S h).Prog=(ob x.S h).Prog/\(ob (gN x z).S h).Fields=(ob x.S h).Fields/\((ob (gN x z).S h).Started=true↔(ob x.S h).Started=true\/h=z):=λh hh=>by
  obtain⟨n,e⟩:=Ab hR hz hh;rw[e];by_cases q:h=z
  .subst q;rw[zb rfl];exact⟨rfl,rfl,rfl,by simp⟩
  .rw[za q];exact⟨rfl,rfl,rfl,by simp[q]⟩
 have hot:∀h∈oz x,h∈oz (gN x z):=λh hh=>by
  unfold oz at hh |-;rw[e1,e4];rcases zu.1 hh with q | q
  .exact t6 _ q
  .refine t7 _ ?_;obtain⟨t,ht,a,b⟩:=lR.1 q;exact lR.2 ⟨t,t6 _ ht,a,b⟩
 have rf:=EE.refl hx.sh;refine⟨λh hh=>by rw[l1] at hh;exact hh,k.aR,k.len.trans (Kt ..),λh hh=>?_,e1,by rw[e2],λi h h'=>?_,⟨[AU x z],by rw[e4],λt ht hk=>?_,λh hh s1 s2=>?_⟩,λh hh=>?_,λk v hh=>by rw[e3] at hh;exact hh⟩
 .rw[l1] at hh;obtain⟨a,b,c,d⟩:=hob h hh;exact⟨a,b,c,λq=>d.2 (.inl q)⟩
 .have e5:(gN x z).b7[i]=x.b7[i]:=by simp only[e2]
  rw[e5,l1];exact rf.cl i h' h'
 .rw[zp] at ht;subst ht;exact⟨hz,hs⟩
 .rw[l1] at hh;rcases (hob h hh).2.2.2.1 s1 with q | q
  .rw[q] at s2;cases s2
  .exact⟨AU x z,List.mem_singleton_self _,rfl,q.symm⟩
 .induction hh with
  | base h1 h2=>exact .base (hot _ h1) (by rw[l1];exact h2)
  | step h0 h1 h2 ih=>
   refine .step ih ?_ (by rw[l1];exact h2);unfold outs at h1 |-;rw[(hob _ h0.live).2.2.1];exact h1
  | pair h1 h0 h2 ih=>exact .pair (by rw[e3];exact h1) ih (by rw[l1];exact h2)
theorem Rq{x:Hp}(hx:L1 x){z:Int}(hz:z∈zr x):EE x (gS x [z]):=by
 have hR:=hx.sh.sr;have hzl:=(dm.1 hz).1;have h0:z≠0:=λe=>ff hR (e▸hzl);have hfree:=Et hx hz;have hn:([z]:List Int).Nodup:=by simp
 have hm:∀d ∈ [z],d∈lv x.S:=by simpa using hzl
 have g:=eX [z] hR hn hm;have k:=(ij ([z].flatMap (outs x.S)++(lE x.T [z]).2) (x:=jG x [z] (lE x.T [z]).1) g.sr).1;obtain⟨e1,e2,e3,e4⟩:=sF hR hn hm;obtain⟨_,w2,_,_,w5,w6⟩:=ki hx.sh.hr [z] (by simp);have l1:∀h,h∈lv (gS x [z]).S↔h∈lv x.S/\h≠z:=λh=>by
  rw[Hf hR hn hm,zk,zG,zp]
 have hob:∀h∈lv (gS x [z]).S,(ob (gS x [z]).S h).Serial=(ob x.S h).Serial/\(ob (gS x [z]).S h).Prog=(ob x.S h).Prog/\(ob (gS x [z]).S h).Fields=(ob x.S h).Fields/\(ob (gS x [z]).S h).Started=(ob x.S h).Started:=λh hh=>by
  obtain⟨a,b⟩:=(l1 h).1 hh;obtain⟨n,e⟩:=Hg hR hn hm a (by simpa using b);rw[e];exact⟨rfl,rfl,rfl,rfl⟩
 refine⟨λh hh=>((l1 h).1 hh).1,k.aR.trans g.aR,k.len.trans g.len,λh hh=>?_,e1,by rw[e2];simp[nT],λi h h'=>?_,⟨kl x.b7 [z],by rw[e4],λt ht hk=>?_,λh hh s1 s2=>?_⟩,λh hh=>?_,λk v hh=>?_⟩
 .obtain⟨a,b,c,d⟩:=hob h hh;exact⟨a,b,c,λq=>d.trans q⟩
 .have e5:(gS x [z]).b7[i]=ru [z] x.b7[i]:=by
   simp only[e2];exact ut _
  rw[e5];have hc:=(hx.sh.cl i h').2.2.2.2;unfold ru jO;cases hI:x.b7[i].Intact;·rw[za (by simp),Bool.false_and,<-hI]
  .have ht:=(hc hI).1;have ht0:x.b7[i].Target≠0:=λe=>ff hR (e▸ht);by_cases q:x.b7[i].Target=z
   .rw[zb (by simp[q,h0]),zQ (λr=>((l1 _).1 r).2 q)];rfl
   .rw[za (by simp[q]),zC ((l1 _).2 ⟨ht,q⟩),Bool.and_self,<-hI]
 .obtain⟨w,hw,rfl,_,_⟩:=gJ.1 ht;simp at hk
 .rw[(hob h hh).2.2.2,s2] at s1;cases s1
 .unfold lY at hfree;have key:bk (gS x [z]).S (gS x [z]).T (oz (gS x [z])) h/\h≠z:=by
   induction hh with
   | base h1 h2=>
    rename_i a;have hne:a≠z:=λe=>by
     subst e;exact GA h0 (by omega:T3 (oz x) a=0) h1
    refine⟨.base ?_ ((l1 _).2 ⟨h2,hne⟩),hne⟩;unfold oz at h1 |-;rw[e1,e4,yC _ _ _ λt ht=>by
     obtain⟨w,_,rfl,_⟩:=gJ.1 ht;simp]
    exact h1
   | step q0 q1 q2 ih=>
    rename_i a b;have hne:b≠z:=λe=>by
     subst e;have:=Dh (y:=b) q0.live;have h1:=jo.2 ⟨h0,q1⟩;omega
    refine⟨.step ih.1 ?_ ((l1 _).2 ⟨q2,hne⟩),hne⟩;unfold outs at q1 |-;rw[(hob _ ((l1 _).2 ⟨q0.live,ih.2⟩)).2.2.1];exact q1
   | pair q1 q0 q2 ih=>
    rename_i a b;have hne:b≠z:=λe=>by
     subst e;have:=DB q1 h0;omega
    exact⟨.pair (by rw[e3];exact (w5 _ _).2 ⟨by simpa using ih.2,q1⟩) ih.1 ((l1 _).2 ⟨q2,hne⟩),hne⟩
  exact key.1
 .rw[e3] at hh;exact ((w5 _ _).1 hh).2
theorem Ts{x:Hp}(hx:L1 x):EE x (GQ x):=by
 cases h:zr x with
 | nil=>rw[nM h];exact EE.refl hx.sh
 | cons z l=>
  have hz:z∈zr x:=by rw[h];exact zg ..
  rw[kf h];split
  .rename_i q;unfold due at q;rw[zy,zG,zb7] at q;exact SP hx (dm.1 hz).1 q.2
  .exact Rq hx hz
theorem Tq{x:Hp}(hx:L1 x)(n:Nat):EE x (oD n x):=by
 induction n with
 | zero=>exact EE.refl hx.sh
 | succ n ih=>rw[fO];exact ih.trans (Ts (Q3 hx n))
theorem mo{x:Hp}(hx:L1 x):EE x (bI x):=Tq hx 100
theorem Sa{T E R:Type}{f:T × Int->Option ((T × Int) ⊕ E)}{t0:T}{κ:E->Option R}{r:R}(n:Nat)(P:Nat->T->Prop)(hn:n<4611686018427387904)(h0:P 0 t0)
  (hs:∀k t,k<n->P k t->∃t',f (t,(k:Int))=some (.inl (t',((k+1:Nat):Int)))/\P (k+1) t')(he:∀t,P n t->∃e,f (t,(n:Int))=some (.inr e)/\κ e=some r):(lp f (t0,0)).bind κ=some r:=by
 refine RZ (λ(s:T × Int)=>∃k:Nat,s.2=(k:Int)/\k<=n/\P k s.1) (λs=>n-s.2.toNat) ⟨0,rfl,zX _,h0⟩ (by show n-_<_;omega) ?_;rintro⟨t,_⟩ ⟨k,rfl,hk,hP⟩;rcases zE k n with h1 | h1
 .obtain⟨t',k1,k2⟩:=hs k t h1 hP;exact .inl ⟨_,k1,⟨k+1,rfl,h1,k2⟩,by show n-_<n-_;simp;omega⟩
 .have:k=n:=by omega
  subst this;exact .inr (he t hP)
section
variable{x:Hp}(hB:HB x)
include hB
end
structure Ks (s s':b6):Prop where
 sr:SR s'
 aR:s'.Serial=s.Serial
 lv:lv s'=lv s
 ob:∀h∈Sh.lv s,(ob s' h).Serial=(ob s h).Serial
theorem Ks.refl{s:b6}(hR:SR s):Ks s s:=⟨hR,rfl,rfl,λ_ _=>rfl⟩
theorem Ks.trans{a b c:b6}(h:Ks a b)(q:Ks b c):Ks a c:=⟨q.sr,q.aR.trans h.aR,q.lv.trans h.lv,λk hk=>(q.ob k (by rw[h.lv];exact hk)).trans (h.ob k hk)⟩
theorem vY.ks{s s':b6}(hR:SR s)(k:vY s s'):Ks s s':=⟨k.sr,k.aR,k.lv,λh hh=>by
 obtain⟨n,e⟩:=k.ob h (by have:=H5 hR hh;omega);rw[e]⟩
theorem Kn.ks{s s':b6}(k:Kn s s')(e:s'.Serial=s.Serial):Ks s s':=⟨k.sr,e,k.lv,λh hh=>by
 obtain⟨n,m,e⟩:=k.ob h hh;rw[e]⟩
theorem WX{s:b6}(hR:SR s){h:Int}(hh:h∈lv s){o:n0}(hs:o.Serial=(ob s h).Serial)(ho:AR s o):Ks s (dp s h o):=⟨bZ hR hh hs ho,rfl,iN hR hh hs ho,λk hk=>by
 rw[gx hR hh hs ho (by have:=H5 hR hk;omega)];split;·rename_i e;subst e;exact hs
 .rfl⟩
theorem DU{x:Hp}(hR:SR x.S)(h:Int):Ks x.S (F0 x h).S:=(I4 hR h λc=>E9).ks hR
theorem DR{x:Hp}(hR:SR x.S)(h:Int):Ks x.S (aN x h).S:=(I4 hR h λc=>Q1).ks hR
theorem Ak(x:Hp)(h:Int):(aN x h).Roots=x.Roots/\(aN x h).b7=x.b7/\(aN x h).T=x.T/\(aN x h).Q=x.Q:=Aw x h lu
theorem dC{x:Hp}(hR:SR x.S)(r:Nat)(h:Int):Ks x.S (G8 x r h).S:=
 (DU hR h).trans (DR (x:=wR (F0 x h) (x.Roots.set r h)) (ka hR h) _)
theorem BF{x:Hp}(hR:SR x.S){h:Int}(hh:h∈lv x.S){n:Nat}(hn:n<(ob x.S h).Fields.length)(v:Int):Ks x.S (bQ x h n v).S:=by
 have k1:=DU hR v;have hh1:h∈lv (F0 x v).S:=by rw[k1.lv];exact hh
 have hof:(ob (F0 x v).S h).Fields=(ob x.S h).Fields:=by
  obtain⟨n,e⟩:=(I4 hR v (f:=Z8) λc=>E9).ob h (by have:=H5 hR hh;omega);show (ob (uA x v Z8).S h).Fields=_;rw[e]
 have ho:AR (F0 x v).S (rF (ob (F0 x v).S h) ((ob x.S h).Fields.set n v)):=by
  have:=K9 k1.sr hh1;refine⟨this.s1,this.s2,this.st,this.wk,this.p1,this.p2,?_⟩;have h4:=this.fl;rw[hof] at h4;simpa using h4
 have k2:=WX (o:=rF (ob (F0 x v).S h) ((ob x.S h).Fields.set n v)) k1.sr hh1 rfl ho;exact (k1.trans k2).trans (DR (x:=wS (F0 x v) (dp (F0 x v).S h (rF (ob (F0 x v).S h) ((ob x.S h).Fields.set n v)))) k2.sr _)
theorem oU(x:Hp)(h:Int)(n:Nat)(v:Int):(bQ x h n v).Roots=x.Roots/\(bQ x h n v).b7=x.b7/\(bQ x h n v).T=x.T/\(bQ x h n v).Q=x.Q:=by
 obtain⟨a,b,c,d⟩:=Ak (wS (F0 x v) (dp (F0 x v).S h (rF (ob (F0 x v).S h) ((ob x.S h).Fields.set n v)))) ((ob x.S h).Fields.getD n 0);obtain⟨a',b',c',d'⟩:=uu x v;exact⟨a.trans a',b.trans b',c.trans c',d.trans d'⟩
theorem FT{x:Hp}(hR:SR x.S)(v:Int)(t:Tb)(old:Int):Ks x.S (iU x v t old).S:=
 (DU hR v).trans (DR (x:=wT (F0 x v) t) (ka hR v) old)
theorem rT(x:Hp)(v:Int)(t:Tb)(old:Int):(iU x v t old).Roots=x.Roots/\(iU x v t old).b7=x.b7/\(iU x v t old).T=t/\(iU x v t old).Q=x.Q:=by
 obtain⟨a,b,c,d⟩:=Ak (wT (F0 x v) t) old;obtain⟨a',b',c',d'⟩:=uu x v;exact⟨a.trans a',b.trans b',c,d.trans d'⟩
theorem VD{s:b6}(hR:SR s){i:Nat}(hi:i<s.S.b7.length)(h2:(ce s i).State=2):Ks s (Ew s i):=⟨Da hR hi,rfl,CY hR hi h2,λh hh=>by rw[CZ hR hi h2 hh]⟩
theorem Wc{x:Hp}(hR:SR x.S)(h:Int){d:Int}(hd:U7 x.S h (E0 h)->0<=(ce x.S (E0 h)).Val.Weak+d):Ks x.S (iD x h d).S:=by
 unfold iD;split
 .rename_i q;exact (nj hR q.1 q.2.1 (hd q)).ks rfl
 .exact Ks.refl hR
theorem Ot(x:Hp)(h d:Int):(iD x h d).Roots=x.Roots/\(iD x h d).b7=x.b7/\(iD x h d).T=x.T/\(iD x h d).Q=x.Q:=by
 unfold iD;split <;> exact⟨rfl,rfl,rfl,rfl⟩
theorem Mo(x:Hp)(h:Int):(pP x h).Roots=x.Roots/\(pP x h).b7=x.b7/\(pP x h).T=x.T/\(pP x h).Q=x.Q:=by
 unfold pP;split;·split <;> exact⟨rfl,rfl,rfl,rfl⟩
 .exact⟨rfl,rfl,rfl,rfl⟩
theorem KC{x:Hp}(hR:SR x.S)(h:Int)(hd:U7 x.S h (E0 h)->1<=(ce x.S (E0 h)).Val.Weak):Ks x.S (pP x h).S:=by
 unfold pP;split
 .rename_i q;have hd:=hd q;have kn:=nj (d:=-1) hR q.1 q.2.1 (by omega);split
  .rename_i c;have hi1:E0 h<(lS x.S (E0 h) (-1)).S.b7.length:=by rw[kn.len];exact q.1
   have hce:ce (lS x.S (E0 h) (-1)) (E0 h)=⟨(ce x.S (E0 h)).State,(ce x.S (E0 h)).Gen,Zq (ce x.S (E0 h)).Val ((ce x.S (E0 h)).Val.Weak + -1)⟩:=by
    rw[fk hR q.1 q.2.1,zb rfl]
   have h2:(ce (lS x.S (E0 h) (-1)) (E0 h)).State=2:=by rw[hce];exact c.1
   exact (kn.ks rfl).trans (VD kn.sr hi1 h2)
  .exact kn.ks rfl
 .exact Ks.refl hR
theorem GG{x:Hp}(hx:L1 x){n:Nat}(hn:n<6)(h call:Int):Ks x.S (cV x n h call).S:=by
 have hR:=hx.sh.sr;have hnl:n<x.b7.length:=by have:=hx.sh.c6;omega
 have ok:∀k i,U7 x.S k i->0<=(ce x.S i).Val.Weak:=λk i q=>(hR.ok i q.1 q.2.1).wk;have tw:∀i,U7 x.S (mw x n) i->1<=(ce x.S i).Val.Weak:=λi q=>by
  have htg:mw x n=x.b7[n].Target:=by
   unfold mw;rw[zd,zc hnl];rfl
  have r:=q.Ma hR;have p:=tV hnl (by rw[<-htg];omega);rw[<-htg,q.2.2] at p;have:=(hx.wk i q.1 q.2.1).1;omega
 unfold cV;have s1:Ks x.S (iD (wC x (x.b7.set n (fR h call))) h 1).S:=Wc (x:=wC x (x.b7.set n (fR h call))) hR h λq=>by
  have:=ok _ _ q;dsimp only;omega
 by_cases q:U7 x.S h (E0 h)
 .have e:iD (wC x (x.b7.set n (fR h call))) h 1=wS (wC x (x.b7.set n (fR h call))) (lS x.S (E0 h) 1):=by
   unfold iD;rw[zb q]
  have hd:=ok _ _ q;have kn:=nj (d:=1) hR q.1 q.2.1 (by omega);rw[e] at s1 |-;refine s1.trans (KC (x:=wS (wC x (x.b7.set n (fR h call))) (lS x.S (E0 h) 1)) kn.sr _ λq2=>?_);dsimp only at q2 |-;have q3:=(kn.ad _ _).1 q2;have:=tw _ q3;rw[fk hR q.1 q.2.1];split
  .rename_i e2;rw[e2] at this;show 1<=(ce x.S (E0 h)).Val.Weak+1;omega
  .exact this
 .have e:iD (wC x (x.b7.set n (fR h call))) h 1=wC x (x.b7.set n (fR h call)):=by
   unfold iD;rw[za q]
  rw[e] at s1 |-;exact s1.trans (KC (x:=wC x (x.b7.set n (fR h call))) hR _ λq2=>tw _ q2)
theorem AK(x:Hp)(n:Nat)(h call:Int):(cV x n h call).Roots=x.Roots/\(cV x n h call).b7=x.b7.set n (fR h call)/\(cV x n h call).T=x.T/\(cV x n h call).Q=x.Q:=by
 obtain⟨a,b,c,d⟩:=Mo (iD (wC x (x.b7.set n (fR h call))) h 1) (mw x n);obtain⟨a',b',c',d'⟩:=Ot (wC x (x.b7.set n (fR h call))) h 1;exact⟨a.trans a',b.trans b',c.trans c',d.trans d'⟩
abbrev Zk(s:b6)(n:Nat)(p:Int):n0:=⟨s.Serial+1,0,0,p,false,List.replicate n 0⟩
def dJ(s:b6)(i n:Nat)(p:Int):b6:=⟨⟨s.S.b7.set i ⟨1,(ce s i).Gen,Zk s n p⟩,s.S.Last⟩,s.Serial+1⟩
section
variable{s:b6}(hR:SR s){i:Nat}(hi:i<s.S.b7.length)(h0:(ce s i).State=0){n:Nat}(hn:n<=4){p:Int}(hp : -1<=p/\p<=5)
include hR hi h0 hn hp
theorem jS:(dJ s i n p).S.b7.length=s.S.b7.length:=by simp[dJ]
theorem lT(j:Nat):ce (dJ s i n p) j=if j=i then ⟨1,(ce s i).Gen,Zk s n p⟩ else ce s j:=yy hi _ _ j
theorem FN:SR (dJ s i n p):=by
 have hser:=hR.aR;have hc:=hR.cell i hi;have hnt:¬Th (ce s i):=λh=>by
  rcases h with h | h <;> omega
 refine⟨by rw[jS hR hi h0 hn hp];exact hR.len,hR.l0,hR.l9,by show 0<=s.Serial+1;omega,λj hj=>?_,λj hj ht=>?_,λj hj ht=>?_,λj k hj hk a b e=>?_⟩
 .rw[jS hR hi h0 hn hp] at hj;rw[lT hR hi h0 hn hp];split;·exact⟨show (0:Int)<=1 by decide,show (1:Int)<=3 by decide,hc.2.2.1,hc.2.2.2⟩
  .exact hR.cell j hj
 .rw[jS hR hi h0 hn hp] at hj;rw[lT hR hi h0 hn hp] at ht |-;split at ht;·exact absurd (.inl rfl) ht
  .rename_i e;rw[za e];exact hR.no j hj ht
 .rw[jS hR hi h0 hn hp] at hj;rw[lT hR hi h0 hn hp] at ht |-;split at ht
  .rename_i e;rw[zb e];exact⟨by show 1<=s.Serial+1;omega,zae _,zae 0,zae 0,hp.1,hp.2,by simpa using hn⟩
  .rename_i e;rw[za e];have:=hR.ok j hj ht;exact⟨this.s1,by show _<=s.Serial+1;have:=this.s2;omega,this.st,this.wk,this.p1,this.p2,this.fl⟩
 .rw[jS hR hi h0 hn hp] at hj hk;rw[lT hR hi h0 hn hp] at a e;rw[lT hR hi h0 hn hp] at b e;have old:∀m,m<s.S.b7.length->Th (ce s m)->(ce s m).Val.Serial≠s.Serial+1:=λm hm t q=>by
   have:=(hR.ok m hm t).s2;omega
  by_cases ej:j=i <;> by_cases ek:k=i
  .rw[ej,ek]
  .rw[za ek] at b e;rw[zb ej] at e;exact absurd e.symm (old k hk b)
  .rw[za ej] at a e;rw[zb ek] at e;exact absurd e (old j hj a)
  .rw[za ej] at a e;rw[za ek] at b e;exact hR.dif j k hj hk a b e
theorem yQ{k:Int}{j:Nat}(q:U7 s k j):j≠i:=λe=>by
 subst e;rcases q.2.1 with h | h <;> omega
theorem Oo{k:Int}{j:Nat}:U7 (dJ s i n p) k j↔U7 s k j\/(j=i/\k=cv s i):=by
 unfold U7;rw[jS hR hi h0 hn hp,lT hR hi h0 hn hp];by_cases e:j=i
 .rw[zb e];subst e;constructor
  .rintro⟨a,b,c⟩;exact .inr ⟨rfl,c⟩
  .rintro (⟨a,b,c⟩ | ⟨_,c⟩);·exact absurd rfl (yQ hR hi h0 hn hp ⟨a,b,c⟩)
   .exact⟨hi,.inl rfl,c⟩
 .rw[za e];constructor;·exact .inl
  .rintro (h | ⟨h,_⟩);·exact h
   .exact absurd h e
theorem BX:lv (dJ s i n p)=lv s ++ [cv s i]:=by
 have e:=HI (s:=s) (y8.2 hR) hi (by rw[<-N2 hi];exact h0) (Zk s n p) rfl (fg (y8.2 hR));unfold dJ;rw[show (ce s i).Gen=s.S.b7[i].Gen by rw[N2 hi]];have e2:cv s i=1+(i:Int)+32*s.S.b7[i].Gen:=by unfold cv;rw[N2 hi]
 rw[e2];have:=fg (y8.2 (by have:=FN hR hi h0 hn hp;unfold dJ at this;rw[show (ce s i).Gen=s.S.b7[i].Gen by rw[N2 hi]] at this;exact this));rw[e] at this;exact (zJ this).symm
theorem Oq:cv s i∉lv s:=λh=>by
 obtain⟨j,q⟩:=(fU hR).1 h;have:i=j:=by
  have a:=q.2.2;have b:=q.1;unfold cv at a;have:=hR.len;omega
 subst this;have:=q.2.1;omega
theorem BY{k:Int}(hk:k∈lv s):ob (dJ s i n p) k=ob s k:=by
 obtain⟨j,q⟩:=(fU hR).1 hk;have hj:=yQ hR hi h0 hn hp q.d;have q2:At (dJ s i n p) k j:=by
  refine⟨by rw[jS hR hi h0 hn hp];exact q.1,?_,?_⟩ <;> rw[lT hR hi h0 hn hp,za hj]
  .exact q.2.1
  .exact q.2.2
 rw[F7 (FN hR hi h0 hn hp) q2,F7 hR q,lT hR hi h0 hn hp,za hj]
theorem vq:ob (dJ s i n p) (cv s i)=Zk s n p:=by
 have q2:At (dJ s i n p) (cv s i) i:=by
  refine⟨by rw[jS hR hi h0 hn hp];exact hi,?_,?_⟩ <;> rw[lT hR hi h0 hn hp,zb rfl]
  rfl
 rw[F7 (FN hR hi h0 hn hp) q2,lT hR hi h0 hn hp,zb rfl]
end
theorem KA{l:List Int}{h:Int}(e:h∉l):T3 l h=0:=Nat.eq_zero_of_not_pos λq=>e (jo.1 q).2
theorem yR{x:Hp}(hx:L1 x){i:Nat}(hi:i<x.S.S.b7.length)(h0:(ce x.S i).State=0){n:Nat}(hn:n<=4){p:Int}(hp : -1<=p/\p<=5):L1 (wS x (dJ x.S i n p)):=by
 have hR:=hx.sh.sr;have hS:=FN hR hi h0 hn hp;have hl:=BX hR hi h0 hn hp;have hnew:=Oq hR hi h0 hn hp;have mem:∀ {k},k∈lv x.S->k∈lv (dJ x.S i n p):=λhk=>by rw[hl];exact t6 _ hk
 have mem0:∀ {k},k=0\/k∈lv x.S->k=0\/k∈lv (dJ x.S i n p):=λhk=>hk.imp id mem;have hpos:=tv hR hi;have split:∀ {k},k∈lv (dJ x.S i n p)->k∈lv x.S\/k=cv x.S i:=λhk=>by
  rw[hl] at hk;rcases zu.1 hk with q | q
  .exact .inl q
  .exact .inr (zp.1 q)
 have rep:∀v∈List.replicate n (0:Int),v=0:=λv hv=>(zba.1 hv).2;have ntgt:∀j (hj:j<x.b7.length),x.b7[j].Target≠cv x.S i:=λj hj e=>by
  obtain⟨q,hq⟩:=(hx.sh.cl j hj).2.2.2.1 (by rw[e];omega);rw[e] at hq;have:q=i:=by
   have a:=hq.2.2;have b:=hq.1;unfold cv at a;have:=hR.len;omega
  exact yQ hR hi h0 hn hp hq this
 refine⟨⟨hS,hx.sh.hr,hx.sh.r6,hx.sh.c6,hx.sh.cap,hx.sh.q30,λt ht=>?_,hx.sh.td,λh hh=>mem0 (hx.sh.rt h hh),λh hh v hv=>?_,λk v hk=>?_,λj hj=>?_⟩,λj hj ht=>?_,λh hh hs=>?_⟩
 .obtain⟨a,b,c⟩:=hx.sh.tk t ht;refine⟨a,b,c.imp (λ⟨d,e,f⟩=>⟨d,mem e,?_⟩) id⟩;show (ob (dJ x.S i n p) t.At).Started=true;rw[BY hR hi h0 hn hp e];exact f
 .rcases split hh with q | q
  .have hv':v∈(ob (dJ x.S i n p) h).Fields:=hv;rw[BY hR hi h0 hn hp q] at hv';exact mem0 (hx.sh.fl h q v hv')
  .subst q;have hv':v∈(ob (dJ x.S i n p) (cv x.S i)).Fields:=hv;rw[vq hR hi h0 hn hp] at hv';exact .inl (rep v hv')
 .obtain⟨a,b⟩:=hx.sh.pr k v hk;exact⟨mem a,mem b⟩
 .obtain⟨a,b,c,d,e⟩:=hx.sh.cl j hj;refine⟨a,b,c,λq=>?_,λq=>⟨mem (e q).1,(e q).2⟩⟩;obtain⟨m,hm⟩:=d q;exact⟨m,(Oo hR hi h0 hn hp).2 (.inl hm)⟩
 .have hj':j<x.S.S.b7.length:=by have:j<(dJ x.S i n p).S.b7.length:=hj;rwa [jS hR hi h0 hn hp] at this
  show (ce (dJ x.S i n p) j).Val.Weak=(jy x.b7 (1+(j:Int)+32*(ce (dJ x.S i n p) j).Gen):Int)/\_;have ht':Th (ce (dJ x.S i n p) j):=ht;rw[lT hR hi h0 hn hp] at ht' |-;by_cases e:j=i
  .subst e;rw[zb rfl];refine⟨?_,λq=>absurd (show (1:Int)=2 from q) (by decide)⟩;show (0:Int)=(jy x.b7 (cv x.S j):Int);have:jy x.b7 (cv x.S j)=0:=by
    unfold jy;rw[List.countP_eq_zero];intro c hc;obtain⟨m,hm,rfl⟩:=ww hc;have:=ntgt m hm;simp[this]
   rw[this];rfl
  .rw[za e] at ht' |-;exact hx.wk j hj' ht'
 .have hinn:∀y,kz (dJ x.S i n p) y=kz x.S y:=λy=>by
   unfold kz;rw[hl,q9,List.sum_append];have e1:(lv x.S).map (λk=>T3 (outs (dJ x.S i n p) k) y)=(lv x.S).map λk=>T3 (outs x.S k) y:=zq λk hk=>by
    unfold outs;rw[BY hR hi h0 hn hp hk]
   rw[e1];have e2:outs (dJ x.S i n p) (cv x.S i) = []:=by
    refine za2.2 λv hv=>?_;have h1:=gr.1 hv;rw[vq hR hi h0 hn hp] at h1;exact h1.2 (rep v h1.1)
   simp[e2,J1]
  have hnm:∀y,lY (wS x (dJ x.S i n p)) y=lY x y:=λy=>by
   unfold lY;show kz (dJ x.S i n p) y+own x.T y+T3 (oz x) y=_;rw[hinn]
  rw[hnm];have hs':(ob (dJ x.S i n p) h).Strong<12:=hs;show (ob (dJ x.S i n p) h).Strong=_;rcases split hh with q | q
  .rw[BY hR hi h0 hn hp q] at hs' |-;exact hx.fair h q hs'
  .subst q;rw[vq hR hi h0 hn hp];have h1:lY x (cv x.S i)=0:=by
    unfold lY;have a1:kz x.S (cv x.S i)=0:=by
     unfold kz;have:=Iq (λk=>T3 (outs x.S k) (cv x.S i)) 0 (lv x.S) λk hk=>Nat.le_of_eq<|KA λq=>by
      have q2:=gr.1 q;rcases hx.sh.fl k hk _ q2.1 with e | e
      .exact q2.2 e
      .exact hnew e
     omega
    have a2:own x.T (cv x.S i)=0:=by
     unfold own;rw[List.countP_eq_zero];intro c hc;have:=(hx.sh.pr _ _ (cE.1 hc)).2;have hne:c.Val≠cv x.S i:=λe=>hnew (e▸this);simp[hne]
    have a3:T3 (oz x) (cv x.S i)=0:=KA λq=>by
     unfold oz at q;rcases zu.1 q with q | q
     .have q2:=gr.1 q;rcases hx.sh.rt _ q2.1 with e | e
      .exact q2.2 e
      .exact hnew e
     .obtain⟨t,ht,k1,k2⟩:=lR.1 q;rcases (hx.sh.tk t ht).2.2 with ⟨_,b,_⟩ | ⟨b,_⟩;·exact hnew (k2▸b)
      .omega
    omega
   rw[h1,J1];rfl
structure Ev (x y:Hp):Prop where
 lv:∀h∈lv y.S,(h∈Sh.lv x.S/\(ob y.S h).Serial=(ob x.S h).Serial)\/(h∉Sh.lv x.S/\(ob y.S h).Serial=x.S.Serial+1)
 s1:x.S.Serial<=y.S.Serial
 s2:y.S.Serial<=x.S.Serial+1
theorem Ev.refl(x:Hp):Ev x x:=⟨λh hh=>.inl ⟨hh,rfl⟩,by omega,by omega⟩
theorem Ks.ev{x y:Hp}(k:Ks x.S y.S):Ev x y:=⟨λh hh=>by
 rw[k.lv] at hh;exact .inl ⟨hh,k.ob h hh⟩,by rw[k.aR];omega,by rw[k.aR];omega⟩
theorem Ev.ks{x y z:Hp}(e:Ev x y)(k:Ks y.S z.S):Ev x z:=⟨λh hh=>by
 rw[k.lv] at hh;rw[k.ob h hh];exact e.lv h hh,by rw[k.aR];exact e.s1,by rw[k.aR];exact e.s2⟩
theorem Ev.stl{x y z:Hp}(e:Ev x y)(s:EE y z):Ev x z:=⟨λh hh=>by
 rw[(s.ob h hh).1];exact e.lv h (s.lv h hh),by rw[s.aR];exact e.s1,by rw[s.aR];exact e.s2⟩
theorem Yp{x:Hp}(hx:L1 x){i:Nat}(hi:i<x.S.S.b7.length)(h0:(ce x.S i).State=0){n:Nat}(hn:n<=4){p:Int}(hp : -1<=p/\p<=5):Ev x (wS x (dJ x.S i n p)):=⟨λh hh=>by
 have hR:=hx.sh.sr;have hh':h∈lv (dJ x.S i n p):=hh;show (_/\(ob (dJ x.S i n p) h).Serial=_)\/_/\(ob (dJ x.S i n p) h).Serial=_;rw[BX hR hi h0 hn hp] at hh';rcases zu.1 hh' with q | q
 .exact .inl ⟨q,by rw[BY hR hi h0 hn hp q]⟩
 .rw[zp.1 q];exact .inr ⟨Oq hR hi h0 hn hp,by rw[vq hR hi h0 hn hp]⟩,by show _<=x.S.Serial+1;omega,zae _⟩
def Cw(x y:Hp)(w:Int):Prop:=∀i:Nat,(i:Int)≠w->(y.b7.getD i cz).Target=(x.b7.getD i cz).Target/\((y.b7.getD i cz).Intact=true->(x.b7.getD i cz).Intact=true)
theorem Cw.refl(x:Hp)(w:Int):Cw x x w:=λi _=>⟨rfl,id⟩
theorem Cw.same{x y:Hp}(h:y.b7=x.b7)(w:Int):Cw x y w:=λi _=>by rw[h];exact⟨rfl,id⟩
theorem Cw.trans{x y z:Hp}{w:Int}(a:Cw x y w)(b:Cw y z w):Cw x z w:=λi hi=>⟨(b i hi).1.trans (a i hi).1,λq=>(a i hi).2 ((b i hi).2 q)⟩
theorem EE.cw{x y:Hp}(s:EE x y)(w:Int):Cw x y w:=λi _=>by
 by_cases h:i<x.b7.length
 .have h':i<y.b7.length:=by rw[s.cn];exact h
  rw[Jx h,Jx h',s.cl i h' h];exact⟨rfl,λq=>(zy _ _▸q).1⟩
 .have h':¬i<y.b7.length:=by rw[s.cn];exact h
  rw[zd,zd,pi (by omega),pi (by omega)];exact⟨rfl,id⟩
theorem Cw.set{x y:Hp}{w:Nat}{c:j5}(h:y.b7=x.b7.set w c):Cw x y w:=λi hi=>by
 rw[h,zd,zd,List.getElem?_set_ne (by omega)];exact⟨rfl,id⟩
def XC(s:b6)(i:Nat):Prop:=i<s.S.b7.length/\(ce s i).State=0/\∀j,j<i->(ce s j).State≠0
theorem Oi{s:b6}(hR:SR s)(hb:s.Serial<9223372036854775807)(a p:Int) :
  (¬(0<=a/\a<=4)/\Y4 s a p=some (s,0,1)) \/
  ((0<=a/\a<=4)/\¬(-1<=p/\p<=5)/\Y4 s a p=some (s,0,13)) \/
  ((0<=a/\a<=4)/\(-1<=p/\p<=5)/\(∀i,i<s.S.b7.length->(ce s i).State≠0)/\Y4 s a p=some (s,0,4)) \/
  ((0<=a/\a<=4)/\(-1<=p/\p<=5)/\∃i,XC s i/\Y4 s a p=some (dJ s i a.toNat p,cv s i,0)):=by
 have hs':=hR.aR;have hR':=y8.2 hR;unfold Y4 qv;by_cases ha:0<=a/\a<=4
 .right;obtain⟨ha1,ha2⟩:=ha;obtain⟨n,rfl⟩:∃n:Nat,a=n:=⟨a.toNat,by omega⟩;rw[za (by simp;omega),kU (by omega) (by omega)];simp only[a0q];by_cases hp : -1<=p/\p<=5
  .right;unfold W7;simp only[a0q];have e1:(decide (p >= -1)&&decide (p<6))=true:=by simp;omega
   rw[e1];have hl:SlO s.S:=⟨pA hR',hR'.l0,hR'.l9,λi hi=>DT hR' i hi⟩;rcases Ee hl ⟨s.Serial+1,0,0,p,false,List.replicate n 0⟩ with ⟨i,hi,h0,hf,e⟩ | ⟨hf,e⟩
   .right;refine⟨⟨ha1,ha2⟩,hp,i,⟨hi,by rw[N2 hi];exact h0,λj hj=>by rw[N2 (by omega)];exact hf j hj⟩,?_⟩;simp only[zbt,zA,ul,zbf];rw[show w9 (s.Serial+1)=s.Serial+1 from U2 (by omega) (by omega),e];unfold dJ cv;rw[N2 hi];simp
   .left;refine⟨⟨ha1,ha2⟩,hp,λi hi=>by rw[N2 hi];exact hf i hi,?_⟩;simp only[zbt,zA,ul,zbf];rw[show w9 (s.Serial+1)=s.Serial+1 from U2 (by omega) (by omega),e];simp
  .left;refine⟨⟨ha1,ha2⟩,hp,?_⟩;unfold W7;simp only[a0q];have e1:(decide (p >= -1)&&decide (p<6))=false:=by rw[zbm];simp;omega
   rw[e1];simp
 .left;refine⟨ha,?_⟩;rw[zb (by simp;omega)];simp
def sd(x:Hp)(r:Int):Int:=if r<0 then 0 else x.Roots.getD r.toNat 0
def AS(x:Hp)(r:Int):Int × Int:=if sd x r=0 then (0,2) else (sd x r,0)
def aR(x:Hp)(h:Int):Int:=(ob x.S h).Serial
theorem BN{n l m e:Int}(he:e≠0)(h:P8 n l m e=0):l<=n/\n<=m:=by
 unfold P8 at h;split at h;·exact absurd h he
 .omega
theorem HA{a b c:Int}(h:cT a b c=0):a=0/\b=0/\c=0:=by
 unfold cT at h;split at h;·contradiction
 .split at h;·contradiction
  .omega
theorem tG{k a b c:Int}(h:y6 k a b c=0):1<=k/\k<=12:=by
 refine Decidable.byContradiction λq=>?_;have:y6 k a b c=14:=by
  unfold y6;repeat rw[za (by omega)]
 omega
theorem Vb{a b c:Int}(h:y6 1 a b c=0):(0<=a/\a<=5)/\(0<=b/\b<=4) /\ -1<=c/\c<=5:=by
 obtain⟨h1,h2,h3⟩:=HA (show cT (P8 a 0 5 6) (P8 b 0 4 1) (P8 c (-1) 5 13)=0 from h);exact⟨BN (by decide) h1,BN (by decide) h2,BN (by decide) h3⟩
theorem Nb{a b c:Int}(h:y6 2 a b c=0):(0<=a/\a<=5)/\(0<=b/\b<=5):=by
 obtain⟨h1,h2,_⟩:=HA (show cT (P8 a 0 5 6) (P8 b 0 5 6) 0=0 from h);exact⟨BN (by decide) h1,BN (by decide) h2⟩
theorem XJ{a b c:Int}(h:y6 3 a b c=0):0<=a/\a<=5:=BN (by decide) (show P8 a 0 5 6=0 from h)
theorem Vc{a b c:Int}(h:y6 4 a b c=0):(0<=a/\a<=5)/\(0<=b/\b<=5)/\0<=c/\c<=3:=by
 obtain⟨h1,h2,h3⟩:=HA (show cT (P8 a 0 5 6) (P8 b 0 5 6) (P8 c 0 3 5)=0 from h);exact⟨BN (by decide) h1,BN (by decide) h2,BN (by decide) h3⟩
theorem Vd{a b c:Int}(h:y6 5 a b c=0):(0<=a/\a<=5)/\(0<=b/\b<=3) /\ -1<=c/\c<=5:=by
 obtain⟨h1,h2,h3⟩:=HA (show cT (P8 a 0 5 6) (P8 b 0 3 5) (P8 c (-1) 5 6)=0 from h);exact⟨BN (by decide) h1,BN (by decide) h2,BN (by decide) h3⟩
theorem Ru{a b c:Int}(h:y6 6 a b c=0):(0<=a/\a<=5)/\(-1<=b/\b<=5) /\ -1<=c/\c<=5:=by
 obtain⟨h1,h2,h3⟩:=HA (show cT (P8 a 0 5 7) (P8 b (-1) 5 6) (P8 c (-1) 5 13)=0 from h);exact⟨BN (by decide) h1,BN (by decide) h2,BN (by decide) h3⟩
theorem Ve{a b c:Int}(h:y6 7 a b c=0):(0<=a/\a<=5)/\(0<=b/\b<=5):=by
 obtain⟨h1,h2,_⟩:=HA (show cT (P8 a 0 5 6) (P8 b 0 5 7) 0=0 from h);exact⟨BN (by decide) h1,BN (by decide) h2⟩
theorem Vf{a b c:Int}(h:y6 8 a b c=0):(0<=a/\a<=5)/\(-1<=b/\b<=5):=by
 obtain⟨h1,h2,_⟩:=HA (show cT (P8 a 0 5 6) (P8 b (-1) 5 6) 0=0 from h);exact⟨BN (by decide) h1,BN (by decide) h2⟩
theorem Vg{a b c:Int}(h:y6 9 a b c=0):(0<=a/\a<=5)/\(0<=b/\b<=5):=Nb (show y6 2 a b c=0 from h)
theorem TP{a b c:Int}(h:y6 10 a b c=0):(0<=a/\a<=5)/\(0<=b/\b<=5):=Nb (show y6 2 a b c=0 from h)
section
variable{x:Hp}(hx:jt x)
include hx
theorem Px{r:Int}(h:0<=r/\r<=5):ix x.Roots r=some (sd x r):=by
 have:=hx.r6;obtain⟨n,rfl⟩:∃n:Nat,r=n:=⟨r.toNat,by omega⟩;have hn:n<x.Roots.length:=by omega
 rw[s7 hn];unfold sd;rw[za (by omega),zP,zd,zc hn];rfl
theorem DX{r:Int}(h:¬(0<=r/\r<=5)):sd x r=0:=by
 have:=hx.r6;unfold sd;split;·rfl
 .rw[zd,pi (by omega)];rfl
theorem dD(r:Int):sd x r=0\/sd x r∈lv x.S:=by
 by_cases h:0<=r/\r<=5
 .have e:=Px hx h;unfold ix at e;rw[zb h.1] at e;exact hx.rt _ (zi e)
 .exact .inl (DX hx h)
theorem iV(r:Int):sd x r<=9223372036854775807:=by
 rcases dD hx r with h | h
 .omega
 .have:=H5 hx.sr h;omega
theorem nF(r:Int):O5 x r=some (sd x r):=by
 have h6:=hx.r6;unfold O5;by_cases h:0<=r/\r<=5
 .rw[za (by simp;omega),Px hx h];rfl
 .rw[zb (by simp;omega),DX hx h]
theorem jz(r:Int):P0 x r=some (AS x r):=by
 unfold P0 AS;rw[nF hx,a0q];by_cases h:sd x r=0
 .rw[zb (by simpa using h),zb h]
 .rw[za (by simpa using h),za h]
theorem Pz{h:Int}(hh:h<=9223372036854775807):bS x h=some (aR x h):=by
 obtain⟨e,h1,_⟩:=gj (y8.2 hx.sr) hh;unfold bS;rw[h1];rfl
theorem YN{h:Int}(hh:h<=9223372036854775807):nw (hO x) h=some (aR x h):=by
 obtain⟨e,h1,_⟩:=gj (y8.2 hx.sr) hh;unfold nw;rw[show (hO x).S=sO x.S from rfl,XX x.S (by have:=hx.sr.len;omega) hh,h1];rfl
theorem Jf(r:Int):dV x r=some (aR x (sd x r)):=by
 unfold dV;rw[nF hx,a0q,Pz hx (iV hx r)];rfl
theorem Cg:aR x 0=0:=by
 unfold aR;rw[wj (y8.2 hx.sr) (by omega) (ff hx.sr)]
theorem Zt(r:Int):DK (hO x) r=some (aR x (sd x r)):=by
 unfold DK;by_cases h:0<=r/\r<=5
 .rw[za (by simp;omega),show (hO x).Roots=x.Roots from rfl,Px hx h,a0q,YN hx (iV hx r)];rfl
 .rw[zb (by simp;omega),DX hx h,Cg hx]
end
theorem WZ{x z:Hp}(hx:jt x)(k:Ks x.S z.S){h:Int}(hh:h=0\/h∈lv x.S):aR z h=aR x h:=by
 rcases hh with e | e
 .subst e;unfold aR;rw[wj (y8.2 hx.sr) (by omega) (ff hx.sr),wj (y8.2 k.sr) (by omega) (ff k.sr)]
 .exact k.ob h e
theorem Ti{x z:Hp}(h:z.Roots=x.Roots)(r:Int):sd z r=sd x r:=by unfold sd;rw[h]
noncomputable def Bb(x:Hp)(o:k8)(v:Hp × Int):Option (Hp × Int × Int):=
 if (v.2 != 0) then some (x,0,v.2) else (R8 v.1).bind λv5=>(Z9 v.1 v5 o).bind λv6=>some (v5,v6,0)
theorem qQ{x:Hp}{o:k8}{n:Option Nat}(hc:y6 o.Kind o.A o.B o.C=0)(hk:∃l,gI=some l/\A2 l o.Kind=some n):u6 x o=(xw n ⟨x,o⟩).bind (Bb x o):=by
 obtain⟨l,h1,h2⟩:=hk;unfold u6;rw[oJ,hc,a0q,za (by simp),h1,a0q,h2,za (by simp)];rfl
theorem Nm{x:Hp}{o:k8}(hc:y6 o.Kind o.A o.B o.C≠0):u6 x o=some (x,0,y6 o.Kind o.A o.B o.C)/\True:=by
 constructor
 .unfold u6;rw[oJ,a0q,zb (by simpa using hc)]
 .trivial
section
variable{x:Hp}{a b c:Int}
theorem Zw(hc:y6 1 a b c=0):u6 x ⟨1,a,b,c⟩=(Y9 ⟨x,⟨1,a,b,c⟩⟩).bind (Bb x ⟨1,a,b,c⟩):=qQ (o:=⟨1,a,b,c⟩) (n:=some 203) hc ⟨_,rfl,rfl⟩
theorem Zx(hc:y6 2 a b c=0):u6 x ⟨2,a,b,c⟩=(L8 ⟨x,⟨2,a,b,c⟩⟩).bind (Bb x ⟨2,a,b,c⟩):=qQ (o:=⟨2,a,b,c⟩) (n:=some 204) hc ⟨_,rfl,rfl⟩
theorem Zy(hc:y6 3 a b c=0):u6 x ⟨3,a,b,c⟩=(bC ⟨x,⟨3,a,b,c⟩⟩).bind (Bb x ⟨3,a,b,c⟩):=qQ (o:=⟨3,a,b,c⟩) (n:=some 205) hc ⟨_,rfl,rfl⟩
theorem Zz(hc:y6 4 a b c=0):u6 x ⟨4,a,b,c⟩=(bD ⟨x,⟨4,a,b,c⟩⟩).bind (Bb x ⟨4,a,b,c⟩):=qQ (o:=⟨4,a,b,c⟩) (n:=some 206) hc ⟨_,rfl,rfl⟩
theorem ZA(hc:y6 5 a b c=0):u6 x ⟨5,a,b,c⟩=(aJ ⟨x,⟨5,a,b,c⟩⟩).bind (Bb x ⟨5,a,b,c⟩):=qQ (o:=⟨5,a,b,c⟩) (n:=some 207) hc ⟨_,rfl,rfl⟩
theorem Vm(hc:y6 6 a b c=0):u6 x ⟨6,a,b,c⟩=(M2 ⟨x,⟨6,a,b,c⟩⟩).bind (Bb x ⟨6,a,b,c⟩):=qQ (o:=⟨6,a,b,c⟩) (n:=some 208) hc ⟨_,rfl,rfl⟩
theorem ZB(hc:y6 7 a b c=0):u6 x ⟨7,a,b,c⟩=(aV ⟨x,⟨7,a,b,c⟩⟩).bind (Bb x ⟨7,a,b,c⟩):=qQ (o:=⟨7,a,b,c⟩) (n:=some 209) hc ⟨_,rfl,rfl⟩
theorem ZC(hc:y6 8 a b c=0):u6 x ⟨8,a,b,c⟩=(bE ⟨x,⟨8,a,b,c⟩⟩).bind (Bb x ⟨8,a,b,c⟩):=qQ (o:=⟨8,a,b,c⟩) (n:=some 210) hc ⟨_,rfl,rfl⟩
theorem ZD(hc:y6 9 a b c=0):u6 x ⟨9,a,b,c⟩=(cD ⟨x,⟨9,a,b,c⟩⟩).bind (Bb x ⟨9,a,b,c⟩):=qQ (o:=⟨9,a,b,c⟩) (n:=some 211) hc ⟨_,rfl,rfl⟩
theorem XO(hc:y6 10 a b c=0):u6 x ⟨10,a,b,c⟩=(T7 ⟨x,⟨10,a,b,c⟩⟩).bind (Bb x ⟨10,a,b,c⟩):=qQ (o:=⟨10,a,b,c⟩) (n:=some 212) hc ⟨_,rfl,rfl⟩
theorem CO{k:Int}(hk:k=11\/k=12)(hc:y6 k a b c=0):u6 x ⟨k,a,b,c⟩=some (x,0,14)/\True:=by
 constructor
 .unfold u6;rw[oJ,hc,a0q,za (by simp)];rcases hk with rfl | rfl <;> rfl
 .trivial
variable{y:P5}
end
section
variable{s:b6}(hR:SR s){i:Nat}(hi:i<s.S.b7.length)
include hR hi
end
theorem Yn{s:b6}(hR:SR s)(hb:s.Serial<9223372036854775807)(a p:Int) :
  (∃e,e≠0/\Y4 s a p=some (s,0,e)/\True) \/
  ((0<=a/\a<=4)/\(-1<=p/\p<=5)/\∃i,XC s i/\Y4 s a p=some (dJ s i a.toNat p,cv s i,0)/\True):=by
 rcases Oi hR hb a p with ⟨h1,e⟩ | ⟨h1,h2,e⟩ | ⟨h1,h2,h3,e⟩ | ⟨h1,h2,i,h3,e⟩;·exact .inl ⟨1,by decide,e,trivial⟩
 .exact .inl ⟨13,by decide,e,trivial⟩
 .exact .inl ⟨4,by decide,e,trivial⟩
 .exact .inr ⟨h1,h2,i,h3,e,trivial⟩
abbrev opR(o:k8):fF:=⟨o.Kind,o.A,o.B,o.C⟩
structure Dn (x:Hp) (o:k8) (z:Hp) (v:Int):Prop where
 rt:L1 z
 sl:SL z
 ev:Ev x z
 cw:Cw x z (if o.Kind=6 then o.A else -1)
 mc:u6 x o=some (bI z,v,0)
 rf:True
def Er(x:Hp)(o:k8)(e:Int):Prop:=e≠0/\u6 x o=some (x,0,e)/\True
theorem Yq{x:Hp}(hx:L1 x)(hS:SL x){i:Nat}(hi:i<x.S.S.b7.length)(h0:(ce x.S i).State=0){n:Nat}(hn:n<=4){p:Int}(hp : -1<=p/\p<=5):SL (wS x (dJ x.S i n p)):=λk hk=>by
 have hR:=hx.sh.sr;have hk':k∈lv (dJ x.S i n p):=hk;show (ob (dJ x.S i n p) k).Strong<=_;rw[BX hR hi h0 hn hp] at hk';rcases zu.1 hk' with q | q
 .rw[BY hR hi h0 hn hp q];exact hS k q
 .rw[zp.1 q,vq hR hi h0 hn hp];show (0:Int)<=_;decide
theorem vJ{y:Hp}(hy:L1 y){a:Int}(ha:0<=a/\a<=5){h:Int}(hh:h=0\/h∈lv y.S):sd (bI (G8 y a.toNat h)) a=h/\aR (bI (G8 y a.toNat h)) h=aR y h:=by
 have hz:=bY hy (r:=a.toNat) (by omega) hh;have st:=mo hz;have w:=nH hz;have e1:(bI (G8 y a.toNat h)).Roots=y.Roots.set a.toNat h:=st.rt.trans (jZ y a.toNat h).1;have h6:=hy.sh.r6;have e2:sd (bI (G8 y a.toNat h)) a=h:=by
  unfold sd;rw[za (by omega),e1,zd,List.getElem?_set_self (by omega)];rfl
 refine⟨e2,?_⟩;have k:=dC hy.sh.sr a.toNat h;rcases dD w.sh a with q | q
 .rw[e2] at q;subst q;rw[Cg w.sh,Cg hy.sh]
 .rw[e2] at q;have h1:=(st.ob h q).1;have h2:=st.lv h q;rw[k.lv] at h2;exact h1.trans (k.ob h h2)
section
variable{x:Hp}{a b c:Int}
theorem kJ{o:k8}{y:Hp}{e:Int}(he:e≠0):Bb x o (y,e)=some (x,0,e):=by
 unfold Bb;rw[zb (by simpa using he)]
theorem TS{z:Hp}(hz:L1 z)(hS:SL z){k:Int}(hk:k≠5/\k≠6/\k≠8/\k≠10):Bb x ⟨k,a,b,c⟩ (z,0)=some (bI z,aR (bI z) (sd (bI z) a),0):=by
 unfold Bb Z9;rw[za (by simp),jB hz hS,a0q];simp only[jn];rw[za (by simp;omega),za (by simp;omega)];have:(k==8)=false:=by simp;omega
 rw[this,za (by simp),za (by simp;omega),Jf (nH hz).sh];rfl
theorem It{o:k8}{v e:Int}(he:e≠0):C4 ⟨x,o⟩ v e=some (x,e):=by
 unfold C4;rw[zb (by simpa using he)]
variable(hx:L1 x)(hS:SL x)
include hx hS
theorem qt{k:Int}(ha:0<=a/\a<=5){h:Int}(hh:h=0\/h∈lv x.S):C4 ⟨x,⟨k,a,b,c⟩⟩ h 0=some (G8 x a.toNat h,0):=by
 unfold C4;rw[za (by simp),Kp hx hS a (tJ hx hS hh),za (by omega),zb hh];rfl
theorem mA{k:Int}(hk:k=2\/k=3\/k=4\/k=7\/k=9)(hc:y6 k a b c=0)(ha:0<=a/\a<=5){h:Int}(hh:h=0\/h∈lv x.S)
  (h1:u6 x ⟨k,a,b,c⟩=Bb x ⟨k,a,b,c⟩ (G8 x a.toNat h,0))(h2:True):Dn x ⟨k,a,b,c⟩ (G8 x a.toNat h) (aR x h):=by
 have hz:=bY hx (r:=a.toNat) (by omega) hh;have zS:=pz hx.sh.sr hS a.toNat h;obtain⟨e1,e2⟩:=vJ hx ha hh;refine⟨hz,zS,(dC hx.sh.sr a.toNat h).ev,Cw.same (jZ x a.toNat h).2.1 _,?_,?_⟩;·rw[h1,TS hz zS (by omega),e1,e2]
 .trivial
theorem d2(hc:y6 2 a b c=0):Dn x ⟨2,a,b,c⟩ (G8 x a.toNat (sd x b)) (aR x (sd x b)):=by
 obtain⟨ha,hb⟩:=Nb hc;refine mA hx hS (.inl rfl) hc ha (dD hx.sh b) ?_ ?_
 .rw[Zx hc];unfold L8;rw[nF hx.sh,a0q,qt hx hS ha (dD hx.sh b)];rfl
 .trivial
theorem d3(hc:y6 3 a b c=0):Dn x ⟨3,a,b,c⟩ (G8 x a.toNat 0) 0:=by
 have ha:=XJ hc;have:=mA (b:=b) (c:=c) hx hS (.inr (.inl rfl)) hc ha (h:=0) (.inl rfl) ?_ ?_;·rwa [Cg hx.sh] at this
 .rw[Zy hc];unfold bC;rw[qt hx hS ha (.inl rfl)];rfl
 .trivial
theorem d4(hc:y6 4 a b c=0):(sd x b=0/\Er x ⟨4,a,b,c⟩ 2)\/(∃e,K4 x.S (sd x b) c=some (0,e)/\Er x ⟨4,a,b,c⟩ e) \/
  (sd x b∈lv x.S/\∃n:Nat,c=n/\∃hn:n<(ob x.S (sd x b)).Fields.length,Dn x ⟨4,a,b,c⟩ (G8 x a.toNat (ob x.S (sd x b)).Fields[n]) (aR x (ob x.S (sd x b)).Fields[n])):=by
 obtain⟨ha,hb,_⟩:=Vc hc;have hm:u6 x ⟨4,a,b,c⟩=_:=Zz hc;unfold bD at hm;rw[jz hx.sh,a0q] at hm;by_cases h0:sd x b=0
 .refine .inl ⟨h0,by decide,?_,?_⟩
  .rw[hm];unfold AS;rw[zb h0,zb (by simp),a0q,kJ (by decide)]
  .trivial
 .have has:AS x b=(sd x b,0):=by unfold AS;rw[za h0]
  rw[has,za (by simp)] at hm;right;rcases wc hx hS (sd x b) c (iV hx.sh b) with ⟨e,he,f1,f2⟩ | ⟨hl,n,hn0,hn,f1,f2⟩
  .refine .inl ⟨e,f1,he,?_,?_⟩
   .rw[hm];dsimp only;rw[f1,a0q,It he,a0q,a0q,kJ he]
   .trivial
  .refine .inr ⟨hl,n,hn0,hn,?_⟩;have hv:=hx.sh.fl _ hl _ (zh hn);refine mA hx hS (by omega) hc ha hv ?_ ?_
   .rw[hm];dsimp only;rw[f1,a0q,qt hx hS ha hv];rfl
   .trivial
theorem RU{n:Nat}(hn:n<6):∃h:n<x.b7.length,cS x.b7 n=some (if x.b7[n].Target=0\/x.b7[n].Intact=false then (0,9) else (x.b7[n].Target,0))/\True:=by
 have c6:=hx.sh.c6;have hl:n<x.b7.length:=by omega
 refine⟨hl,?_,?_⟩
 .unfold cS kh;have:(decide ((n:Int)>=0)&&decide ((n:Int)<(x.b7.length:Int)))=true:=by simp;omega
  rw[this,a0q,za (by simp),s7 hl,a0q];by_cases q:x.b7[n].Target=0\/x.b7[n].Intact=false
  .rw[zb q,zb (by rcases q with q | q <;> simp[q])]
  .rw[za q,za (by simpa using q)]
 .trivial
theorem d7(hc:y6 7 a b c=0):∃h:b.toNat<x.b7.length,((x.b7[b.toNat].Intact=false/\Er x ⟨7,a,b,c⟩ 9) \/
  (x.b7[b.toNat].Intact=true/\Dn x ⟨7,a,b,c⟩ (G8 x a.toNat x.b7[b.toNat].Target) (aR x x.b7[b.toNat].Target))):=by
 obtain⟨ha,hb⟩:=Ve hc;obtain⟨n,rfl⟩:∃n:Nat,b=n:=⟨b.toNat,by omega⟩;obtain⟨hl,l1,l2⟩:=RU hx hS (n:=n) (by omega);rw[zP];refine⟨hl,?_⟩;have hm:u6 x ⟨7,a,n,c⟩=_:=ZB hc;unfold aV at hm;rw[show cS (s6.mk x ⟨7,a,n,c⟩).x.b7 (s6.mk x ⟨7,a,n,c⟩).o.B=_ from l1,a0q] at hm;have cl:=hx.sh.cl n hl;cases hI:x.b7[n].Intact
 .left;rw[zb (.inr hI)] at hm;refine⟨rfl,by decide,?_,?_⟩
  .rw[hm];dsimp only;rw[It (by decide),a0q,a0q];exact kJ (e:=9) (by decide)
  .trivial
 .right;have ht:=(cl.2.2.2.2 hI).1;have ht0:x.b7[n].Target≠0:=λe=>ff hx.sh.sr (e▸ht);rw[za (by simp[ht0,hI])] at hm;refine⟨rfl,mA hx hS (by omega) hc ha (.inr ht) ?_ trivial⟩;rw[hm];dsimp only;rw[qt hx hS ha (.inr ht)];rfl
theorem d9(hc:y6 9 a b c=0):(sd x b=0/\Er x ⟨9,a,b,c⟩ 2)\/(sd x b∈lv x.S/\(∀v,¬Has x.T (sd x b) v)/\Er x ⟨9,a,b,c⟩ 9) \/
  (sd x b∈lv x.S/\∃v,Has x.T (sd x b) v/\Dn x ⟨9,a,b,c⟩ (G8 x a.toNat v) (aR x v)):=by
 obtain⟨ha,hb⟩:=Vg hc;have hT:=hx.sh.hr;have hm:u6 x ⟨9,a,b,c⟩=_:=ZD hc;unfold cD at hm;rw[jz hx.sh,a0q] at hm;by_cases h0:sd x b=0
 .refine .inl ⟨h0,by decide,?_,?_⟩
  .rw[hm];unfold AS;rw[zb h0,zb (by simp),a0q,kJ (by decide)]
  .trivial
 .have has:AS x b=(sd x b,0):=by unfold AS;rw[za h0]
  have hl:=(dD hx.sh b).resolve_left h0;rw[has,za (by simp)] at hm;dsimp only at hm;unfold va at hm;right;by_cases hv:∃v,Has x.T (sd x b) v
  .obtain⟨v,hv⟩:=hv;rw[Jy hT hv] at hm;refine .inr ⟨hl,v,hv,mA hx hS (by omega) hc ha (.inr (hx.sh.pr _ _ hv).2) ?_ trivial⟩;rw[hm,a0q,a0q];dsimp only;rw[qt hx hS ha (.inr (hx.sh.pr _ _ hv).2)];rfl
  .have hv':∀v,¬Has x.T (sd x b) v:=λv q=>hv ⟨v,q⟩;rw[Lu hT hv'] at hm;refine .inl ⟨hl,hv',by decide,?_,?_⟩
   .rw[hm,a0q,a0q];dsimp only;rw[It (by decide),a0q,a0q];exact kJ (e:=9) (by decide)
   .trivial
end
section
variable{x:Hp}{a b c:Int}
theorem TR{z:Hp}(hz:L1 z)(hS:SL z){k:Int}{r:Int}(hk:k=5/\r=c\/(k=6\/k=8)/\r=b):Bb x ⟨k,a,b,c⟩ (z,0)=some (bI z,aR z (sd z r),0):=by
 unfold Bb Z9;rw[za (by simp),jB hz hS,a0q];simp only[jn];rcases hk with ⟨rfl,rfl⟩ | ⟨rfl | rfl,rfl⟩
 .rw[zb (by rfl),Jf hz.sh];rfl
 .rw[za (by decide),zb (by rfl),zb (by rfl),Jf hz.sh];rfl
 .rw[za (by decide),za (by decide),zb (by rfl),Jf hz.sh];rfl
variable(hx:L1 x)(hS:SL x)
include hx hS
theorem rR{z:Hp}(hz:L1 z)(zS:SL z)(k:Ks x.S z.S)(er:z.Roots=x.Roots){kd r:Int}(hk:kd=5/\r=c\/(kd=6\/kd=8)/\r=b)(hc:y6 kd a b c=0)(cw:Cw x z (if kd=6 then a else -1))
  (h1:u6 x ⟨kd,a,b,c⟩=Bb x ⟨kd,a,b,c⟩ (z,0))(h2:True):Dn x ⟨kd,a,b,c⟩ z (aR x (sd x r)):=by
 refine⟨hz,zS,k.ev,cw,?_,?_⟩;·rw[h1,TR hz zS hk,Ti er,WZ hx.sh k (dD hx.sh r)]
 .trivial
theorem d5(hc:y6 5 a b c=0):(sd x a=0/\Er x ⟨5,a,b,c⟩ 2)\/(∃e,aH x (sd x a) b (sd x c)=some (x,e)/\Er x ⟨5,a,b,c⟩ e) \/
  (sd x a∈lv x.S/\∃n:Nat,b=n/\n<(ob x.S (sd x a)).Fields.length/\Dn x ⟨5,a,b,c⟩ (bQ x (sd x a) n (sd x c)) (aR x (sd x c))):=by
 obtain⟨ha,hb,hcc⟩:=Vd hc;have hm:u6 x ⟨5,a,b,c⟩=_:=ZA hc;unfold aJ at hm;rw[jz hx.sh,a0q] at hm;by_cases h0:sd x a=0
 .have has:AS x a=(0,2):=by unfold AS;rw[zb h0]
  rw[has,zb (by simp)] at hm;refine .inl ⟨h0,by decide,?_,?_⟩
  .rw[hm,a0q];exact kJ (e:=2) (by decide)
  .trivial
 .have has:AS x a=(sd x a,0):=by unfold AS;rw[za h0]
  rw[has,za (by simp)] at hm;dsimp only at hm;rw[nF hx.sh,a0q] at hm;right;rcases ym hx hS (sd x a) b (sd x c) (iV hx.sh a) (iV hx.sh c) with ⟨e,he,f1,f2⟩ | ⟨hl,hv,n,hn0,hn,f1,f2⟩
  .refine .inl ⟨e,f1,he,?_,?_⟩;·rw[hm,f1,a0q,a0q,kJ he]
   .trivial
  .refine .inr ⟨hl,n,hn0,hn,rR hx hS (CS hx hl hn hv) (Lm hx.sh.sr hS hl _ _) (BF hx.sh.sr hl hn _) (oU _ _ _ _).1 (.inl ⟨rfl,rfl⟩) hc (Cw.same (oU _ _ _ _).2.1 _) ?_ ?_⟩
   .rw[hm,f1];rfl
   .trivial
theorem d6(hc:y6 6 a b c=0):(sd x b=0/\Er x ⟨6,a,b,c⟩ 2)\/(∃e,S9 x a (sd x b) c=some (x,e)/\Er x ⟨6,a,b,c⟩ e) \/
  (wI x.Q a=false/\Dn x ⟨6,a,b,c⟩ (cV x a.toNat (sd x b) c) (aR x (sd x b))):=by
 obtain⟨ha,hb,hcc⟩:=Ru hc;have hm:u6 x ⟨6,a,b,c⟩=_:=Vm hc;unfold M2 at hm;have key:(u6 x ⟨6,a,b,c⟩=(((S9 x a (sd x b) c).bind λv1=>some (v1.1,v1.2)).bind (Bb x ⟨6,a,b,c⟩))/\True)\/(sd x b=0/\Er x ⟨6,a,b,c⟩ 2):=by
  by_cases h1:b = -1
  .subst h1;left;rw[DX hx.sh (r:=-1) (by omega)];refine⟨?_,trivial⟩;rw[hm,zb (by rfl)]
  .rw[za (by simpa using h1),jz hx.sh,a0q] at hm;by_cases h0:sd x b=0
   .have has:AS x b=(0,2):=by unfold AS;rw[zb h0]
    rw[has,zb (by simp)] at hm;refine .inr ⟨h0,by decide,?_,?_⟩
    .rw[hm,a0q];exact kJ (e:=2) (by decide)
    .trivial
   .have has:AS x b=(sd x b,0):=by unfold AS;rw[za h0]
    rw[has,za (by simp)] at hm;exact .inl ⟨hm,trivial⟩
 rcases key with ⟨hm,hnm⟩ | key
 .right;rcases En hx a (sd x b) c (iV hx.sh b) hcc with ⟨e,he,f1,f2⟩ | ⟨hh,n,rfl,hn,hw,f1,f2⟩
  .refine .inl ⟨e,f1,he,?_,?_⟩;·rw[hm,f1,a0q,a0q,kJ he]
   .trivial
  .rw[zP];obtain⟨r1,r2,_,_⟩:=AK x n (sd x b) c;refine .inr ⟨hw,rR hx hS (wD hx hn hh hcc hw) (GH hx hS hn _ _) (GG hx hn _ _) r1 (.inr ⟨.inl rfl,rfl⟩) hc (by rw[zb rfl];exact Cw.set r2) ?_ ?_⟩
   .rw[hm,f1];rfl
   .trivial
 .exact .inl key
theorem d8(hc:y6 8 a b c=0):(sd x a=0/\Er x ⟨8,a,b,c⟩ 2)\/(sd x a∈lv x.S/\∃e,cy x (sd x a) (sd x b)=some (x,e)/\Er x ⟨8,a,b,c⟩ e) \/
  (sd x a∈lv x.S/\∃r,V3 x.T (sd x a) (sd x b)=some r/\r.2.2=0/\Dn x ⟨8,a,b,c⟩ (iU x (sd x b) r.1 r.2.1) (aR x (sd x b))):=by
 obtain⟨ha,hb⟩:=Vf hc;have hm:u6 x ⟨8,a,b,c⟩=_:=ZC hc;unfold bE at hm;rw[jz hx.sh,a0q] at hm;by_cases h0:sd x a=0
 .have has:AS x a=(0,2):=by unfold AS;rw[zb h0]
  rw[has,zb (by simp)] at hm;refine .inl ⟨h0,by decide,?_,?_⟩
  .rw[hm,a0q];exact kJ (e:=2) (by decide)
  .trivial
 .have has:AS x a=(sd x a,0):=by unfold AS;rw[za h0]
  have hl:=(dD hx.sh a).resolve_left h0;rw[has,za (by simp)] at hm;dsimp only at hm;rw[nF hx.sh,a0q] at hm;right;rcases SG hx hS (sd x a) (sd x b) (iV hx.sh a) (iV hx.sh b) with ⟨e,he,f1,f2⟩ | ⟨hl,hv,r,r1,r2,f1,f2⟩
  .refine .inl ⟨hl,e,f1,he,?_,?_⟩;·rw[hm,f1,a0q,a0q,kJ he]
   .trivial
  .refine .inr ⟨hl,r,r1,r2,rR hx hS (FU hx hl hv r1 r2) (OS hx.sh.sr hS _ _ _) (FT hx.sh.sr _ _ _) (rT _ _ _ _).1 (.inr ⟨.inr rfl,rfl⟩) hc (Cw.same (rT _ _ _ _).2.1 _) ?_ ?_⟩
   .rw[hm,f1];rfl
   .trivial
theorem d10(hz:zr x = [])(hc:y6 10 a b c=0):Dn x ⟨10,a,b,c⟩ x (if sd x a=sd x b then 1 else 0):=by
 obtain⟨ha,hb⟩:=TP hc;refine⟨hx,hS,Ev.refl x,Cw.refl x _,?_,?_⟩
 .rw[XO hc];unfold T7 Bb Z9;rw[a0q,za (by simp),jB hx hS,a0q];simp only[jn];rw[za (by decide),za (by decide),za (by decide),zb (by rfl),nF hx.sh,a0q,nF hx.sh,a0q];by_cases q:sd x a=sd x b
  .rw[zb (by simpa using q),zb q];rfl
  .rw[za (by simpa using q),za q];rfl
 .trivial
theorem d1(hb:x.S.Serial<9223372036854775807)(hc:y6 1 a b c=0):(∃e,Y4 x.S b c=some (x.S,0,e)/\Er x ⟨1,a,b,c⟩ e) \/
  (b.toNat<=4/\(-1<=c/\c<=5)/\∃i,XC x.S i/\Dn x ⟨1,a,b,c⟩ (G8 (wS x (dJ x.S i b.toNat c)) a.toNat (cv x.S i)) (x.S.Serial+1)):=by
 obtain⟨ha,hbb,hcc⟩:=Vb hc;have hR:=hx.sh.sr;have hm:u6 x ⟨1,a,b,c⟩=_:=Zw hc;unfold Y9 at hm;dsimp only at hm;rcases Yn hR hb b c with ⟨e,he,f1,f2⟩ | ⟨_,_,i,hF,f1,f2⟩
 .refine .inl ⟨e,f1,he,?_,?_⟩;·rw[hm,f1,a0q,zb (by simpa using he),a0q,kJ he]
  .trivial
 .refine .inr ⟨by omega,hcc,i,hF,?_⟩;obtain⟨hi,h0,_⟩:=hF;have hn:b.toNat<=4:=by omega
  have hy:=yR hx hi h0 hn hcc;have yS:=Yq hx hS hi h0 hn hcc;have hh:cv x.S i=0\/cv x.S i∈lv (wS x (dJ x.S i b.toNat c)).S:=.inr (by
   show _∈lv (dJ x.S i b.toNat c);rw[BX hR hi h0 hn hcc];exact t7 _ (zp.2 rfl))
  have hz:=bY hy (r:=a.toNat) (by omega) hh;have zS:=pz hy.sh.sr yS a.toNat (cv x.S i);obtain⟨e1,e2⟩:=vJ hy ha hh;have e3:aR (wS x (dJ x.S i b.toNat c)) (cv x.S i)=x.S.Serial+1:=by
   show (ob (dJ x.S i b.toNat c) (cv x.S i)).Serial=_;rw[vq hR hi h0 hn hcc]
  refine⟨hz,zS,(Yp hx hi h0 hn hcc).ks (dC hy.sh.sr a.toNat _),Cw.same (jZ (wS x (dJ x.S i b.toNat c)) a.toNat _).2.1 _,?_,?_⟩
  .rw[hm,f1,a0q,za (by simp)];dsimp only;rw[show C4 ⟨⟨dJ x.S i b.toNat c,x.Roots,x.b7,x.T,x.Q⟩,⟨1,a,b,c⟩⟩ (cv x.S i) 0=_ from qt hy yS ha hh,a0q,a0q,TS hz zS (by omega),e1,e2,e3]
  .trivial
end
theorem Vn{x:Hp}(hx:L1 x)(hS:SL x)(hz:zr x = [])(hb:x.S.Serial<9223372036854775807)(o:k8):(∃e,Er x o e)\/∃z v,Dn x o z v:=by
 obtain⟨k,a,b,c⟩:=o;by_cases hc:y6 k a b c=0
 .have:=tG hc;have hk:k=1\/k=2\/k=3\/k=4\/k=5\/k=6\/k=7\/k=8\/k=9\/k=10\/k=11\/k=12:=by omega
  rcases hk with rfl | rfl | rfl | rfl | rfl | rfl | rfl | rfl | rfl | rfl | rfl | rfl
  .rcases d1 hx hS hb hc with ⟨e,_,h⟩ | ⟨_,_,i,_,h⟩;·exact .inl ⟨e,h⟩
   .exact .inr ⟨_,_,h⟩
  .exact .inr ⟨_,_,d2 hx hS hc⟩
  .exact .inr ⟨_,_,d3 hx hS hc⟩
  .rcases d4 hx hS hc with ⟨_,h⟩ | ⟨e,_,h⟩ | ⟨_,n,_,_,h⟩;·exact .inl ⟨_,h⟩
   .exact .inl ⟨_,h⟩
   .exact .inr ⟨_,_,h⟩
  .rcases d5 hx hS hc with ⟨_,h⟩ | ⟨e,_,h⟩ | ⟨_,n,_,_,h⟩;·exact .inl ⟨_,h⟩
   .exact .inl ⟨_,h⟩
   .exact .inr ⟨_,_,h⟩
  .rcases d6 hx hS hc with ⟨_,h⟩ | ⟨e,_,h⟩ | ⟨_,h⟩;·exact .inl ⟨_,h⟩
   .exact .inl ⟨_,h⟩
   .exact .inr ⟨_,_,h⟩
  .obtain⟨_,⟨_,h⟩ | ⟨_,h⟩⟩:=d7 hx hS hc;·exact .inl ⟨_,h⟩
   .exact .inr ⟨_,_,h⟩
  .rcases d8 hx hS hc with ⟨_,h⟩ | ⟨_,e,_,h⟩ | ⟨_,r,_,_,h⟩;·exact .inl ⟨_,h⟩
   .exact .inl ⟨_,h⟩
   .exact .inr ⟨_,_,h⟩
  .rcases d9 hx hS hc with ⟨_,h⟩ | ⟨_,_,h⟩ | ⟨_,v,_,h⟩;·exact .inl ⟨_,h⟩
   .exact .inl ⟨_,h⟩
   .exact .inr ⟨_,_,h⟩
  .exact .inr ⟨_,_,d10 hx hS hz hc⟩
  .obtain⟨h1,h2⟩:=CO (x:=x) (a:=a) (b:=b) (c:=c) (.inl rfl) hc;exact .inl ⟨14,by decide,h1,h2⟩
  .obtain⟨h1,h2⟩:=CO (x:=x) (a:=a) (b:=b) (c:=c) (.inr rfl) hc;exact .inl ⟨14,by decide,h1,h2⟩
 .obtain⟨h1,h2⟩:=Nm (x:=x) (o:=⟨k,a,b,c⟩) hc;exact .inl ⟨_,hc,h1,h2⟩
noncomputable def ju(x:Hp)(o:k8):Hp × Int × Int:=(u6 x o).getD (x,0,0)
structure Xs (x:Hp) (o:k8) (y:Hp) (v e:Int):Prop where
 rt:L1 y
 sl:SL y
 zr:zr y = []
 ev:Ev x y
 cw:Cw x y (if o.Kind=6 then o.A else -1)
 er:e≠0->y=x/\v=0
 mc:u6 x o=some (y,v,e)
 rf:True
theorem Dn.nxt{x z:Hp}{o:k8}{v:Int}(d:Dn x o z v):Xs x o (bI z) v 0:=by
 have st:=mo d.rt;exact⟨nH d.rt,Kv d.rt d.sl,Ci d.rt,d.ev.stl st,d.cw.trans (st.cw _),λh=>absurd rfl h,d.mc,d.rf⟩
theorem Sk{x:Hp}(hx:L1 x)(hS:SL x)(hz:zr x = [])(hb:x.S.Serial<9223372036854775807)(o:k8):∃y v e,Xs x o y v e:=by
 rcases Vn hx hS hz hb o with ⟨e,h1,h2,h3⟩ | ⟨z,v,d⟩;·exact⟨x,0,e,hx,hS,hz,Ev.refl x,Cw.refl x _,λ_=>⟨rfl,rfl⟩,h2,h3⟩
 .exact⟨_,_,_,d.nxt⟩
theorem tW{x:Hp}(hx:L1 x)(hS:SL x)(hz:zr x = [])(hb:x.S.Serial<9223372036854775807)(o:k8):Xs x o (ju x o).1 (ju x o).2.1 (ju x o).2.2:=by
 obtain⟨y,v,e,h⟩:=Sk hx hS hz hb o;have:ju x o=(y,v,e):=by unfold ju;rw[h.mc];rfl
 rw[this];exact h
noncomputable def runs(x:Hp)(l:List k8):Hp × List Int:=l.foldl (λp o=>((ju p.1 o).1,p.2 ++ [(ju p.1 o).2.1])) (x,[])
theorem qn(x:Hp)(l:List k8)(o:k8):runs x (l ++ [o])=((ju (runs x l).1 o).1,(runs x l).2 ++ [(ju (runs x l).1 o).2.1]):=by
 unfold runs;rw[zaq];rfl
theorem Ao{x:Hp}(hx:L1 x)(hS:SL x)(hz:zr x = [])(l:List k8)(hb:x.S.Serial+l.length<9223372036854775807)(P:Hp->Prop)(h0:P x)
  (hs:∀(y:Hp) (o:k8),o∈l->L1 y->Xs y o (ju y o).1 (ju y o).2.1 (ju y o).2.2->P y->P (ju y o).1):∀k,k<=l.length ->
  L1 (runs x (l.take k)).1/\SL (runs x (l.take k)).1/\zr (runs x (l.take k)).1 = []/\(runs x (l.take k)).1.S.Serial<=x.S.Serial+k/\(runs x (l.take k)).2.length=k/\P (runs x (l.take k)).1
 | 0,_=>⟨hx,hS,hz,by show x.S.Serial<=_;omega,rfl,h0⟩
 | k+1,hk=>by
  obtain⟨a1,a2,a3,a4,a5,a6⟩:=Ao hx hS hz l hb P h0 hs k (by omega);have hk':k<l.length:=by omega
  have n:=tW a1 a2 a3 (by omega) l[k];rw[T2 hk',qn];exact⟨n.rt,n.sl,n.zr,by have:=n.ev.s2;show (ju _ _).1.S.Serial<=_;omega,by simp[a5],hs _ _ (zh hk') a1 n a6⟩
theorem run_eq{x:Hp}(hx:L1 x)(hS:SL x)(hz:zr x = [])(l:List k8)(hl:l.length<=1000)(hb:x.S.Serial+l.length<9223372036854775807) :
  gZ x l=some (runs x l)/\True:=by
 have all:=Ao hx hS hz l hb (λ_=>True) trivial (λ_ _ _ _ _ _=>trivial);constructor
 .unfold gZ;simp only[jn];refine Y8 (T:=Hp × List Int) l.length (λk acc=>acc=runs x (l.take k)) (by omega) rfl (λk acc hk hP=>?_) (λacc hP=>?_)
  .subst hP;obtain⟨a1,a2,a3,a4,a5,_⟩:=all k (by omega);have n:=tW a1 a2 a3 (by omega) l[k];refine .inl ⟨_,?_,rfl⟩;rw[T2 hk,qn];show (if _ then _ else _)=_;rw[zb (by simpa using hk),s7 hk,a0q,n.mc,a0q,J3 (by omega) (by rw[a5];simp;omega),a0q,o0]
  .subst hP;refine⟨runs x (l.take l.length),?_,?_⟩
   .show (if _ then _ else _)=_;rw[za (by simp)]
   .rw[zW]
 .trivial
section
variable{x:Hp}(hB:HB x)
include hB
end
def qe(k:Nat)(l:Int)(p:Nat):Hp:=⟨⟨⟨List.replicate k ⟨0,0,z0⟩,l⟩,0⟩,List.replicate 6 0,List.replicate 6 ⟨0,false,-1⟩,List.replicate p ⟨0,0,0⟩,⟨[],30⟩⟩
theorem NN{k p:Nat}{l:Int}(hk:1<=k/\k<=24)(hl:0<=l/\l<=9)(hp:1<=p/\p<=8) :
  lO k l p=some (qe k l p)/\uh k l p=some (hO (qe k l p))/\L1 (qe k l p)/\SL (qe k l p)/\zr (qe k l p) = []:=by
 have e1:jC k l=some (qe k l p).S:=by
  unfold jC aO;rw[za (by simp;omega),kU (by omega) (by omega)];rfl
 obtain⟨a,h1,h2,h3,_⟩:=Yw k l;rw[e1] at h1;have ha:=zJ h1;subst ha;have hR:SR (qe k l p).S:=y8.1 h3;have hce:∀i,ce (qe k l p).S i=⟨0,0,z0⟩:=λi=>by
  unfold ce qe;dsimp only;rw[zd,List.getElem?_replicate];split <;> rfl
 have hlv:lv (qe k l p).S = []:=za2.2 λh hh=>by
  obtain⟨i,q⟩:=(fU hR).1 hh;have:=q.2.1;rw[hce] at this;cases this
 refine⟨?_,?_,⟨⟨hR,(Xl (V:=Int) (λ_ _=>True) hp.1 hp.2).1,rfl,rfl,rfl,zX _,(λt ht=>nomatch ht),List.Pairwise.nil,(λh hh=>.inl (zba.1 hh).2),λh hh=>?_,λa v hv=>?_,λi hi=>?_⟩,λi hi ht=>?_,λh hh=>?_⟩,λh hh=>?_,?_⟩
 .unfold lO;rw[za (by simp;omega),e1,a0q,show mk 8 6 (0:Int)=some (List.replicate 6 0) from rfl,a0q];refine ss (a:=List.replicate 6 ⟨0,false,-1⟩) (by kernel_rfl) ?_;rw[Wf hp.1 hp.2,a0q];refine ss (a:=⟨[],30⟩) (by kernel_rfl) ?_;rfl
 .unfold uh;rw[za (by simp;omega),h2,a0q,show mk 8 6 (0:Int)=some (List.replicate 6 0) from rfl,a0q];refine ss (a:=List.replicate 6 ⟨0,false,-1⟩) (by kernel_rfl) ?_;unfold Kh;rw[za (by simp;omega),kU (by omega) (by omega),a0q,a0q];refine ss (a:=⟨[],30⟩) (by kernel_rfl) ?_;unfold hO qe;dsimp only;rw[zcf,zcf];rfl
 .rw[hlv] at hh;cases hh
 .obtain⟨i,hi,_⟩:=hv;have:=hi.2.1;rw[show (qe k l p).T=List.replicate p ⟨0,0,0⟩ from rfl,vF] at this;cases this
 .have:(qe k l p).b7[i]=⟨0,false,-1⟩:=List.getElem_replicate ..;rw[this];exact⟨by decide,by decide,λ_=>rfl,λh=>absurd rfl h,λh=>by cases h⟩
 .rw[hce] at ht;rcases ht with h | h <;> cases h
 .rw[hlv] at hh;cases hh
 .rw[hlv] at hh;cases hh
 .unfold zr;rw[hlv];rfl
section
variable{x:Hp}(hB:HB x)
include hB
end
def Gl(o:k8):fF:=⟨o.Kind,o.A,o.B,o.C⟩
abbrev CH(o:k8):Int:=y6 o.Kind o.A o.B o.C
theorem Jp(k a b c:Int):V6 [k,a,b,c]=some (if y6 k a b c≠0 then (⟨0,0,0,0⟩,y6 k a b c) else (⟨k,a,b,c⟩,0)):=by
 unfold V6;rw[za (by simp)];show (X5 ⟨k,a,b,c⟩).bind _=_;rw[oJ,a0q];by_cases h:y6 k a b c=0
 .rw[za (by simpa using h),za (by simpa using h)]
 .rw[zb (by simpa using h),zb h]
theorem Nk(k a b c:Int):jV [k,a,b,c]=some (if y6 k a b c≠0 then (⟨0,0,0,0⟩,y6 k a b c) else (⟨k,a,b,c⟩,0)):=by
 unfold jV;rw[za (by simp)];show (gv ⟨k,a,b,c⟩).bind _=_;rw[Jm,a0q];by_cases h:y6 k a b c=0
 .rw[za (by simpa using h),za (by simpa using h)]
 .rw[zb (by simpa using h),zb h]
theorem four(l:List Int):(∃k a b c,l = [k,a,b,c])\/l.length≠4:=by
 match l with
 | []=>exact .inr (by simp)
 | [_]=>exact .inr (by simp)
 | [_,_]=>exact .inr (by simp)
 | [_,_,_]=>exact .inr (by simp)
 | [k,a,b,c]=>exact .inl ⟨k,a,b,c,rfl⟩
 | _::_::_::_::_::l=>exact .inr (by simp)
theorem CM{l:List Int}(h:l.length≠4):V6 l=some (⟨0,0,0,0⟩,14)/\jV l=some (⟨0,0,0,0⟩,14):=by
 unfold V6 jV;have:(((l.length:Int) != 4))=true:=by simp;omega
 rw[zb this,zb this];exact⟨rfl,rfl⟩
def bO(l:List Int):k8 × Int:=(V6 l).getD (⟨0,0,0,0⟩,0)
theorem EV(l:List Int):V6 l=some (bO l)/\jV l=some (Gl (bO l).1,(bO l).2):=by
 unfold bO;rcases four l with ⟨k,a,b,c,rfl⟩ | h
 .rw[Jp,Nk];refine⟨rfl,?_⟩;rw[un];by_cases h:y6 k a b c≠0
  .rw[zb h,zb h];rfl
  .rw[za h,za h];rfl
 .rw[(CM h).1,(CM h).2];exact⟨rfl,rfl⟩
def pv(o:k8):Bool:=((decide (o.Kind>=1))&&(decide (o.Kind<=10)))&&(CH o==0)
def tZ(p:List k8):Bool:=decide (p.length<=6)&&p.all pv
def fD(l:List (List k8)):Bool:=decide (l.length<=6)&&l.all tZ
section
variable{l:List (List k8)}(hl:l.length<=12)(hp:∀p∈l,p.length<=12)
include hl hp
theorem FY:gb l=some (fD l):=by
 unfold gb fD;by_cases h6:l.length > 6
 .rw[zb (by simp;omega),zQ (by omega)];rfl
 .rw[za (by simp;omega),zC (by omega),zbe];simp only[jn];have key:=Di (f:=λ(s23:Int)=>
   if (decide (s23<(l.length:Int))) then
     (ix l s23).bind λv34=>
     if (decide ((v34.length:Int) > 6)) then
      some (.inr (.inl false))
     else
     (lp (S:=Int) (E:=Bool ⊕ Unit) (λ(s36:Int)=>
      if (decide (s36<(v34.length:Int))) then
       (ix v34 s36).bind λv38=>
       (ga v38).bind λv39=>
       (D3 ((!v39)==false) 0 (X5 v38)).bind λv40=>
       if ((!v39)||(v40 != 0)) then
        some (.inr (.inl false))
       else
       some (.inl (w9 (s36+1)))
      else
      some (.inr (.inr ()))) 0).bind λe35=>
     match e35 with
     | .inl w=>some (.inr (.inl w))
     | .inr w=>some (Sum.inl (w9 (s23+1)))
   else
   some (.inr (.inr ()))) l tZ (.inr ()) (Sum.inl (β:=Unit) false) (by omega) (λk hk=>?_) (by simp)
  .refine ss key ?_;cases l.all tZ <;> rfl
  .rw[zb (by simpa using hk),s7 hk,a0q];unfold tZ;have hm:=hp _ (zh hk);generalize l[k]=p at hm |-;by_cases hq:p.length > 6
   .rw[zb (by simp;omega),zQ (by omega)];rfl
   .rw[za (by simp;omega),zC (by omega),zbe];have k2:=Di (f:=λ(s36:Int)=>
      if (decide (s36<(p.length:Int))) then
       (ix p s36).bind λv38=>
       (ga v38).bind λv39=>
       (D3 ((!v39)==false) 0 (X5 v38)).bind λv40=>
       if ((!v39)||(v40 != 0)) then
        some (.inr (.inl false))
       else
       some (Sum.inl (w9 (s36+1)))
      else
      some (.inr (.inr ()))) p pv (.inr ()) (Sum.inl (β:=Unit) false) (by omega) (λj hj=>?_) (by simp)
    .refine zcv (ss k2 (r:=if p.all pv=true then some (.inl (w9 ((k:Int)+1))) else some (.inr (.inl false))) ?_) ?_;·cases p.all pv <;> rfl
     .rw[o0]
    .rw[zb (by simpa using hj),s7 hj,a0q,oJ];unfold pv ga;rw[a0q,o0];cases ((decide (p[j].Kind>=1))&&(decide (p[j].Kind<=10)));·rfl
     .by_cases h:CH p[j]=0
      .have e:y6 p[j].Kind p[j].A p[j].B p[j].C=0:=h;rw[e,h];rfl
      .have e1:(y6 p[j].Kind p[j].A p[j].B p[j].C != 0)=true:=by simpa using h
       have e2:(CH p[j]==0)=false:=by simpa using h
       rw[e2];refine ss (a:=CH p[j]) rfl ?_;rw[show (CH p[j] != 0)=true from e1];rfl
theorem HU:qh (l.map (List.map Gl))=some (fD l):=by
 unfold qh fD;rw[zl];by_cases h6:l.length > 6
 .rw[zb (by simp;omega),zQ (by omega)];rfl
 .rw[za (by simp;omega),zC (by omega),zbe];simp only[jn];have key:=Di (f:=λ(s23:Int)=>
   if (decide (s23<(l.length:Int))) then
     (ix (l.map (List.map Gl)) s23).bind λv34=>
     if (decide ((v34.length:Int) > 6)) then
      some (.inr (.inl false))
     else
     (lp (S:=Int) (E:=Bool ⊕ Unit) (λ(s36:Int)=>
      if (decide (s36<(v34.length:Int))) then
       (ix v34 s36).bind λv38=>
       (qg v38).bind λv39=>
       (D3 ((!v39)==false) 0 (gv v38)).bind λv40=>
       if ((!v39)||(v40 != 0)) then
        some (.inr (.inl false))
       else
       some (.inl (w9 (s36+1)))
      else
      some (.inr (.inr ()))) 0).bind λe35=>
     match e35 with
     | .inl w=>some (.inr (.inl w))
     | .inr w=>some (Sum.inl (w9 (s23+1)))
   else
   some (.inr (.inr ()))) l tZ (.inr ()) (Sum.inl (β:=Unit) false) (by omega) (λk hk=>?_) (by simp)
  .refine ss key ?_;cases l.all tZ <;> rfl
  .rw[zb (by simpa using hk),tE,s7 hk,u8,a0q,zl];unfold tZ;have hm:=hp _ (zh hk);generalize l[k]=p at hm |-;by_cases hq:p.length > 6
   .rw[zb (by simp;omega),zQ (by omega)];rfl
   .rw[za (by simp;omega),zC (by omega),zbe];have k2:=Di (f:=λ(s36:Int)=>
      if (decide (s36<(p.length:Int))) then
       (ix (p.map Gl) s36).bind λv38=>
       (qg v38).bind λv39=>
       (D3 ((!v39)==false) 0 (gv v38)).bind λv40=>
       if ((!v39)||(v40 != 0)) then
        some (.inr (.inl false))
       else
       some (Sum.inl (w9 (s36+1)))
      else
      some (.inr (.inr ()))) p pv (.inr ()) (Sum.inl (β:=Unit) false) (by omega) (λj hj=>?_) (by simp)
    .refine zcv (ss k2 (r:=if p.all pv=true then some (.inl (w9 ((k:Int)+1))) else some (.inr (.inl false))) ?_) ?_;·cases p.all pv <;> rfl
     .rw[o0]
    .rw[zb (by simpa using hj),tE,s7 hj,u8,a0q,Jm];unfold pv qg;rw[a0q,o0];rw[show (Gl p[j]).Kind=p[j].Kind from rfl];cases ((decide (p[j].Kind>=1))&&(decide (p[j].Kind<=10)));·rfl
     .by_cases h:CH p[j]=0
      .have e:y6 p[j].Kind (Gl p[j]).A (Gl p[j]).B (Gl p[j]).C=0:=h;rw[e,h];rfl
      .have e1:(y6 p[j].Kind p[j].A p[j].B p[j].C != 0)=true:=by simpa using h
       have e2:(CH p[j]==0)=false:=by simpa using h
       rw[e2];refine ss (a:=CH p[j]) rfl ?_;rw[show (CH p[j] != 0)=true from e1];rfl
end
noncomputable def GO(x:Hp):List Int:=Lv x.S x.T
noncomputable def dR(x:Hp):List Int:=Xu x.S x.T (GO x)
theorem bA{x:Hp}{h:Int}:h∈dR x↔h∈lv x.S/\¬bk x.S x.T (GO x) h:=by
 classical
 unfold dR Xu;rw[zk,zG]
section
variable{x:Hp}(hx:L1 x)
include hx
theorem eW:(dR x).Nodup:=zb6 _ (tK (y8.2 hx.sh.sr))
theorem cZ:∀d∈dR x,d∈lv x.S:=λd hd=>(bA.1 hd).1
theorem Kq{h:Int}(hl:h∈lv x.S)(hs:(ob x.S h).Strong<12):Md x.S x.T h=(T3 (oz x) h:Int):=Nr.2 hx.fair h hl hs
theorem Dc{h:Int}(hl:h∈lv x.S)(ho:h∈oz x):h∈GO x:=by
 refine qc.2 ⟨hl,?_⟩;by_cases hs:(ob x.S h).Strong<12
 .left;rw[Kq hx hl hs];have:=jo.2 ⟨λe=>ff hx.sh.sr (e▸hl),ho⟩;omega
 .exact .inr (by omega)
theorem HG{h:Int}(hh:h∈GO x):h∈lv x.S/\(h∈oz x\/12<=(ob x.S h).Strong):=by
 obtain⟨hl,hs⟩:=qc.1 hh;refine⟨hl,?_⟩;by_cases q:(ob x.S h).Strong<12
 .rcases hs with hs | hs
  .rw[Kq hx hl q] at hs;exact .inl (jo.1 (by omega)).2
  .omega
 .exact .inr (by omega)
theorem RG:∀d∈dR x,d∉oz x:=λd hd q=>by
 obtain⟨a,b⟩:=bA.1 hd;exact b (.base (Dc hx a q) a)
theorem RF:∀h∈lv x.S,h∉dR x->∀v∈(ob x.S h).Fields,v∉dR x:=λh hh hn v hv q=>by
 obtain⟨a,b⟩:=bA.1 q;have hr:bk x.S x.T (GO x) h:=qr λr=>hn (bA.2 ⟨hh,r⟩);exact b (.step hr (gr.2 ⟨hv,λe=>ff hx.sh.sr (e▸a)⟩) a)
theorem RH:∀k v,Has x.T k v->k∉dR x->v∉dR x:=λk v hk hn q=>by
 obtain⟨a,b⟩:=bA.1 q;have hr:bk x.S x.T (GO x) k:=qr λr=>hn (bA.2 ⟨(hx.sh.pr k v hk).1,r⟩);exact b (.pair hk hr a)
theorem eh:L1 (gS x (dR x)):=BA hx (eW hx) (cZ hx) (RG hx) (RF hx) (RH hx)
end
theorem Aj:∀(l:List Int) {x:Hp} (hR:SR x.S) {h:Int} (hh:h∈lv x.S) (hs:12<=(ob x.S h).Strong),12<=(ob (l.foldl aN x).S h).Strong
 | [],_,_,_,_,hs=>hs
 | v::l,x,hR,h,hh,hs=>by
  have k1:=I4 hR v (f:=lu) λc=>Q1;refine Aj l (x:=aN x v) k1.sr (by
   show h∈lv (uA x v lu).S;rw[k1.lv];exact hh) ?_
  show 12<=(ob (uA x v lu).S h).Strong;rw[vP (x:=x) hR (h:=v) (f:=lu) (λc=>Q1) hh];split
  .unfold lu;rw[zb hs];omega
  .exact hs
section
variable{x:Hp}(hx:L1 x)
include hx
theorem yw{h:Int}:h∈lv (gS x (dR x)).S↔bk x.S x.T (GO x) h:=by
 rw[Hf hx.sh.sr (eW hx) (cZ hx),zk,zG,bA];constructor
 .rintro⟨a,b⟩;exact qr λr=>b ⟨a,r⟩
 .intro r;exact⟨r.live,λq=>q.2 r⟩
theorem XW{h:Int}(hh:h∈lv (gS x (dR x)).S):(ob (gS x (dR x)).S h).Serial=(ob x.S h).Serial/\(ob (gS x (dR x)).S h).Prog=(ob x.S h).Prog/\(ob (gS x (dR x)).S h).Fields=(ob x.S h).Fields/\(ob (gS x (dR x)).S h).Started=(ob x.S h).Started:=by
 have r:=(yw hx).1 hh;obtain⟨n,e⟩:=Hg hx.sh.sr (eW hx) (cZ hx) r.live (λq=>(bA.1 q).2 r);rw[e];exact⟨rfl,rfl,rfl,rfl⟩
theorem NF{h:Int}(hh:h∈lv (gS x (dR x)).S)(hs:12<=(ob x.S h).Strong):12<=(ob (gS x (dR x)).S h).Strong:=by
 have r:=(yw hx).1 hh;have g:=eX (dR x) hx.sh.sr (eW hx) (cZ hx);have hn:h∉dR x:=λq=>(bA.1 q).2 r;refine Aj _ (x:=jG x (dR x) (lE x.T (dR x)).1) g.sr ?_ ?_
 .show h∈lv (oG x.S (dR x));rw[g.lv,zk];exact⟨r.live,by simpa using hn⟩
 .show 12<=(ob (oG x.S (dR x)) h).Strong;rw[g.ob h r.live hn];exact hs
theorem Vy:oz (gS x (dR x))=oz x:=by
 obtain⟨e1,_,_,e4⟩:=sF hx.sh.sr (eW hx) (cZ hx);unfold oz;rw[e1,e4,yC _ _ _ λt ht=>by
  obtain⟨w,_,rfl,_⟩:=gJ.1 ht;simp]
theorem RE{h:Int}(hh:bk x.S x.T (GO x) h):bk (gS x (dR x)).S (gS x (dR x)).T (GO (gS x (dR x))) h:=by
 have w:=eh hx;obtain⟨_,_,e3,_⟩:=sF hx.sh.sr (eW hx) (cZ hx);have hlen:(dR x).length<=1000:=by
  have:=ae (eW hx) (cZ hx);have:=K8 (y8.2 hx.sh.sr);omega
 obtain⟨_,_,_,_,w5,_⟩:=ki hx.sh.hr (dR x) hlen;induction hh with
 | base h1 h2=>
  have hl:=(yw hx).2 (.base h1 h2);refine .base ?_ hl;rcases (HG hx h1).2 with q | q
  .exact Dc w hl (by rw[Vy hx];exact q)
  .exact qc.2 ⟨hl,.inr (NF hx hl q)⟩
 | step q0 q1 q2 ih=>
  refine .step ih ?_ ((yw hx).2 (.step q0 q1 q2));unfold outs at q1 |-;rw[(XW hx ((yw hx).2 q0)).2.2.1];exact q1
 | pair q1 q0 q2 ih=>
  refine .pair ?_ ih ((yw hx).2 (.pair q1 q0 q2));rw[e3];exact (w5 _ _).2 ⟨λq=>(bA.1 q).2 q0,q1⟩
theorem Fh:dR (gS x (dR x)) = []:=za2.2 λh hh=>by
 obtain⟨a,b⟩:=bA.1 hh;exact b (RE hx ((yw hx).1 a))
end
theorem ES{x:Hp}(hx:L1 x)(hg:dR x = []):zr x = []:=za2.2 λh hh=>by
 have hl:=(dm.1 hh).1;have hs:=(dm.1 hh).2;have hf:=Et hx hh;have h0:h≠0:=λe=>ff hx.sh.sr (e▸hl);have r:bk x.S x.T (GO x) h:=qr λr=>by
  have:h∈dR x:=bA.2 ⟨hl,r⟩;rw[hg] at this;cases this
 unfold lY at hf;cases r with
 | base h1 h2=>
  rcases (HG hx h1).2 with q | q
  .have:=jo.2 ⟨h0,q⟩;omega
  .omega
 | step q0 q1 q2=>
  have:=Dh (y:=h) q0.live;have h1:=jo.2 ⟨h0,q1⟩;omega
 | pair q1 q0 q2=>
  have:=DB q1 h0;omega
theorem yx{x:Hp}(hx:L1 x):bI (gS x (dR x))=gS x (dR x):=PD (ES (eh hx) (Fh hx))
theorem NO{c:Int}(h:0<=c):1<=Z8 c:=by unfold Z8;split <;> (try split) <;> omega
theorem HV{x:Hp}(hR:SR x.S){h:Int}(hh:h∈lv x.S){k:Int}(hk:k∈lv x.S):(ob (gN x h).S k).Strong=if k=h then Z8 (ob x.S k).Strong else (ob x.S k).Strong:=by
 have oko:=K9 hR hh;have ho:AR x.S (fN (ob x.S h)):=⟨oko.s1,oko.s2,oko.st,oko.wk,oko.p1,oko.p2,oko.fl⟩;have r1:=bZ (o:=fN (ob x.S h)) hR hh rfl ho;have l1:lv (dp x.S h (fN (ob x.S h)))=lv x.S:=iN (o:=fN (ob x.S h)) hR hh rfl ho;have hr:=H5 hR hk;have e1:(ob (dp x.S h (fN (ob x.S h))) k).Strong=(ob x.S k).Strong:=by
  rw[gx (o:=fN (ob x.S h)) hR hh rfl ho (by omega)];split;·rename_i e;subst e;rfl
  .rfl
 have:=vP (x:=⟨dp x.S h (fN (ob x.S h)),x.Roots,x.b7,x.T,⟨x.Q.L ++ [AU x h],x.Q.Cap⟩⟩) r1 (h:=h) (f:=Z8) (λc=>E9) (k:=k) (by
  show k∈lv (dp x.S h (fN (ob x.S h)));rw[l1];exact hk)
 rw[show (ob (gN x h).S k).Strong=_ from this];show (if k=h then Z8 (ob (dp x.S h (fN (ob x.S h))) k).Strong else (ob (dp x.S h (fN (ob x.S h))) k).Strong)=_;rw[e1]
theorem WJ{x:Hp}(hx:L1 x)(hz:zr x = []){h:Int}(hh:h∈lv x.S):zr (gN x h) = []:=za2.2 λk hk=>by
 obtain⟨a,b⟩:=dm.1 hk;rw[DF hx.sh.sr hh] at a;rw[HV hx.sh.sr hh a] at b;have h0:=(K9 hx.sh.sr a).st;have hn:(ob x.S k).Strong≠0:=λq=>by
  have:k∈zr x:=dm.2 ⟨a,q⟩;rw[hz] at this;cases this
 split at b;·have:=NO h0;omega
 .exact hn b
structure Qd (x y:Hp) (l:List Int):Prop where
 rt:L1 y
 sl:SL y
 zr:zr y = []
 lv:lv y.S=lv x.S
 ob:∀k∈Sh.lv x.S,∃n,Sh.ob y.S k=Bp (if k∈l then fN (Sh.ob x.S k) else Sh.ob x.S k) n
 ro:y.Roots=x.Roots
 ce:y.b7=x.b7
 t:y.T=x.T
 q:y.Q=⟨x.Q.L++l.map (AU x),x.Q.Cap⟩
 aR:y.S.Serial=x.S.Serial
theorem SO{x:Hp}(hR:SR x.S){h:Int}(hh:h∈lv x.S):(gN x h).S.Serial=x.S.Serial:=(ns hR hh).1.aR
theorem Ac:∀(l:List Int) {x:Hp},L1 x->SL x->Sh.zr x = []->l.Nodup->(∀h∈l,h∈Sh.lv x.S/\due (Sh.ob x.S h)=true)->Qd x (l.foldl gN x) l
 | [],x,hx,hS,hz,_,_=>⟨hx,hS,hz,rfl,λk hk=>⟨(Sh.ob x.S k).Strong,by rw[za (by simp)];rfl⟩,rfl,rfl,rfl,by simp,rfl⟩
 | h::l,x,hx,hS,hz,hn,hd=>by
  obtain⟨hl,hdu⟩:=hd h (zg ..);have hR:=hx.sh.sr;rw[me] at hn;have q2:=hdu;unfold due at q2;rw[zy,zG,zb7] at q2;have h1:=vH hx hl q2.1 q2.2;have h2:=Pe hR hS hl;have h3:=WJ hx hz hl;have lq:=DF hR hl;have oq:∀k∈Sh.lv x.S,k≠h->∃n,Sh.ob (gN x h).S k=Bp (Sh.ob x.S k) n:=λk hk hne=>by
   obtain⟨n,e⟩:=Ab hR hl hk;rw[za hne] at e;exact⟨n,e⟩
  have ih:=Ac l h1 h2 h3 hn.2 λk hk=>by
   obtain⟨a,b⟩:=hd k (zn _ hk);obtain⟨n,e⟩:=oq k a λe=>hn.1 (e▸hk);refine⟨by rw[lq];exact a,?_⟩;rw[e];exact b
  obtain⟨_,k1,k2,k3,k4⟩:=ns hR hl;refine⟨ih.rt,ih.sl,ih.zr,ih.lv.trans lq,λk hk=>?_,ih.ro.trans k1,ih.ce.trans k2,ih.t.trans k3,?_,ih.aR.trans (SO hR hl)⟩
  .obtain⟨n,e⟩:=ih.ob k (by rw[lq];exact hk);obtain⟨m,e2⟩:=Ab hR hl hk;refine⟨n,?_⟩;show Sh.ob (l.foldl gN (gN x h)).S k=_;rw[e];by_cases c:k=h
   .subst c;rw[za hn.1,zb (zg ..),e2,zb rfl]
   .rw[za c] at e2;by_cases c2:k∈l
    .rw[zb c2,zb (zn _ c2),e2]
    .rw[za c2,za (λq=>by
      rcases zM.1 q with r | r
      .exact c r
      .exact c2 r),e2]
  .show (l.foldl gN (gN x h)).Q=_;rw[ih.q,k4];have:l.map (AU (gN x h))=l.map (AU x):=zq λk hk=>by
    obtain⟨a,_⟩:=hd k (zn _ hk);obtain⟨n,e⟩:=oq k a λe=>hn.1 (e▸hk);show (⟨1,k,(Sh.ob (gN x h).S k).Prog⟩:g6)=⟨1,k,(Sh.ob x.S k).Prog⟩;rw[e]
   rw[this];simp
noncomputable def km(x:Hp):List Int:=(dR x).filter λh=>due (Sh.ob x.S h)
noncomputable def AT(x:Hp):Hp:=if km x = [] then gS x (dR x) else (km x).foldl gN x
theorem mR{x:Hp}:∀h∈km x,h∈Sh.lv x.S/\due (Sh.ob x.S h)=true:=λh hh=>by
 obtain⟨a,b⟩:=zk.1 hh;exact⟨(bA.1 a).1,b⟩
theorem ye{x:Hp}(hx:L1 x):(km x).Nodup:=zb6 _ (eW hx)
theorem MV{x:Hp}(hx:L1 x)(hS:SL x)(hz:zr x = []):Qd x ((km x).foldl gN x) (km x):=Ac _ hx hS hz (ye hx) mR
theorem Hm{x:Hp}(hx:L1 x)(hS:SL x)(hz:zr x = []):L1 (AT x)/\SL (AT x)/\zr (AT x) = []:=by
 unfold AT;split;·exact⟨eh hx,MW hx.sh.sr hS (eW hx) (cZ hx),ES (eh hx) (Fh hx)⟩
 .have q:=MV hx hS hz;exact⟨q.rt,q.sl,q.zr⟩
theorem Vj{y:Hp}(h:km y = []):AT y=gS y (dR y):=by
 unfold AT;rw[zb h]
section
variable{x:Hp}(hx:L1 x)
include hx
end
structure Rs (x:Hp) (n:Nat):Prop where
 rt:L1 x
 sl:SL x
 zr:zr x = []
 aR:x.S.Serial<=n
section
variable{x:Hp}(hx:L1 x)(hS:SL x)
include hx hS
theorem MY:V2 x=some (dR x):=by
 have hB:=Ya hx hS;unfold V2;rw[HE (y8.2 hx.sh.sr) hx.sh.hr hB.tb hB.fb hB.sb];rfl
theorem CV:(dR x).length<=24:=zO (zD ..) (K8 (y8.2 hx.sh.sr))
theorem UX:gF x=some (km x):=by
 have hR:=hx.sh.sr;have hl:=CV hx hS;unfold gF;rw[MY hx hS,a0q];unfold K7;simp only[jn];refine ss (a:=km x) ?_ rfl;refine Y8 (dR x).length (λk b=>b=((dR x).take k).filter λh=>due (Sh.ob x.S h)) (by omega) rfl (λk b hk hP=>?_) (λb hP=>?_)
 .subst hP;have hm:=cZ hx _ (zh hk);have hle:(((dR x).take k).filter λh=>due (Sh.ob x.S h)).length<=24:=zO (zD ..) (by simp;omega);refine .inl ⟨_,?_,rfl⟩;rw[zb (by simpa using hk),s7 hk,a0q,T2 hk,zbc];unfold iy;rw[yA hR hm,a0q,a0q];have e:(decide ((ob x.S (dR x)[k],(0:Int)).1.Prog>=0) && !(ob x.S (dR x)[k],(0:Int)).1.Started)=due (ob x.S (dR x)[k]):=rfl;rw[e];cases hd:due (ob x.S (dR x)[k])
  .rw[za (by simp),o0];simp[hd]
  .rw[zb rfl,J3 (by omega) (by simp;omega),a0q,o0];simp[hd]
 .subst hP;refine⟨_,za (by simp),?_⟩;rw[zW];rfl
noncomputable def MZ(x:Hp):Int:=if km x = [] then ((lv x.S).length:Int)-((lv (AT x).S).length:Int) else 0
omit hx hS in
theorem VX {l:List Int} (hn:l.Nodup) (hm:∀d∈l,d∈lv x.S):Zi x l=l:=by
 have key:∀(l b:List Int),(b++l).Nodup->(∀d∈l,d∈lv x.S)->l.foldl (λb h=>if h∈lv x.S/\h∉b then b ++ [h] else b) b=b++l:=by
  intro l;induction l with
  | nil=>intro b _ _;simp
  | cons a l ih=>
   intro b hn hm;rw[zal];have ha:a∉b:=λq=>by
    rw[zbu] at hn;exact hn.2.2 a q a (zg ..) rfl
   rw[zb ⟨hm a (zg ..),ha⟩,ih (b ++ [a]) (by simpa using hn) λd hd=>hm d (zn _ hd)];simp
 exact key l [] (by simpa using hn) hm
variable(hz:zr x = [])
include hz
theorem Tt{k:Nat}(hk:k<(km x).length):(((km x).take k).foldl gN x)=(((km x).take k).foldl gN x)/\L1 (((km x).take k).foldl gN x)/\SL (((km x).take k).foldl gN x)/\(km x)[k]∈lv (((km x).take k).foldl gN x).S/\due (ob (((km x).take k).foldl gN x).S (km x)[k])=true:=by
 have hn:=ye hx;have q:=Ac ((km x).take k) hx hS hz ((zb8 ..).nodup hn) λh hh=>mR h (zad hh);obtain⟨a,b⟩:=mR (km x)[k] (zh hk);refine⟨rfl,q.rt,q.sl,by rw[q.lv];exact a,?_⟩;obtain⟨n,e⟩:=q.ob _ a;have hnot:(km x)[k]∉(km x).take k:=λh=>by
  have:=T2 hk;have hs:((km x).take (k+1)).Nodup:=(zb8 ..).nodup hn;rw[this,zbu] at hs;exact hs.2.2 _ h _ (List.mem_singleton_self _) rfl
 rw[e,za hnot];exact b
theorem Jh:(km x).length<=24:=zO (zD ..) (CV hx hS)
theorem Vi:aT x=some (AT x,((km x).length:Int),MZ x):=by
 have hR:=hx.sh.sr;have hl:=Jh hx hS hz;obtain⟨c1,c2,c3⟩:=Hm hx hS hz;unfold aT;rw[UX hx hS,a0q];simp only[jn];refine Y8 (km x).length (λk b=>b=((km x).take k).foldl gN x) (by omega) rfl (λk b hk hP=>?_) (λb hP=>?_)
 .subst hP;obtain⟨_,r1,r2,r3,r4⟩:=Tt hx hS hz hk;refine .inl ⟨_,?_,rfl⟩;rw[zb (by simpa using hk),s7 hk,a0q,Cc r1 r2 (qV r1.sh.sr r3),a0q,o0,T2 hk,zaq];unfold Zm;rw[zb ⟨r3,r4⟩];rfl
 .subst hP;refine⟨_,za (by simp),?_⟩;rw[zW];by_cases hb:km x = []
  .have e:AT x=gS x (dR x):=Vj hb;rw[za (by simp[hb])];unfold MZ;rw[zb hb,e,hb];have h1:=eW hx;have h2:=cZ hx;have hlive:=fg (y8.2 hR);have hlive2:=fg (y8.2 (eh hx).sh.sr);have l1:=K8 (y8.2 hR);have l2:=K8 (y8.2 (eh hx).sh.sr);show (V2 x).bind _=_;rw[MY hx hS,a0q,List.foldl_nil,Jj hx h1 h2 (Td hx) (by rw[tI hR _ (by have:=CV hx hS;omega) λh hh=>qV hR (h2 h hh),VX h1 h2]),a0q,jB (eh hx) (by rw[<-e];exact c2),a0q,yx hx,hlive,a0q,hlive2,a0q,U2 (by omega) (by omega)];rfl
  .have:0<(km x).length:=List.length_pos_iff.2 hb;rw[zb (by simp;omega)];unfold MZ AT;rw[za hb,za hb]
end
theorem Ry{x:Hp}(hx:L1 x)(hS:SL x)(hz:zr x = []):(AT x).S.Serial=x.S.Serial:=by
 unfold AT;split
 .have g:=eX (dR x) hx.sh.sr (eW hx) (cZ hx);exact (ij ((dR x).flatMap (outs x.S)++(lE x.T (dR x)).2) (x:=jG x (dR x) (lE x.T (dR x)).1) g.sr).1.aR.trans g.aR
 .exact (MV hx hS hz).aR
def Sv(s s':b6):Prop:=s'.S.b7.length=s.S.b7.length/\∀i,i<s.S.b7.length->(ce s i).Gen<=(ce s' i).Gen/\((ce s' i).Gen=(ce s i).Gen->((ce s i).State≠0->(ce s' i).State≠0)/\((ce s' i).State=1->(ce s i).State=0\/((ce s i).State=1/\((ce s i).Val.Started=true->(ce s' i).Val.Started=true))))
theorem Sv.refl(s:b6):Sv s s:=⟨rfl,λi _=>⟨zae _,λ_=>⟨id,λh=>.inr ⟨h,id⟩⟩⟩⟩
theorem Sv.trans{a b c:b6}(h:Sv a b)(q:Sv b c):Sv a c:=by
 obtain⟨h1,h2⟩:=h;obtain⟨q1,q2⟩:=q;refine⟨q1.trans h1,λi hi=>?_⟩;obtain⟨a1,a2⟩:=h2 i hi;obtain⟨b1,b2⟩:=q2 i (by omega);refine⟨by omega,λe=>?_⟩;obtain⟨a3,a4⟩:=a2 (by omega);obtain⟨b3,b4⟩:=b2 (by omega);refine⟨λh=>b3 (a3 h),λh=>?_⟩;rcases b4 h with r | ⟨r,r'⟩
 .exact .inl (qr λn=>a3 n r)
 .rcases a4 r with k | ⟨k,k'⟩
  .exact .inl k
  .exact .inr ⟨k,λs=>r' (k' s)⟩
def IF(s:b6)(h:Int):Prop:=∃(i:Nat) (g:Int),i<s.S.b7.length/\h=1+(i:Int)+32*g/\(g<(ce s i).Gen\/(g=(ce s i).Gen/\(ce s i).State≠0/\((ce s i).State=1->(ce s i).Val.Started=true)))
theorem Sv.YP{s s':b6}(h:Sv s s'){k:Int}(q:IF s k):IF s' k:=by
 obtain⟨i,g,hi,e,q⟩:=q;obtain⟨h1,h2⟩:=h;obtain⟨a,b⟩:=h2 i hi;refine⟨i,g,by omega,e,?_⟩;rcases q with q | ⟨q1,q2,q3⟩
 .exact .inl (by omega)
 .by_cases c:(ce s' i).Gen=(ce s i).Gen
  .obtain⟨b1,b2⟩:=b c;refine .inr ⟨by omega,b1 q2,λr=>?_⟩;rcases b2 r with k | ⟨k1,k2⟩
   .exact absurd k q2
   .exact k2 (q3 k1)
  .exact .inl (by omega)
theorem Mh{s:b6}(hR:SR s){h:Int}(hh:h∈lv s)(hs:(ob s h).Started=false):¬IF s h:=by
 rintro⟨i,g,hi,e,q⟩;obtain⟨j,hj⟩:=(fU hR).1 hh;have hl:=hR.len;have hij:i=j:=by
  have:=hj.2.2;have:=hj.1;omega
 subst hij;have:=hj.2.2;rcases q with q | ⟨q1,q2,q3⟩
 .omega
 .rw[F7 hR hj,q3 hj.2.1] at hs;cases hs
theorem vY.sv{s s':b6}(hR:SR s)(k:vY s s'):Sv s s':=⟨k.len,λi hi=>by
 obtain⟨a,b,_,_,_⟩:=k.ce i hi;refine⟨by omega,λ_=>⟨by omega,λh=>.inr ⟨by omega,λq=>?_⟩⟩⟩;have h1:At s (cv s i) i:=⟨hi,by omega,rfl⟩;have h2:At s' (cv s i) i:=⟨by rw[k.len];exact hi,h,by rw[b];rfl⟩;have hl:=H5 hR ((fU hR).2 ⟨i,h1⟩);obtain⟨n,e⟩:=k.ob (cv s i) (by omega);rw[F7 k.sr h2,F7 hR h1] at e;rw[e];exact q⟩
theorem Py{s:b6}(hR:SR s){h:Int}(hh:h∈lv s){o:n0}(hs:o.Serial=(ob s h).Serial)(ho:AR s o)(hst:(ob s h).Started=true->o.Started=true):Sv s (dp s h o):=⟨Kt s h o,λi hi=>by
 have q:=o7 hR hh;rw[Aq hR hh hs ho];split
 .rename_i e;subst e;refine⟨zae _,λ_=>⟨id,λr=>.inr ⟨q.2.1,λk=>hst ?_⟩⟩⟩;rw[F7 hR q];exact k
 .exact⟨zae _,λ_=>⟨id,λr=>.inr ⟨r,id⟩⟩⟩⟩
theorem On{s:b6}(hR:SR s){i:Nat}(hi:i<s.S.b7.length)(ht:Th (ce s i))(d:Int):Sv s (lS s i d):=⟨K3 ..,λj hj=>by
 rw[fk hR hi ht];split
 .rename_i e;subst e;exact⟨zae _,λ_=>⟨id,λr=>.inr ⟨r,id⟩⟩⟩
 .exact⟨zae _,λ_=>⟨id,λr=>.inr ⟨r,id⟩⟩⟩⟩
theorem VE{s:b6}{i:Nat}(hi:i<s.S.b7.length):Sv s (Ew s i):=⟨W6 ..,λj hj=>by
 unfold Ew;rw[L4 hi];by_cases e:j=i
 .subst e;rw[zb rfl];split;·exact⟨zae _,λ_=>⟨λ_=>(by decide:(3:Int)≠0),λr=>absurd (show (3:Int)=1 from r) (by decide)⟩⟩
  .refine⟨by show _<=(ce s j).Gen+1;omega,λr=>?_⟩;have:(ce s j).Gen+1=(ce s j).Gen:=r;omega
 .rw[za e];exact⟨zae _,λ_=>⟨id,λr=>.inr ⟨r,id⟩⟩⟩⟩
theorem Gn.sv{s s':b6}{ds:List Int}(g:Gn s s' ds):Sv s s':=⟨g.len,λj hj=>by
 rw[g.ce];split
 .unfold GM;split
  .split;·exact⟨zae _,λ_=>⟨λ_=>(by decide:(3:Int)≠0),λr=>absurd (show (3:Int)=1 from r) (by decide)⟩⟩
   .refine⟨by show _<=(Sh.ce s j).Gen+1;omega,λr=>?_⟩;have:(Sh.ce s j).Gen+1=(Sh.ce s j).Gen:=r;omega
  .exact⟨zae _,λ_=>⟨λ_=>(by decide:(2:Int)≠0),λr=>absurd (show (2:Int)=1 from r) (by decide)⟩⟩
 .exact⟨zae _,λ_=>⟨id,λr=>.inr ⟨r,id⟩⟩⟩⟩
theorem Yr{s:b6}(hR:SR s){i:Nat}(hi:i<s.S.b7.length)(h0:(ce s i).State=0){n:Nat}(hn:n<=4){p:Int}(hp : -1<=p/\p<=5):Sv s (dJ s i n p):=⟨jS hR hi h0 hn hp,λj hj=>by
 rw[lT hR hi h0 hn hp];split
 .rename_i e;subst e;exact⟨zae _,λ_=>⟨λr=>absurd h0 r,λ_=>.inl h0⟩⟩
 .exact⟨zae _,λ_=>⟨id,λr=>.inr ⟨r,id⟩⟩⟩⟩
theorem Ij{x:Hp}(hR:SR x.S)(h:Int):Sv x.S (F0 x h).S:=(I4 hR h (f:=Z8) λc=>E9).sv hR
theorem DS{x:Hp}(hR:SR x.S)(h:Int):Sv x.S (aN x h).S:=(I4 hR h (f:=lu) λc=>Q1).sv hR
theorem Gr{x:Hp}(hR:SR x.S)(r:Nat)(h:Int):Sv x.S (G8 x r h).S:=
 (Ij hR h).trans (DS (x:=wR (F0 x h) (x.Roots.set r h)) (ka hR h) _)
theorem Ln{x:Hp}(hR:SR x.S){h:Int}(hh:h∈lv x.S){n:Nat}(hn:n<(ob x.S h).Fields.length)(v:Int):Sv x.S (bQ x h n v).S:=by
 have k1:=DU hR v;have hh1:h∈lv (F0 x v).S:=by rw[k1.lv];exact hh
 have hof:(ob (F0 x v).S h).Fields=(ob x.S h).Fields:=by
  obtain⟨n,e⟩:=(I4 hR v (f:=Z8) λc=>E9).ob h (by have:=H5 hR hh;omega);show (ob (uA x v Z8).S h).Fields=_;rw[e]
 have ho:AR (F0 x v).S (rF (ob (F0 x v).S h) ((ob x.S h).Fields.set n v)):=by
  have:=K9 k1.sr hh1;refine⟨this.s1,this.s2,this.st,this.wk,this.p1,this.p2,?_⟩;have h4:=this.fl;rw[hof] at h4;simpa using h4
 have k2:=Py (o:=rF (ob (F0 x v).S h) ((ob x.S h).Fields.set n v)) k1.sr hh1 rfl ho id;exact ((Ij hR v).trans k2).trans (DS (x:=wS (F0 x v) (dp (F0 x v).S h (rF (ob (F0 x v).S h) ((ob x.S h).Fields.set n v)))) (bZ (o:=rF (ob (F0 x v).S h) ((ob x.S h).Fields.set n v)) k1.sr hh1 rfl ho) _)
theorem OT{x:Hp}(hR:SR x.S)(v:Int)(t:Tb)(old:Int):Sv x.S (iU x v t old).S:=
 (Ij hR v).trans (DS (x:=wT (F0 x v) t) (ka hR v) old)
theorem We{x:Hp}(hR:SR x.S)(h d:Int):Sv x.S (iD x h d).S:=by
 unfold iD;split
 .rename_i q;exact On hR q.1 q.2.1 d
 .exact Sv.refl _
theorem Ty{x:Hp}(hR:SR x.S)(h:Int):Sv x.S (pP x h).S:=by
 unfold pP;split
 .rename_i q;have k:=On hR q.1 q.2.1 (-1);split;·exact k.trans (VE (by rw[k.1];exact q.1))
  .exact k
 .exact Sv.refl _
theorem PR{x:Hp}(hx:L1 x)(n:Nat)(h call:Int):Sv x.S (cV x n h call).S:=by
 have hR:=hx.sh.sr;unfold cV;have s1:Sv x.S (iD (wC x (x.b7.set n (fR h call))) h 1).S:=We (x:=wC x (x.b7.set n (fR h call))) hR h 1;refine s1.trans (Ty ?_ _);unfold iD;split
 .rename_i q;have:=(hR.ok _ q.1 q.2.1).wk;exact vp hR q.1 q.2.1 (by omega)
 .exact hR
theorem UY{x:Hp}(hR:SR x.S){ds:List Int}(hn:ds.Nodup)(hm:∀d∈ds,d∈lv x.S):Sv x.S (gS x ds).S:=by
 have g:=eX ds hR hn hm;exact g.sv.trans ((ij (ds.flatMap (outs x.S)++(lE x.T ds).2) (x:=jG x ds (lE x.T ds).1) g.sr).1.sv g.sr)
theorem WI{x:Hp}(hR:SR x.S){h:Int}(hh:h∈lv x.S):Sv x.S (gN x h).S:=by
 have oko:=K9 hR hh;have ho:AR x.S (fN (ob x.S h)):=⟨oko.s1,oko.s2,oko.st,oko.wk,oko.p1,oko.p2,oko.fl⟩;exact (Py (o:=fN (ob x.S h)) hR hh rfl ho λ_=>rfl).trans ((ns hR hh).1.sv (bZ (o:=fN (ob x.S h)) hR hh rfl ho))
theorem Xi{x:Hp}(hx:L1 x):Sv x.S (GQ x).S:=by
 cases h:zr x with
 | nil=>rw[nM h];exact Sv.refl _
 | cons z l=>
  have hz:z∈zr x:=by rw[h];exact zg ..
  have hzl:=(dm.1 hz).1;rw[kf h];split;·exact WI hx.sh.sr hzl
  .exact UY hx.sh.sr (by simp) (by simpa using hzl)
theorem Xf{x:Hp}(hx:L1 x)(n:Nat):Sv x.S (oD n x).S:=by
 induction n with
 | zero=>exact Sv.refl _
 | succ n ih=>rw[fO];exact ih.trans (Xi (Q3 hx n))
theorem Tk{x:Hp}(hx:L1 x):Sv x.S (bI x).S:=Xf hx 100
structure Fw (x y:Hp):Prop where
 sv:Sv x.S y.S
 q:∃l,y.Q=⟨x.Q.L++l,x.Q.Cap⟩/\∀t∈l,t.Kind=1->¬IF x.S t.At
theorem Fw.of{x y:Hp}(h:Sv x.S y.S)(q:y.Q=x.Q):Fw x y:=⟨h,[],by rw[q,zat],λt ht=>by cases ht⟩
theorem Fw.refl(x:Hp):Fw x x:=Fw.of (Sv.refl _) rfl
theorem Fw.trans{x y z:Hp}(a:Fw x y)(b:Fw y z):Fw x z:=by
 obtain⟨l,q1,q2⟩:=a.q;obtain⟨m,r1,r2⟩:=b.q;refine⟨a.sv.trans b.sv,l++m,by rw[r1,q1,zah],λt ht hk=>?_⟩;rcases zu.1 ht with h | h
 .exact q2 t h hk
 .exact λs=>r2 t h hk (a.sv.YP s)
theorem Ea{x:Hp}(hx:L1 x):Fw x (bI x):=by
 obtain⟨l,q1,q2,_⟩:=(mo hx).q;exact⟨Tk hx,l,q1,λt ht hk=>Mh hx.sh.sr (q2 t ht hk).1 (q2 t ht hk).2⟩
theorem jY{x:Hp}(hR:SR x.S)(r:Nat)(h:Int):Fw x (G8 x r h):=Fw.of (Gr hR r h) (jZ x r h).2.2.2
theorem XP{x:Hp}(hx:L1 x)(hS:SL x)(hz:zr x = [])(hb:x.S.Serial<9223372036854775807)(o:k8):(∃e,Er x o e)\/∃z v,Dn x o z v/\Fw x z:=by
 have hR:=hx.sh.sr;obtain⟨k,a,b,c⟩:=o;by_cases hc:y6 k a b c=0
 .have:=tG hc;have hk:k=1\/k=2\/k=3\/k=4\/k=5\/k=6\/k=7\/k=8\/k=9\/k=10\/k=11\/k=12:=by omega
  rcases hk with rfl | rfl | rfl | rfl | rfl | rfl | rfl | rfl | rfl | rfl | rfl | rfl
  .rcases d1 hx hS hb hc with ⟨e,_,h⟩ | ⟨hn,hcc,i,hF,h⟩;·exact .inl ⟨e,h⟩
   .obtain⟨hi,h0,_⟩:=hF;have k1:Fw x (wS x (dJ x.S i b.toNat c)):=Fw.of (Yr hR hi h0 hn hcc) rfl;exact .inr ⟨_,_,h,k1.trans (jY (x:=wS x (dJ x.S i b.toNat c)) (FN hR hi h0 hn hcc) _ _)⟩
  .exact .inr ⟨_,_,d2 hx hS hc,jY hR _ _⟩
  .exact .inr ⟨_,_,d3 hx hS hc,jY hR _ _⟩
  .rcases d4 hx hS hc with ⟨_,h⟩ | ⟨e,_,h⟩ | ⟨_,n,_,_,h⟩;·exact .inl ⟨_,h⟩
   .exact .inl ⟨_,h⟩
   .exact .inr ⟨_,_,h,jY hR _ _⟩
  .rcases d5 hx hS hc with ⟨_,h⟩ | ⟨e,_,h⟩ | ⟨hl,n,_,hn,h⟩;·exact .inl ⟨_,h⟩
   .exact .inl ⟨_,h⟩
   .exact .inr ⟨_,_,h,Fw.of (Ln hR hl hn _) (oU _ _ _ _).2.2.2⟩
  .rcases d6 hx hS hc with ⟨_,h⟩ | ⟨e,_,h⟩ | ⟨_,h⟩;·exact .inl ⟨_,h⟩
   .exact .inl ⟨_,h⟩
   .exact .inr ⟨_,_,h,Fw.of (PR hx _ _ _) (AK _ _ _ _).2.2.2⟩
  .obtain⟨_,⟨_,h⟩ | ⟨_,h⟩⟩:=d7 hx hS hc;·exact .inl ⟨_,h⟩
   .exact .inr ⟨_,_,h,jY hR _ _⟩
  .rcases d8 hx hS hc with ⟨_,h⟩ | ⟨_,e,_,h⟩ | ⟨_,r,_,_,h⟩;·exact .inl ⟨_,h⟩
   .exact .inl ⟨_,h⟩
   .exact .inr ⟨_,_,h,Fw.of (OT hR _ _ _) (rT _ _ _ _).2.2.2⟩
  .rcases d9 hx hS hc with ⟨_,h⟩ | ⟨_,_,h⟩ | ⟨_,v,_,h⟩;·exact .inl ⟨_,h⟩
   .exact .inl ⟨_,h⟩
   .exact .inr ⟨_,_,h,jY hR _ _⟩
  .exact .inr ⟨_,_,d10 hx hS hz hc,Fw.refl x⟩
  .obtain⟨h1,h2⟩:=CO (x:=x) (a:=a) (b:=b) (c:=c) (.inl rfl) hc;exact .inl ⟨14,by decide,h1,h2⟩
  .obtain⟨h1,h2⟩:=CO (x:=x) (a:=a) (b:=b) (c:=c) (.inr rfl) hc;exact .inl ⟨14,by decide,h1,h2⟩
 .obtain⟨h1,h2⟩:=Nm (x:=x) (o:=⟨k,a,b,c⟩) hc;exact .inl ⟨_,hc,h1,h2⟩
theorem Vo{x:Hp}(hx:L1 x)(hS:SL x)(hz:zr x = [])(hb:x.S.Serial<9223372036854775807)(o:k8):Fw x (ju x o).1:=by
 rcases XP hx hS hz hb o with ⟨e,_,h,_⟩ | ⟨z,v,d,f⟩
 .have:ju x o=(x,0,e):=by unfold ju;rw[h];rfl
  rw[this];exact Fw.refl x
 .have:ju x o=(bI z,v,0):=by unfold ju;rw[d.mc];rfl
  rw[this];exact f.trans (Ea d.rt)
theorem YL{x:Hp}(h1:jt x)(h2:Wk x){L:List Int}(h3:aS x L){r:Nat}(hr:r<6){h:Int}(hh:h=0\/h∈lv x.S):jt (G8 x r h)/\Wk (G8 x r h)/\aS (G8 x r h) L:=by
 have wW:=I4 h1.sr h (f:=Z8) λc=>E9;have l1:lv (F0 x h).S=lv x.S:=wW.lv;have f1:aS (F0 x h) (h::L):=Gs h1.sr h3 h;have s1:jt (F0 x h):=h1.st h (f:=Z8) λc=>E9;have s2:jt (wR (F0 x h) (x.Roots.set r h)):=s1.roots (by rw[zap];exact h1.r6) λv hv=>by
  rw[l1];rcases za3 hv with q | q
  .exact h1.rt v q
  .exact q▸hh
 have w1:Wk (F0 x h):=h2.st h1.sr h (f:=Z8) λc=>E9;have one:∀v k,T3 [v] k=if v=k/\k≠0 then 1 else 0:=λv k=>by rw[I8,J1,zaj]
 have f2:aS (wR (F0 x h) (x.Roots.set r h)) (x.Roots.getD r 0::L):=f1.mv rfl (λ_ _=>rfl) λk hk=>by
  have:=xK (l:=x.Roots) (r:=r) (by rw[h1.r6];exact hr) h k;rw[one,one] at this;rw[pB x h];unfold lY oz;dsimp only;rw[G4,G4,pN,pN,I8 h L,I8 (x.Roots.getD r 0) L];omega
 exact⟨s2.st _ λc=>Q1,Wk.st (x:=wR (F0 x h) (x.Roots.set r h)) w1 s2.sr _ λc=>Q1,um (x:=wR (F0 x h) (x.Roots.set r h)) s2.sr f2⟩
abbrev uR(x:Hp)(ts:List g6):Hp:=wQ x ⟨ts,x.Q.Cap⟩
noncomputable def wP(x:Hp)(ts:List g6)(h:Int):Hp:=aN (G8 (uR x ts) 5 h) h
section
variable{x:Hp}(hx:L1 x){t:g6}{ts:List g6}(hq:x.Q.L=t::ts)
include hx hq
theorem Eh:jt (uR x ts):=by
 have h:=hx.sh;refine⟨h.sr,h.hr,h.r6,h.c6,h.cap,?_,λu hu=>h.tk u (by rw[hq];exact zn _ hu),?_,h.rt,h.fl,h.pr,λi hi=>?_⟩
 .have:=h.q30;rw[hq,zH] at this;show ts.length<=30;omega
 .have:=h.td;rw[hq,zbb] at this;exact this.2
 .obtain⟨a,b,c,d,e⟩:=h.cl i hi;refine⟨a,b,c,d,λq=>⟨(e q).1,?_⟩⟩;have:=(e q).2;rw[zbm] at this |-;intro r;obtain⟨u,hu,k1,k2⟩:=gR.1 r;exact this (gR.2 ⟨u,by rw[hq];exact zn _ hu,k1,k2⟩)
theorem GC:aS (uR x ts) (if t.Kind=1 then [t.At] else []):=hx.fair.mv rfl (λ_ _=>rfl) λh _=>by
 unfold lY oz pc;dsimp only;rw[hq,or];by_cases k:t.Kind=1
 .rw[zb k,zb (by simpa using k),zU,G4,G4,I8 t.At (List.map _ _),I8 t.At [],J1];omega
 .rw[za k,za (by simpa using k),J1]
theorem Hh(hk:t.Kind≠1):L1 (uR x ts):=⟨Eh hx hq,hx.wk,by have:=GC hx hq;rwa [za hk] at this⟩
theorem Hz(hk:t.Kind=1):t.At∈lv x.S/\(ob x.S t.At).Started=true:=by
 rcases (hx.sh.tk t (by rw[hq];exact zg ..)).2.2 with ⟨_,b,c⟩ | ⟨b,_⟩;·exact⟨b,c⟩
 .omega
theorem lL(hk:t.Kind=1):L1 (wP x ts t.At):=by
 have f:=GC hx hq;rw[zb hk] at f;obtain⟨a,b,c⟩:=YL (Eh hx hq) (x:=uR x ts) hx.wk f (r:=5) (by decide) (.inr (Hz hx hq hk).1);exact⟨a.st _ λc=>Q1,b.st a.sr _ λc=>Q1,um a.sr c⟩
omit hq in
theorem Nx (hS:SL x) (h:Int):SL (wP x ts h):=by
 have k:=pz (x:=uR x ts) hx.sh.sr hS 5 h;exact DQ [h] (dC (x:=uR x ts) hx.sh.sr 5 h).sr k
omit hq in
theorem Vs (h:Int):Ks x.S (wP x ts h).S:=by
 have k:=dC (x:=uR x ts) hx.sh.sr 5 h;exact k.trans (DR k.sr h)
omit hq in
theorem Nw (h:Int):(wP x ts h).Roots=x.Roots.set 5 h/\(wP x ts h).b7=x.b7/\(wP x ts h).T=x.T/\(wP x ts h).Q=⟨ts,x.Q.Cap⟩:=by
 obtain⟨a,b,c,d⟩:=Ak (G8 (uR x ts) 5 h) h;obtain⟨a',b',c',d'⟩:=jZ (uR x ts) 5 h;exact⟨a.trans a',b.trans b',c.trans c',d.trans d'⟩
omit hq in
theorem Vr (h:Int):Fw (uR x ts) (wP x ts h):=Fw.of ((Gr (x:=uR x ts) hx.sh.sr 5 h).trans (DS (dC (x:=uR x ts) hx.sh.sr 5 h).sr h)) (Nw hx h).2.2.2
end
def FW(ps:List (List k8))(n:Int):List k8:=if n<0\/(ps.length:Int)<=n then [] else ps.getD n.toNat []
noncomputable def pre(x:Hp)(t:g6)(ts:List g6):Hp:=if t.Kind=1 then bI (wP x ts t.At) else uR x ts
noncomputable def WK(ps:List (List k8))(x:Hp)(t:g6)(ts:List g6):Hp:=(runs (pre x t ts) (FW ps t.Prog)).1
noncomputable def Lj(ps:List (List k8))(x:Hp)(t:g6)(ts:List g6):Hp:=if t.Kind=1 then bI (G8 (WK ps x t ts) 5 0) else WK ps x t ts
structure Oh (x:Hp):Prop where
 rt:L1 x
 sl:SL x
 zr:zr x = []
theorem Xs.ok{x y:Hp}{o:k8}{v e:Int}(n:Xs x o y v e):Oh y:=⟨n.rt,n.sl,n.zr⟩
theorem Ku{x:Hp}(h:L1 x)(s:SL x):Oh (bI x):=⟨nH h,Kv h s,Ci h⟩
theorem Pu{x:Hp}(hx:Oh x)(l:List k8)(hb:x.S.Serial+l.length<9223372036854775807):Oh (runs x l).1/\Fw x (runs x l).1/\(runs x l).1.S.Serial<=x.S.Serial+l.length/\(runs x l).2.length=l.length:=by
 have key:∀k,k<=l.length->Oh (runs x (l.take k)).1/\Fw x (runs x (l.take k)).1/\(runs x (l.take k)).1.S.Serial<=x.S.Serial+k/\(runs x (l.take k)).2.length=k:=by
  intro k;induction k with
  | zero=>exact λ_=>⟨hx,Fw.refl x,by show x.S.Serial<=_;omega,rfl⟩
  | succ k ih=>
   intro hk;obtain⟨a,b,c,d⟩:=ih (by omega);have hk':k<l.length:=by omega
   have n:=tW a.rt a.sl a.zr (by omega) l[k];rw[T2 hk',qn];exact⟨n.ok,b.trans (Vo a.rt a.sl a.zr (by omega) _),by have:=n.ev.s2;show (ju _ _).1.S.Serial<=_;omega,by simp[d]⟩
 have:=key l.length (zF _);rwa [zW] at this
section
variable{x:Hp}(hx:Oh x){t:g6}{ts:List g6}(hq:x.Q.L=t::ts)(ps:List (List k8))
include hx hq
theorem HS:Oh (pre x t ts):=by
 unfold pre;split
 .rename_i k;exact Ku (lL hx.rt hq k) (Nx hx.rt hx.sl _)
 .rename_i k;exact⟨Hh hx.rt hq k,hx.sl,hx.zr⟩
theorem Wz:Fw (uR x ts) (pre x t ts):=by
 unfold pre;split
 .rename_i k;exact (Vr hx.rt _).trans (Ea (lL hx.rt hq k))
 .exact Fw.refl _
theorem DC:(pre x t ts).S.Serial=x.S.Serial:=by
 unfold pre;split
 .rename_i k;rw[(mo (lL hx.rt hq k)).aR,(Vs hx.rt _).aR]
 .rfl
variable(hb:x.S.Serial+(FW ps t.Prog).length<9223372036854775807)
include hb
theorem DN:Oh (WK ps x t ts)/\Fw (uR x ts) (WK ps x t ts)/\(WK ps x t ts).S.Serial<=x.S.Serial+(FW ps t.Prog).length:=by
 have e:=DC hx hq;obtain⟨a,b,c,_⟩:=Pu (HS hx hq) (FW ps t.Prog) (by rw[e];exact hb);exact⟨a,(Wz hx hq).trans b,by rw[e] at c;exact c⟩
theorem RC:Oh (Lj ps x t ts)/\Fw (uR x ts) (Lj ps x t ts)/\(Lj ps x t ts).S.Serial<=x.S.Serial+(FW ps t.Prog).length/\(t.Kind=1->sd (Lj ps x t ts) 5=0):=by
 obtain⟨a,b,c⟩:=DN hx hq ps hb;unfold Lj;split
 .have hz:=bY a.rt (r:=5) (by decide) (h:=0) (.inl rfl);have k:=dC a.rt.sh.sr 5 0;refine⟨Ku hz (pz a.rt.sh.sr a.sl 5 0),(b.trans (jY a.rt.sh.sr 5 0)).trans (Ea hz),?_,λ_=>(vJ a.rt (a:=5) (by decide) (h:=0) (.inl rfl)).1⟩;rw[(mo hz).aR,k.aR];exact c
 .exact⟨a,b,c,λq=>absurd q (by assumption)⟩
end
def BD(ps:List (List k8))(t:g6):Int:=1+((FW ps t.Prog).length:Int)
def can(ps:List (List k8))(p:Hp × Int):Prop:=∃t ts,p.1.Q.L=t::ts/\BD ps t<=p.2
noncomputable def Wh(ps:List (List k8))(p:Hp × Int):Hp × Int:=match p.1.Q.L with
 | []=>p
 | t::ts=>if BD ps t<=p.2 then (Lj ps p.1 t ts,p.2-BD ps t) else p
noncomputable def dN(ps:List (List k8)):Nat->Hp × Int->Hp × Int
 | 0,p=>p
 | n+1,p=>dN ps n (Wh ps p)
section
variable(ps:List (List k8))
theorem sM(n:Nat)(p:Hp × Int):dN ps (n+1) p=Wh ps (dN ps n p):=by
 induction n generalizing p with
 | zero=>rfl
 | succ n ih=>exact ih (Wh ps p)
theorem Sj{p:Hp × Int}(h:p.1.Q.L = []):Wh ps p=p:=by unfold Wh;rw[h]
theorem pq{p:Hp × Int}{t:g6}{ts:List g6}(h:p.1.Q.L=t::ts):Wh ps p=if BD ps t<=p.2 then (Lj ps p.1 t ts,p.2-BD ps t) else p:=by unfold Wh;rw[h]
theorem EO{p:Hp × Int}{t:g6}{ts:List g6}(h:p.1.Q.L=t::ts):can ps p↔BD ps t<=p.2:=by
 constructor
 .rintro⟨u,us,e,c⟩;rw[h] at e;injection e with e1 e2
  rw[e1];exact c
 .exact λc=>⟨t,ts,h,c⟩
theorem sL(t:g6):1<=BD ps t:=by unfold BD;omega
theorem Jn{p:Hp × Int}(hb:0<=p.2):∃n:Nat,(n:Int)<=p.2/\¬can ps (dN ps n p)/\∀j,j<n->can ps (dN ps j p):=by
 have key:∀m:Nat,(∃n:Nat,n<=m/\¬can ps (dN ps n p))\/((dN ps m p).2+m<=p.2/\0<=(dN ps m p).2):=by
  intro m;induction m with
  | zero=>exact .inr ⟨by show p.2+((0:Nat):Int)<=_;omega,hb⟩
  | succ m ih=>
   rcases ih with ⟨n,h1,h2⟩ | ⟨h1,h2⟩;·exact .inl ⟨n,by omega,h2⟩
   .by_cases q:can ps (dN ps m p)
    .right;obtain⟨t,ts,e,c⟩:=q;have:=sL ps t;rw[sM,pq ps e,zb c];dsimp only;omega
    .exact .inl ⟨m,by omega,q⟩
 have hex:∃n:Nat,(n:Int)<=p.2/\¬can ps (dN ps n p):=by
  rcases key (p.2.toNat+1) with ⟨n,h1,h2⟩ | ⟨h1,h2⟩
  .rcases zE n (p.2.toNat+1) with q | q
   .exact⟨n,by omega,h2⟩
   .have hn:n=p.2.toNat+1:=by omega
    rcases key p.2.toNat with ⟨n,h1,h2⟩ | ⟨h1,h3⟩;·exact⟨n,by omega,h2⟩
    .refine⟨p.2.toNat,by omega,λ⟨t,ts,e,c⟩=>?_⟩;have:=sL ps t;omega
  .omega
 obtain⟨n,⟨hn,hz⟩,hmin⟩:=dQ hex;refine⟨n,hn,hz,λj hj=>qr λq=>?_⟩;have:=hmin j ⟨by omega,q⟩;omega
theorem CK{p:Hp × Int}(hx:Oh p.1)(hb:0<=p.2)(hs:p.1.S.Serial+p.2<9223372036854775807):∀n,Oh (dN ps n p).1/\0<=(dN ps n p).2/\(dN ps n p).2<=p.2/\(dN ps n p).1.S.Serial+(dN ps n p).2<=p.1.S.Serial+p.2
 | 0=>⟨hx,hb,zae _,zae _⟩
 | n+1=>by
  obtain⟨a,b,c,d⟩:=CK hx hb hs n;rw[sM];cases e:(dN ps n p).1.Q.L with
  | nil=>rw[Sj ps e];exact⟨a,b,c,d⟩
  | cons t ts=>
   rw[pq ps e];split
   .rename_i q;have q2:=q;unfold BD at q2;obtain⟨r1,_,r3,_⟩:=RC a e ps (by omega);refine⟨r1,?_,?_,?_⟩;·dsimp only;omega
    .have:=sL ps t;dsimp only;omega
    .dsimp only;unfold BD;omega
   .exact⟨a,b,c,d⟩
end
noncomputable def dn(ps:List (List k8))(p:Hp × Int):Nat:=if h:0<=p.2 then Classical.choose (Jn ps h) else 0
theorem Jq(ps:List (List k8)){p:Hp × Int}(h:0<=p.2):(dn ps p:Int)<=p.2/\¬can ps (dN ps (dn ps p) p)/\∀j,j<dn ps p->can ps (dN ps j p):=by
 unfold dn;rw[dif_pos h];exact zav (Jn ps h)
noncomputable def dr(ps:List (List k8))(p:Hp × Int):Hp × Int:=dN ps (dn ps p) p
theorem XQ(ps:List (List k8)){x:Hp}{f:Int}(hx:Oh x)(hf:0<=f)(hs:x.S.Serial+f<9223372036854775807):Oh (dr ps (x,f)).1/\0<=(dr ps (x,f)).2/\(dr ps (x,f)).2<=f/\(dr ps (x,f)).1.S.Serial+(dr ps (x,f)).2<=x.S.Serial+f:=CK ps (p:=(x,f)) hx hf hs _
section
variable{x:Hp}(hx:jt x)(hS:∀k∈lv x.S,(ob x.S k).Strong<=9223372036854775807)
include hx hS
theorem VW{h:Int}(hh:h=0\/h∈lv x.S):h<=9223372036854775807:=by
 rcases hh with q | q
 .omega
 .have:=H5 hx.sr q;omega
theorem Pq(k:Int){h:Int}(hh:h<=9223372036854775807):cC x k h=some (if k<0\/5<k then (x,6) else if h=0\/h∈lv x.S then (G8 x k.toNat h,0) else (x,3)):=by
 have hR:=hx.sr;have r6:=hx.r6;unfold cC;by_cases hk:k<0\/5<k
 .rw[zb hk,zb (by rw[r6];simp;omega)]
 .rw[za hk,za (by rw[r6];simp;omega),N8 hR hh,a0q];by_cases hn:h=0\/h∈lv x.S
  .rw[zb hn,zC hn,za (by simp)];obtain⟨n,rfl⟩:∃n:Nat,k=n:=⟨k.toNat,by omega⟩;have hn6:n<6:=by omega
   have hnl:n<x.Roots.length:=by omega
   have old:x.Roots[n]<=9223372036854775807:=VW hx hS (hx.rt _ (zh hnl));have e1:=uu x h;have hn2:n<(F0 x h).Roots.length:=by rw[e1.1];exact hnl
   rw[s7 hnl,a0q];unfold H2 T6 y9;rw[mj hR hh hS,a0q];dsimp only;rw[dI (by omega) (by rw[e1.1];omega),a0q,s7 hn2,a0q,a0q];have hrel:=gw (x:=wR (F0 x h) (x.Roots.set n h)) (ka hR h) old;rw[zP,e1.1,show E4 ⟨(F0 x h).S,x.Roots.set n h,(F0 x h).b7,(F0 x h).T,(F0 x h).Q⟩ x.Roots[n]=_ from hrel];unfold G8;rw[zd,zc hnl];rfl
  .rw[za hn,zQ hn,zb (by simp)]
end
theorem vE(ps:List (List k8))(n:Int):dP ps n=some (FW ps n):=by
 unfold dP FW;by_cases h:n<0\/(ps.length:Int)<=n
 .rw[zb (by simpa using h),zb h]
 .rw[za (by simpa using h),za h];obtain⟨k,rfl⟩:∃k:Nat,n=k:=⟨n.toNat,by omega⟩;have hk:k<ps.length:=by omega
  rw[s7 hk,a0q,zP,zd,zc hk];rfl
abbrev Zl(ps:List (List k8)):List (List fF):=ps.map (List.map opR)
def Mp(ps:List (List k8)):Prop:=∀p∈ps,p.length<=6
theorem DD{ps:List (List k8)}(h:Mp ps)(n:Int):(FW ps n).length<=6:=by
 unfold FW;split;·simp
 .rename_i q;have hk:n.toNat<ps.length:=by omega
  rw[zd,zc hk];exact h _ (zh hk)
theorem xu{ps:List (List k8)}(h:Mp ps)(t:g6):bP ps t=some (BD ps t):=by
 have:=DD h t.Prog;unfold bP BD;rw[vE,a0q,U2 (by omega) (by omega)]
theorem Hr(x:Hp):gV x=some (x.Q.L.isEmpty):=by
 unfold gV;rw[Ay,a0q];unfold Tu;cases x.Q.L <;> rfl
section
variable{x:Hp}(hx:Oh x){t:g6}{ts:List g6}(hq:x.Q.L=t::ts){ps:List (List k8)}(hm:Mp ps)(hb:x.S.Serial<9000000000000000000)
include hx hq hm hb
theorem PN:mW x ps=some (Lj ps x t ts,t,0):=by
 have eF:=DD hm t.Prog;have pok:=HS hx hq;have pser:=DC hx hq;obtain⟨rok,_,_⟩:=DN hx hq ps (by omega);have hrun:=(run_eq pok.rt pok.sl pok.zr (FW ps t.Prog) (by omega) (by rw[pser];omega)).1;have hrun':gZ (pre x t ts) (FW ps t.Prog)=some (WK ps x t ts,(runs (pre x t ts) (FW ps t.Prog)).2):=hrun;have hz:=bY rok.rt (r:=5) (by decide) (h:=0) (.inl rfl);have zS:=pz rok.rt.sh.sr rok.sl 5 0;unfold mW;rw[Ay,a0q];have e:Tu x.Q=(⟨ts,x.Q.Cap⟩,t,0):=by unfold Tu;rw[hq]
 rw[e];dsimp only;rw[za (by simp)];simp only[jn];by_cases k:t.Kind=1
 .have hk:(t.Kind==1)=true:=by simpa using k
  have hat:=(Hz hx.rt hq k).1;have ush:=Eh hx.rt hq;have hm1:=qV hx.rt.sh.sr hat;have e1:cC ⟨x.S,x.Roots,x.b7,x.T,⟨ts,x.Q.Cap⟩⟩ 5 t.At=some (G8 (uR x ts) 5 t.At,0):=by
   have:=Pq (x:=uR x ts) ush hx.sl 5 hm1;rw[za (by omega),zb (.inr hat)] at this;exact this
  have e2:E4 (G8 (uR x ts) 5 t.At) t.At=some (wP x ts t.At):=gw (dC (x:=uR x ts) hx.rt.sh.sr 5 t.At).sr hm1;have e3:=jB (lL hx.rt hq k) (Nx hx.rt hx.sl t.At);have e4:pre x t ts=bI (wP x ts t.At):=by unfold pre;rw[zb k]
  have e5:=Kp rok.rt rok.sl 5 (h:=0) (by decide);rw[za (by omega),zb (.inl rfl)] at e5;rw[zb hk,e1,a0q];dsimp only;rw[e2,a0q,e3,a0q,vE,a0q,<-e4,hrun',a0q,zb hk];dsimp only;rw[e5,a0q];refine ss (jB hz zS) ?_;unfold Lj;rw[zb k];rfl
 .have hk:¬(t.Kind==1)=true:=by simpa using k
  have e4:pre x t ts=uR x ts:=by unfold pre;rw[za k]
  rw[za hk,vE,a0q,show (⟨x.S,x.Roots,x.b7,x.T,⟨ts,x.Q.Cap⟩⟩:b9)=pre x t ts from e4.symm,hrun',a0q,za hk];unfold Lj;rw[za k]
end
section
variable{x:Hp}(hx:Oh x){ps:List (List k8)}(hm:Mp ps){f:Int}(hf:0<=f)(hf2:f<=1000000)(hb:x.S.Serial<8000000000000000000)
include hx hm hf hf2 hb
def TV(p:Hp × Int):Int:=if p.1.Q.L.isEmpty then 0 else 12
theorem drain_eq:gU x ps f=some ((dr ps (x,f)).1,(dn ps (x,f):Int),(dr ps (x,f)).2,TV (dr ps (x,f))):=by
 obtain⟨a1,a2,a3⟩:=Jq ps (p:=(x,f)) hf;have all:=CK ps (p:=(x,f)) hx hf (by show x.S.Serial+f<_;omega);unfold gU;simp only[jn];dsimp only at a1;refine lP (λk=>((dN ps k (x,f)).2,(dN ps k (x,f)).1,(k:Int),(dN ps k (x,f)).2,(dN ps k (x,f)).1)) rfl (dn ps (x,f)) (λ_=>True) (by omega) trivial (λk hk _=>.inl ⟨?_,trivial⟩) (λ_=>⟨((dn ps (x,f):Int),(dr ps (x,f)).2,(dr ps (x,f)).1),?_,?_⟩)
 .obtain⟨b1,b2,b3,b4⟩:=all k;obtain⟨t,ts,e,c⟩:=a3 k hk;dsimp only at b2 b3 b4;have hc:=sL ps t;rw[Hr,e,a0q];show (bj _).bind _=_;rw[Ay,a0q];have e2:Tu (dN ps k (x,f)).1.Q=(⟨ts,(dN ps k (x,f)).1.Q.Cap⟩,t,0):=by unfold Tu;rw[e]
  rw[e2];dsimp only;rw[xu hm,a0q,za (by simp;omega),PN b1 e hm (by omega),a0q,U2 (by omega) (by omega),o0,sM,pq ps e,zb c]
 .rw[Hr,a0q];cases e:(dN ps (dn ps (x,f)) (x,f)).1.Q.L with
  | nil=>rfl
  | cons t ts=>
   have hc:¬BD ps t<=(dN ps (dn ps (x,f)) (x,f)).2:=λq=>a2 ((EO ps e).2 q);show (bj _).bind _=_;rw[Ay,a0q];have e2:Tu (dN ps (dn ps (x,f)) (x,f)).1.Q=(⟨ts,(dN ps (dn ps (x,f)) (x,f)).1.Q.Cap⟩,t,0):=by unfold Tu;rw[e]
   rw[e2];dsimp only;rw[xu hm,a0q,zb (by simp;omega)];rfl
 .dsimp only;rw[Hr,a0q];unfold TV;cases (dr ps (x,f)).1.Q.L.isEmpty <;> rfl
end
theorem Ys{l:List (List k8)}(h:fD l=true):Mp l/\l.length<=6:=by
 unfold fD at h;rw[zy,zG,zf] at h;refine⟨λp hp=>?_,h.1⟩;have:=h.2 p hp;unfold tZ at this;rw[zy,zG] at this;exact this.1
noncomputable def eo(ps:List (List k8))(x:Hp)(o:k8):Hp × Int × Int:=
 if o.Kind=11 then (AT x,MZ x-((km x).length:Int),0)
 else if o.Kind=12 then ((dr ps (x,o.A)).1,(dn ps (x,o.A):Int),TV (dr ps (x,o.A)))
 else ju x o
noncomputable def er(ps:List (List k8))(x:Hp)(row:List Int):Hp × Int × Int:=if (bO row).2≠0 then (x,0,(bO row).2) else eo ps x (bO row).1
noncomputable def iS(ps:List (List k8))(x:Hp)(rows:List (List Int)):Hp × List (Int × Int):=rows.foldl (λp r=>((er ps p.1 r).1,p.2 ++ [(er ps p.1 r).2])) (x,[])
theorem sU(ps:List (List k8))(x:Hp)(l:List (List Int))(r:List Int):iS ps x (l ++ [r])=((er ps (iS ps x l).1 r).1,(iS ps x l).2 ++ [(er ps (iS ps x l).1 r).2]):=by
 unfold iS;rw[zaq];rfl
theorem CR(ps:List (List k8)):∀(l:List (List Int)) (x:Hp) (a:List (Int × Int)),l.foldl (λp r=>((er ps p.1 r).1,p.2 ++ [(er ps p.1 r).2])) (x,a)=((iS ps x l).1,a++(iS ps x l).2)
 | [],x,a=>by simp[iS]
 | r::l,x,a=>by
  unfold iS;rw[zal,zal,CR ps l,CR ps l _ ([]++_)];simp
theorem Js(ps:List (List k8))(x:Hp)(l m:List (List Int)):iS ps x (l++m)=((iS ps (iS ps x l).1 m).1,(iS ps x l).2++(iS ps (iS ps x l).1 m).2):=by
 have:iS ps x (l++m)=m.foldl (λp r=>((er ps p.1 r).1,p.2 ++ [(er ps p.1 r).2])) (iS ps x l):=by
  unfold iS;rw[zaq]
 rw[this];exact CR ps m (iS ps x l).1 (iS ps x l).2
theorem Jt(ps:List (List k8))(x:Hp)(l:List (List Int)):(iS ps x l).2.length=l.length:=by
 induction l generalizing x with
 | nil=>rfl
 | cons r l ih=>
  have:=Js ps x [r] l;rw[List.singleton_append] at this;rw[this,zL,ih];show 1+l.length=l.length+1;omega
theorem CL{row:List Int}(h:(bO row).2=0):y6 (bO row).1.Kind (bO row).1.A (bO row).1.B (bO row).1.C=0:=by
 unfold bO at h |-;rcases four row with ⟨k,a,b,c,rfl⟩ | hl
 .rw[Jp,un] at h |-;by_cases q:y6 k a b c≠0
  .rw[zb q] at h;exact absurd h q
  .rw[za q];exact Classical.not_not.1 q
 .rw[(CM hl).1,un] at h;exact absurd h (by decide)
theorem Na{a b c:Int}(h:y6 12 a b c=0):0<=a/\a<=200:=BN (by decide) (show P8 a 0 200 12=0 from h)
section
variable{ps:List (List k8)}(hm:Mp ps){x:Hp}(hx:Oh x)(hb:x.S.Serial<7000000000000000000)
include hm hx hb
theorem XR{o:k8}(ho:o.Kind=12->0<=o.A/\o.A<=200):Oh (eo ps x o).1/\(eo ps x o).1.S.Serial<=x.S.Serial+201:=by
 unfold eo;split
 .obtain⟨a,b,c⟩:=Hm hx.rt hx.sl hx.zr;refine⟨⟨a,b,c⟩,?_⟩;show (AT x).S.Serial<=_;rw[Ry hx.rt hx.sl hx.zr];omega
 .split
  .rename_i h;obtain⟨h0,h2⟩:=ho h;obtain⟨a,b,c,d⟩:=XQ ps hx h0 (by omega);exact⟨a,by show (dr ps (x,o.A)).1.S.Serial<=_;omega⟩
  .have n:=tW hx.rt hx.sl hx.zr (by omega) o;have:=n.ev.s2;exact⟨n.ok,by omega⟩
theorem TX(row:List Int):Oh (er ps x row).1/\(er ps x row).1.S.Serial<=x.S.Serial+201:=by
 unfold er;split;·exact⟨hx,by show x.S.Serial<=_;omega⟩
 .rename_i h;have hc:=CL (Classical.not_not.1 h);refine XR hm hx hb λhk=>?_;rw[hk] at hc;exact Na hc
end
theorem Hu{ps:List (List k8)}(hm:Mp ps){x:Hp}(hx:Oh x):∀(l:List (List Int)),x.S.Serial+201*(l.length:Int)<7000000000000000000->Oh (iS ps x l).1/\(iS ps x l).1.S.Serial<=x.S.Serial+201*(l.length:Int):=by
 intro l;induction l generalizing x with
 | nil=>exact λ_=>⟨hx,by show x.S.Serial<=_;simp⟩
 | cons r l ih=>
  intro hb;rw[zH] at hb |-;obtain⟨a,b⟩:=TX hm hx (by omega) r;obtain⟨c,d⟩:=ih a (by omega);have e:=Js ps x [r] l;rw[List.singleton_append] at e;rw[e];exact⟨c,by
   have:(iS ps (iS ps x [r]).1 l).1.S.Serial<=(er ps x r).1.S.Serial+201*(l.length:Int):=d;show (iS ps (iS ps x [r]).1 l).1.S.Serial<=_;omega⟩
noncomputable def EA(x:Hp):List Int:=(lv x.S).map λh=>aR x h
theorem Ob{s:b6}(hR:SR s){h:Int}(hh:h∈lv s):sk s.S.b7 h=(ob s h).Serial:=by
 obtain⟨i,hi⟩:=(fU hR).1 hh;rw[EM hR hi,F7 hR hi]
theorem Xe{x:Hp}(hR:SR x.S):(EA x).Pairwise (· < ·):=by
 unfold EA;rw[zbn];refine za8 (λ{a b} ha hb h=>?_) (kP (y8.2 hR)).2.2;rw[Ob hR ha,Ob hR hb] at h;exact h
theorem PG{x:Hp}(hR:SR x.S):(EA x).mergeSort (λx y=>decide (x<=y))=EA x:=
 List.mergeSort_of_pairwise ((Xe hR).imp λh=>zC (by omega))
theorem Kw{x:Hp}(hR:SR x.S):(EA x).length<=24:=by
 unfold EA;rw[zl];exact K8 (y8.2 hR)
inductive Fm (x:Hp) (o:k8) (z:Hp) (v:Int):Prop
 | new (i:Nat) (hF:XC x.S i) (hk:o.Kind=1) (ha:0<=o.A/\o.A<=5) (hn:o.B.toNat<=4) (hc : -1<=o.C/\o.C<=5) (hv:v=x.S.Serial+1) (hz:z=G8 (wS x (dJ x.S i o.B.toNat o.C)) o.A.toNat (cv x.S i)):Fm x o z v
 | root (h:Int) (hk:o.Kind≠1) (ha:0<=o.A/\o.A<=5) (hh:h=0\/h∈lv x.S) (hz:z=G8 x o.A.toNat h):Fm x o z v
 | field (h:Int) (n:Nat) (u:Int) (hk:o.Kind=5) (hl:h∈lv x.S) (hn:n<(ob x.S h).Fields.length) (hu:u=0\/u∈lv x.S) (hz:z=bQ x h n u):Fm x o z v
 | weak (h:Int) (hk:o.Kind=6) (ha:0<=o.A/\o.A<=5) (hc : -1<=o.C/\o.C<=5) (hh:h=0\/h∈lv x.S) (hw:wI x.Q o.A=false) (hz:z=cV x o.A.toNat h o.C):Fm x o z v
 | pair (h u:Int) (r:Tb × Int × Int) (hk:o.Kind=8) (hl:h∈lv x.S) (hu:u=0\/u∈lv x.S) (hr:V3 x.T h u=some r) (h0:r.2.2=0) (hz:z=iU x u r.1 r.2.1):Fm x o z v
 | same (hk:o.Kind=10) (hz:z=x):Fm x o z v
theorem Fm.ks{x z:Hp}{o:k8}{v:Int}(hx:L1 x)(f:Fm x o z v)(hk:o.Kind≠1):Ks x.S z.S:=by
 have hR:=hx.sh.sr;cases f with
 | new i hF hk'=>exact absurd hk' hk
 | root h _ ha hh hz=>rw[hz];exact dC hR _ _
 | field h n u _ hl hn hu hz=>rw[hz];exact BF hR hl hn u
 | weak h _ ha hc hh hw hz=>rw[hz];exact GG hx (by omega) h _
 | pair h u r _ hl hu hr h0 hz=>rw[hz];exact FT hR u _ _
 | same _ hz=>rw[hz];exact Ks.refl hR
def XG(p:Int × Int):g8:=⟨p.1,p.2⟩
section
variable{ps:List (List k8)}(hm:Mp ps){x:Hp}(hx:Oh x)(hb:x.S.Serial<7000000000000000000)
include hm hx hb
theorem Va : -24<=MZ x-((km x).length:Int)/\MZ x-((km x).length:Int)<=24:=by
 have h1:=Jh hx.rt hx.sl hx.zr;have h2:(lv x.S).length<=24:=K8 (y8.2 hx.rt.sh.sr);obtain⟨c1,_,_⟩:=Hm hx.rt hx.sl hx.zr;have h3:(lv (AT x).S).length<=24:=K8 (y8.2 c1.sh.sr);unfold MZ;split
 .rename_i e;rw[e];simp;omega
 .omega
theorem edo(row:List Int):lK ⟨x,ps⟩ row=some (⟨(er ps x row).1,ps⟩,XG (er ps x row).2):=by
 unfold lK;rw[(EV row).1,a0q];unfold er;by_cases h:(bO row).2=0
 .rw[za (show ¬(((bO row).2 != 0)=true) by simp[h]),za (show ¬((bO row).2≠0) by simp[h])];have hc:=CL h;generalize (bO row).1=o at hc;unfold mY eo;by_cases k11:o.Kind=11
  .rw[zb (by simp[k11]),zb k11];refine zcv (b:=(aT x).bind λv4=>some (⟨v4.1,ps⟩,⟨w9 (v4.2.2-v4.2.1),0⟩)) rfl ?_;obtain⟨b1,b2⟩:=Va hm hx hb;rw[Vi hx.rt hx.sl hx.zr,a0q];dsimp only;rw[U2 (by omega) (by omega)];rfl
  .rw[za (by simp[k11]),za k11];by_cases k12:o.Kind=12
   .rw[zb (by simp[k12]),zb k12];refine zcv (b:=(gU x ps o.A).bind λv5=>some (⟨v5.1,ps⟩,⟨v5.2.1,v5.2.2.2⟩)) rfl ?_;rw[k12] at hc;obtain⟨a0,a2⟩:=Na hc;rw[drain_eq hx hm a0 (by omega) (by omega),a0q];rfl
   .rw[za (by simp[k12]),za k12];refine zcv (b:=(u6 x o).bind λv3=>some (⟨v3.1,ps⟩,⟨v3.2.1,v3.2.2⟩)) rfl ?_;rw[(tW hx.rt hx.sl hx.zr (by omega) o).mc,a0q];rfl
 .rw[zb (by simpa using h),zb h];rfl
end
section
variable{ps:List (List k8)}(hm:Mp ps){x:Hp}(hx:Oh x)
include hm hx
theorem PJ{rows:List (List Int)}{k:Nat}(hk:k<rows.length):iS ps x (rows.take (k+1))=((er ps (iS ps x (rows.take k)).1 rows[k]).1,(iS ps x (rows.take k)).2 ++ [(er ps (iS ps x (rows.take k)).1 rows[k]).2]):=by
 rw[zt hk,sU]
theorem ZE(rows:List (List Int))(hl:rows.length<=1000)(hb:x.S.Serial<6000000000000000000):mX ⟨x,ps⟩ rows=some (⟨(iS ps x rows).1,ps⟩,(iS ps x rows).2.map XG):=by
 unfold mX;simp only[jn];refine Y8 rows.length (λk s=>s=((⟨(iS ps x (rows.take k)).1,ps⟩:n9),(iS ps x (rows.take k)).2.map XG)) (by omega) rfl (λk s hk hs=>.inl ⟨_,?_,rfl⟩) (λs hs=>⟨s,za (by simp),by rw[hs,zW]⟩);subst hs;obtain⟨o1,o2⟩:=Hu hm hx (rows.take k) (by simp;omega);have hlen:=Jt ps x (rows.take k);have hkl:(rows.take k).length=k:=by simp;omega
 dsimp only;rw[zb (by simpa using hk),s7 hk,a0q,edo hm o1 (by rw[hkl] at o2;omega),a0q,J3 (by omega) (by simp[hlen];omega),a0q,o0,PJ hm hx hk];simp
end
section
variable{ps:List (List k8)}{x:Hp}(hx:L1 x)
include hx
theorem Vp:jb ⟨x,ps⟩=some (EA x):=by
 have hR:=hx.sh.sr;have l24:(lv x.S).length<=24:=K8 (y8.2 hR);unfold jb;simp only[jn];rw[fg (y8.2 hR),a0q];refine Y8 (lv x.S).length (λk l=>l=((lv x.S).take k).map λh=>aR x h) (by omega) rfl (λk l hk hl=>.inl ⟨_,?_,rfl⟩) (λl hl=>⟨l,za (by simp),?_⟩)
 .subst hl;dsimp only;have:=H5 hR (zh hk);rw[zb (by simpa using hk),s7 hk,a0q,Pz hx.sh (by omega),a0q,J3 (by omega) (by simp;omega),a0q,o0,zt hk,q9];rfl
 .subst hl;rw[zW];show (qp (EA x)).bind _=_;have:=Kw (x:=x) hR;unfold qp;rw[zb (by omega),PG hR];rfl
end
theorem Rs.oh{x:Hp}{n:Nat}(h:Rs x n):Oh x:=⟨h.rt,h.sl,h.zr⟩
theorem Yx{n last places:Int}{ps:List (List k8)}(hl:ps.length<=12)(hp:∀p∈ps,p.length<=12) :
  (∃e,X7 n last places ps=some (⟨RN,[]⟩,e)/\DL n last places (Zl ps)=some (⟨hO RN,[]⟩,e)/\(e=13\/e=1/\¬((1<=n/\n<=24)/\(0<=last/\last<=9)/\1<=places/\places<=8))) \/
  (∃k p:Nat,n=k/\places=p/\(1<=k/\k<=24)/\Mp ps/\Rs (qe k last p) 0/\X7 n last places ps=some (⟨qe k last p,ps⟩,0)/\DL n last places (Zl ps)=some (⟨hO (qe k last p),Zl ps⟩,0)):=by
 have e1:gb ps=some (fD ps):=FY (by omega) hp;have e2:qh (Zl ps)=some (fD ps):=HU (by omega) hp;unfold X7 DL;rw[e1,e2,a0q,a0q];cases hq:fD ps;·exact .inl ⟨13,rfl,rfl,.inl rfl⟩
 .simp only[zbf,zA,ul];by_cases h:(1<=n/\n<=24)/\(0<=last/\last<=9)/\1<=places/\places<=8
  .right;obtain⟨h1,h2,h3⟩:=h;obtain⟨k,rfl⟩:∃k:Nat,n=k:=⟨n.toNat,by omega⟩;obtain⟨p,rfl⟩:∃p:Nat,places=p:=⟨places.toNat,by omega⟩;obtain⟨a1,a2,hx,hS,hz⟩:=NN (k:=k) (p:=p) (l:=last) (by omega) h2 (by omega);refine⟨k,p,rfl,rfl,by omega,(Ys hq).1,⟨hx,hS,hz,zae _⟩,?_,?_⟩
   .rw[a1,a0q,hx.sh.r6];rfl
   .rw[a2,a0q,show (hO (qe k last p)).Roots.length=6 from hx.sh.r6];rfl
  .left;have a1:lO n last places=some RN:=by
    unfold lO;rw[zb (by simp;omega)];rfl
   have a2:uh n last places=some (hO RN):=by
    unfold uh;rw[zb (by simp;omega)];rfl
   refine⟨1,?_,?_,.inr ⟨rfl,h⟩⟩;·rw[a1];rfl
   .rw[a2];rfl
theorem OU{x:Hp}(hx:L1 x)(hS:SL x){k v e:Int}(hk:k∈lv x.S)(hv:v=0\/v∈lv x.S)(h:cy x k v=some (x,e))(he:e≠0):e=8:=by
 have hR:=hx.sh.sr;have k0:k≠0:=λq=>ff hR (q▸hk);unfold cy at h;rw[za (by simpa using k0),N8 hR (tJ hx hS (.inr hk)),a0q,N8 hR (tJ hx hS hv),zC (.inr hk),zC hv] at h;simp only[zbf,t8,fX,a0q,zcu,zA,ul] at h;obtain⟨r,r1,_,_,r5⟩:=dZ hx.sh.hr k v;rw[r1,a0q] at h;by_cases h0:r.2.2=0
 .have e1:(r.2.2 != 0)=false:=by simpa using h0
  rw[e1,za (by simp)] at h;cases q:E2 x r.2.1 v ⟨r.1⟩ with
  | none=>rw[q] at h;cases h
  | some w=>
   rw[q,a0q] at h;exact absurd (wd (λp=>p.2) (zJ h)).symm he
 .rw[zb (by simpa using h0)] at h;have:r.2.2=e:=wd (λp=>p.2) (zJ h);rcases r5 with ⟨q,rfl⟩ | ⟨_,_,⟨i,hi,rfl⟩ | ⟨_,rfl⟩⟩ | ⟨_,_,⟨i,hi,rfl⟩ | ⟨d,_,_,_,_,rfl⟩ | ⟨_,_,rfl⟩⟩;·exact absurd q k0
  .exact absurd rfl h0
  .exact absurd rfl h0
  .exact absurd rfl h0
  .exact absurd rfl h0
  .exact this.symm
theorem EZ{s:b6}(hR:SR s){h:Int}(hh:h∈lv s){n:Nat}(hn:n<(ob s h).Fields.length):K4 s h n=some ((ob s h).Fields[n],0):=by
 unfold K4;rw[vl (y8.2 hR) hh,a0q,za (by simp),at1 hn];rfl
section
variable{x:Hp}(hB:HB x)
include hB
end
theorem GI{x:Hp}(hx:L1 x){k h c e:Int}(hk:0<=k/\k<=5)(hh:h=0\/h∈lv x.S)(hm:h<=9223372036854775807)(hc : -1<=c/\c<=5)(q:S9 x k h c=some (x,e))(he:e≠0):e=7:=by
 have hR:=hx.sh.sr;have c6:=hx.sh.c6;have q30:=hx.sh.q30;obtain⟨n,rfl⟩:∃n:Nat,k=n:=⟨k.toNat,by omega⟩;unfold S9 at q;have e1:((decide ((n:Int)<0))||(decide ((n:Int)>=(x.b7.length:Int))))=false:=by rw[c6];simp;omega
 rw[e1] at q;simp only[t8,fX,zca] at q;have hwq:aQ x.Q n=some (wI x.Q n):=xI (by omega);rw[hwq,a0q,N8 hR hm,a0q,zC hh] at q;cases hw:wI x.Q n
 .rw[hw,za (by decide),za (by decide)] at q;cases g1:kg x.b7 n h c with
  | none=>rw[g1] at q;cases q
  | some a=>
   rw[g1,a0q] at q;cases g2:ay ⟨x.S,x.Roots,a.1,x.T,x.Q⟩ h 1 with
   | none=>rw[g2] at q;cases q
   | some b=>
    rw[g2,a0q] at q;cases g3:bc b a.2.1 with
    | none=>rw[g3] at q;cases q
    | some d=>
     rw[g3,a0q] at q;exact absurd (wd (λp=>p.2) (zJ q)).symm he
 .rw[hw,zb rfl] at q;exact (wd (λp=>p.2) (zJ q)).symm
section
variable{x:Hp}(hB:HB x)
include hB
end
theorem Yd(s:b6)(h:s.S.b7.length<=30):xP s=some (sO s):=by
 unfold xP;simp only[jn,xQ,a0q];have e:=ni (b:=80) cO s.S.b7 (by omega) (by omega);simp only[cO,oo] at e;rw[e];rfl
theorem To(s:b6):qz s=some (decide (Sm s)):=by
 unfold qz;simp only[jn];refine db (min s.S.b7.length 30) (λk=>∀j (h:j<s.S.b7.length),j<k->s.S.b7[j].Val.Fields.length<=10) (by omega) (λ_ _ h=>by omega) (λk hk hP=>?_) (λhP=>?_)
 .have hk1:k<s.S.b7.length:=by omega
  have hk2:k<30:=by omega
  have hc:((decide ((k:Int)<(s.S.b7.length:Int)))&&(decide ((k:Int)<30)))=true:=by simp;omega
  by_cases g:s.S.b7[k].Val.Fields.length<=10
  .refine .inl ⟨?_,λj h hj=>?_⟩
   .rw[hc];simp only[zY,s7 hk1,a0q];rw[za (by simp;omega),o0]
   .rcases zE j k with q | q
    .exact hP j h q
    .have:j=k:=by omega
     subst this;exact g
  .refine .inr ⟨.inl false,?_,?_⟩
   .rw[hc];simp only[zY,s7 hk1,a0q];rw[zb (by simp;omega)]
   .simp only;rw[zQ (λq:Sm s=>g (q.2 k hk1))]
 .refine⟨.inr (),?_,?_⟩
  .rw[show ((decide (((min s.S.b7.length 30:Nat):Int)<(s.S.b7.length:Int)))&&(decide (((min s.S.b7.length 30:Nat):Int)<30)))=false by
    rcases zE s.S.b7.length 30 with q | q
    .simp;omega
    .simp;omega]
   rfl
  .simp only;congr 1;rw[zbd];constructor
   .intro q;exact⟨by omega,λi h=>hP i h (by omega)⟩
   .intro q;have:=q.1;omega
theorem YQ(t:Tb)(h:t.length<=1000):xR t=some (t.map eF):=by
 unfold xR;simp only[jn];have e:=ni (b:=24) eF t (by omega) (by omega);simp only[eF] at e;rw[e];rfl
theorem XK(l:List j5)(h:l.length<=1000):qy l=some (l.map Zp):=by
 unfold qy;simp only[jn];have e:=ni (b:=24) Zp l (by omega) (by omega);simp only[Zp] at e;rw[e];rfl
theorem YR(q:TQ)(h:q.L.length<=1000):qA q=some (tqR q):=by
 unfold qA;simp only[jn];have e:=ni (b:=24) ZZ q.L (by omega) (by omega);simp only[ZZ] at e;rw[e];rfl
theorem VI{x:Hp}(h1:x.S.S.b7.length<=30)(h2:x.b7.length<=1000)(h3:x.T.length<=1000)(h4:x.Q.L.length<=1000):mE x=some (hO x):=by
 unfold mE;rw[Yd x.S h1,a0q,XK x.b7 h2,a0q,YQ x.T h3,a0q,YR x.Q h4,a0q];rfl
theorem RK{x:Hp}(h:jt x):mE x=some (hO x):=by
 have h1:=h.sr.len;have h2:=h.c6;have h3:=h.hr.l8;have h4:=h.q30;exact VI (by omega) (by omega) (by omega) (by omega)
theorem Nu(x:Hp):uK x=some (decide (EB x)):=by
 unfold uK;rw[To,a0q];congr 1;rw[za9];simp only[zy,zG];unfold EB;constructor
 .rintro⟨⟨⟨⟨a,b⟩,c⟩,d⟩,e⟩;exact⟨a,by omega,by omega,by omega,by omega⟩
 .rintro⟨a,b,c,d,e⟩;exact⟨⟨⟨⟨a,by omega⟩,by omega⟩,by omega⟩,by omega⟩
theorem XU{x:Hp}(h:jt x):uK x=some true:=by rw[Nu,zC h.ZI]
structure Gd (σ:Int->Int) (s:b6):Prop where
 z:σ 0=0
 f:∀h i,U7 s h i->σ h=(ce s i).Val.Serial
def nd(σ:Int->Int)(s:b6)(i:Nat):b8:=⟨(ce s i).Val.Serial,i,(ce s i).Val.Prog,(ce s i).Val.Started,decide ((ce s i).State=1),decide (12<=(ce s i).Val.Strong),(ce s i).Val.Fields.map σ⟩
structure Sn (σ:Int->Int) (s:b6) (l:List b8):Prop where
 up:l.Pairwise λa b=>a.Serial<b.Serial
 mem:∀n,n∈l↔∃i,i<s.S.b7.length/\Th (ce s i)/\n=nd σ s i
def PE(c:c8):Int:=if Th c then c.Val.Serial else if c.State=3 then -1 else 0
def wx(σ:Int->Int)(c:j5):j5:=⟨σ c.Target,c.Intact,c.Call⟩
def tx(σ:Int->Int)(t:g6):g6:=if t.Kind=1 then ⟨1,σ t.At,t.Prog⟩ else t
structure r8 (σ:Int->Int) (x:Hp) (m:a8):Prop where
 gd:Gd σ x.S
 nd:Sn σ x.S m.Nodes
 sl:m.Slots=(List.range x.S.S.b7.length).map λi=>PE (Sh.ce x.S i)
 ge:m.Gens=(List.range x.S.S.b7.length).map λi=>(Sh.ce x.S i).Gen
 la:m.Last=x.S.S.Last
 npl:m.Places=x.T.length
 se:m.Serial=x.S.Serial
 ro:m.Roots=x.Roots.map σ
 ce:m.b7=x.b7.map (wx σ)
 p1:m.Pairs.Pairwise λa b=>a.Key≠b.Key
 p2:∀p,p∈m.Pairs↔∃k v,Has x.T k v/\p=⟨σ k,σ v⟩
 tk:m.Tasks=x.Q.L.map (tx σ)
section
variable{σ:Int->Int}{s:b6}(hR:SR s)(g:Gd σ s)
include hR g
theorem Gd.lv{h:Int}(hh:h∈lv s):σ h=(ob s h).Serial:=by
 have q:=o7 hR hh;rw[F7 hR q,g.f h _ q.d]
theorem Gd.pos{h:Int}{i:Nat}(q:U7 s h i):1<=σ h/\σ h<=s.Serial:=by
 rw[g.f h i q];exact⟨(hR.ok i q.1 q.2.1).s1,(hR.ok i q.1 q.2.1).s2⟩
theorem Gd.inj{h k:Int}{i j:Nat}(q:U7 s h i)(p:U7 s k j)(e:σ h=σ k):h=k:=by
 rw[g.f h i q,g.f k j p] at e;have:=hR.dif i j q.1 p.1 q.2.1 p.2.1 e;subst this;rw[q.2.2,p.2.2]
theorem Gd.inl{h k:Int}(hh:h∈Sh.lv s)(hk:k∈Sh.lv s)(e:σ h=σ k):h=k:=g.inj hR (o7 hR hh).d (o7 hR hk).d e
theorem Gd.ps{h:Int}(hh:h∈Sh.lv s):1<=σ h/\σ h<=s.Serial:=g.pos hR (o7 hR hh).d
theorem Gd.Xv{h k:Int}(hh:h=0\/∃i,U7 s h i)(hk:k=0\/∃i,U7 s k i)(e:σ h=σ k):h=k:=by
 rcases hh with e1 | ⟨i,q⟩ <;> rcases hk with e2 | ⟨j,p⟩
 .rw[e1,e2]
 .subst e1;rw[g.z] at e;have:=g.pos hR p;omega
 .subst e2;rw[g.z] at e;have:=g.pos hR q;omega
 .exact g.inj hR q p e
theorem Gd.zero{h:Int}(hh:h=0\/∃i,U7 s h i):σ h=0↔h=0:=by
 refine⟨λe=>g.Xv hR hh (.inl rfl) (e.trans g.z.symm),λe=>?_⟩;subst e;exact g.z
theorem Oe{h:Int}(hh:h=0\/h∈Sh.lv s):h=0\/∃i,U7 s h i:=hh.imp id λq=>⟨_,(o7 hR q).d⟩
theorem xJ{l:List Int}(hl:∀v∈l,v=0\/v∈Sh.lv s){h:Int}(hh:h∈Sh.lv s):T3 (l.map σ) (σ h)=T3 l h:=by
 have p:=g.ps hR hh;have p0:=(H5 hR hh).1;unfold T3;rw[za (by omega),za (by omega)];induction l with
 | nil=>rfl
 | cons v l ih=>
  rw[zU,zcs,zcs,ih λu hu=>hl u (zn _ hu)];congr 1;by_cases e:v=h
  .subst e;simp
  .have:σ v≠σ h:=λe'=>e (g.Xv hR (Oe hR g (hl v zg)) (.inr ⟨_,(o7 hR hh).d⟩) e');simp[e,this]
end
section
variable{σ:Int->Int}{s:b6}(hR:SR s){l:List b8}(q:Sn σ s l)
include hR q
theorem Sn.one{n m:b8}(hn:n∈l)(hm:m∈l)(e:n.Serial=m.Serial):n=m:=by
 obtain⟨i,hi,ti,rfl⟩:=(q.mem n).1 hn;obtain⟨j,hj,tj,rfl⟩:=(q.mem m).1 hm;have:=hR.dif i j hi hj ti tj e;rw[this]
theorem Sn.at{i:Nat}(hi:i<s.S.b7.length)(ht:Th (ce s i)):Sh.nd σ s i∈l:=(q.mem _).2 ⟨i,hi,ht,rfl⟩
theorem Sn.pos{n:b8}(hn:n∈l):1<=n.Serial/\n.Serial<=s.Serial:=by
 obtain⟨i,hi,ti,rfl⟩:=(q.mem n).1 hn;exact⟨(hR.ok i hi ti).s1,(hR.ok i hi ti).s2⟩
theorem Sn.len:l.length<=24:=by
 have h1:(l.map (·.Slot)).Nodup:=by
  rw[List.Nodup,zbn];refine za8 (λ{a b} ha hb h=>?_) q.up;obtain⟨i,hi,ti,rfl⟩:=(q.mem a).1 ha;obtain⟨j,hj,tj,rfl⟩:=(q.mem b).1 hb;intro e;have:i=j:=by
   have:(i:Int)=(j:Int):=e;omega
  subst this;exact absurd h (zbh _)
 have h2:∀v∈l.map (·.Slot),v∈(List.range s.S.b7.length).map λi:Nat=>(i:Int):=λv hv=>by
  obtain⟨n,hn,rfl⟩:=zw.1 hv;obtain⟨i,hi,ti,rfl⟩:=(q.mem n).1 hn;exact zw.2 ⟨i,za7.2 hi,rfl⟩
 have:=ae h1 h2;rw[zl,zl,zb9] at this;have:=hR.len;omega
theorem Sn.alive:l.filter (·.Alive)=(lv s).map λh=>Sh.nd σ s (E0 h):=by
 have key:∀(a b:List b8),a.Pairwise (λu v=>u.Serial<v.Serial)->b.Pairwise (λu v=>u.Serial<v.Serial)->(∀n,n∈a↔n∈b)->a=b:=by
  intro a;induction a with
  | nil=>intro b _ _ h;cases b with
   | nil=>rfl
   | cons y b=>exact absurd ((h y).2 zg) (by simp)
  | cons x a ih=>
   intro b ha hb h;cases b with
   | nil=>exact absurd ((h x).1 zg) (by simp)
   | cons y b=>
    rw[zbb] at ha hb;have e:x=y:=by
     rcases zM.1 ((h x).1 zg) with e | e
     .exact e
     .rcases zM.1 ((h y).2 zg) with e' | e'
      .exact e'.symm
      .have:=hb.1 x e;have:=ha.1 y e';omega
    subst e;congr 1;refine ih b ha.2 hb.2 λn=>⟨λhn=>?_,λhn=>?_⟩
    .rcases zM.1 ((h n).1 (zn _ hn)) with e | e
     .subst e;have:=ha.1 n hn;omega
     .exact e
    .rcases zM.1 ((h n).2 (zn _ hn)) with e | e
     .subst e;have:=hb.1 n hn;omega
     .exact e
 refine key _ _ (q.up.filter _) ?_ λn=>?_
 .rw[zbn];refine za8 (λ{a b} ha hb h=>?_) (kP (y8.2 hR)).2.2;show (ce s (E0 a)).Val.Serial<(ce s (E0 b)).Val.Serial;rwa [EM hR (o7 hR ha),EM hR (o7 hR hb)] at h
 .rw[zk,zw];constructor
  .rintro⟨hn,ha⟩;obtain⟨i,hi,ti,rfl⟩:=(q.mem n).1 hn;have h1:(ce s i).State=1:=by simpa[Sh.nd] using ha
   have hA:At s (cv s i) i:=⟨hi,h1,rfl⟩;exact⟨cv s i,(fU hR).2 ⟨i,hA⟩,by rw[hA.d.E0 hR]⟩
  .rintro⟨h,hh,rfl⟩;have hA:=o7 hR hh;exact⟨(q.mem _).2 ⟨E0 h,hA.1,hA.d.2.1,rfl⟩,by simp[Sh.nd,hA.2.1]⟩
end
def ky(m:a8):List Int:=pc ⟨m.Tasks,30⟩
def Ey(m:a8)(s:Int):Nat:=T3 m.Roots s+((m.Nodes.filter (·.Alive)).map λn=>T3 n.Fields s).sum+T3 (m.Pairs.map (·.Val)) s+T3 (ky m) s
theorem OZ:∀ {t:Tb},HR t->(jU t).Pairwise λa b=>a.Key≠b.Key:=by
 intro t hR;have key:∀(l:Tb),(∀i j,i<l.length->j<l.length->(l.getD i ⟨0,0,0⟩).State=1->(l.getD j ⟨0,0,0⟩).State=1->(l.getD i ⟨0,0,0⟩).Key=(l.getD j ⟨0,0,0⟩).Key->i=j)->(jU l).Pairwise λa b=>a.Key≠b.Key:=by
  intro l;induction l with
  | nil=>intro _;exact List.Pairwise.nil
  | cons p l ih=>
   intro h;have h2:=ih λi j hi hj a b e=>by
    have:=h (i+1) (j+1) (by simpa using hi) (by simpa using hj) (by simpa using a) (by simpa using b) (by simpa using e);omega
   unfold jU at h2 |-;rw[or];split
   .rename_i hp;rw[zU,zbb];refine⟨λa ha=>?_,h2⟩;obtain⟨u,hu,rfl⟩:=zw.1 ha;rw[zk] at hu;obtain⟨k,hk,e⟩:=ww hu.1;intro eb;have:=h 0 (k+1) (by simp) (by simpa using hk) (by simpa using hp) (by simp[zd,hk,e];simpa using hu.2) (by simp[zd,hk,e];exact eb);omega
   .exact h2
 exact key t λi j hi hj a b e=>hR.uq i j hi hj a b e
section
variable{σ:Int->Int}{x:Hp}{m:a8}(hS:jt x)(q:r8 σ x m)
include hS q
theorem r8.perm:m.Pairs.Perm ((jU x.T).map λp=>⟨σ p.Key,σ p.Val⟩):=by
 have h1:m.Pairs.Nodup:=q.p1.imp λh e=>h (by rw[e]);have h2:((jU x.T).map λp=>(⟨σ p.Key,σ p.Val⟩:k7)).Nodup:=by
  rw[List.Nodup,zbn];refine za8 (λ{a b} ha hb h e=>h ?_) (OZ hS.hr);exact q.gd.inl hS.sr (hS.pr _ _ (cE.1 ha)).1 (hS.pr _ _ (cE.1 hb)).1 (wd k7.Key e)
 rw[List.perm_ext_iff_of_nodup h1 h2];intro p;rw[q.p2,zw];constructor
 .rintro⟨k,v,h,rfl⟩;exact⟨⟨k,v⟩,cE.2 h,rfl⟩
 .rintro⟨⟨k,v⟩,h,rfl⟩;exact⟨k,v,cE.1 h,rfl⟩
theorem r8.Lv:ky m=(pc x.Q).map σ:=by
 unfold ky pc;rw[q.tk];show List.map (·.At) (((x.Q.L.map (tx σ)).filter (·.Kind==1)))=_;rw[zct,za1,za1];have e:((λt:g6=>t.Kind==1) ∘ tx σ)=λt=>t.Kind==1:=by
  funext t
  show ((tx σ t).Kind==1)=_;unfold tx;split;·rename_i h;simp[h]
  .rfl
 rw[e];refine zq λt ht=>?_;have:=(zk.1 ht).2;show (tx σ t).At=σ t.At;unfold tx;rw[zb (by simpa using this)]
theorem VK:∀v∈pc x.Q,v=0\/v∈lv x.S:=λv hv=>by
 obtain⟨t,ht,k,rfl⟩:=lR.1 hv;rcases (hS.tk t ht).2.2 with h | h
 .exact .inr h.2.1
 .rw[h.1] at k;exact absurd k (by decide)
theorem r8.lY{h:Int}(hh:h∈lv x.S):Ey m (σ h)=lY x h:=by
 have hR:=hS.sr;have p:=q.gd.ps hR hh;have p0:=(H5 hR hh).1;unfold Ey Sh.lY;have ea:T3 m.Roots (σ h)=T3 (nz x.Roots) h:=by rw[q.ro,xJ hR q.gd hS.rt hh,pN]
 have eb:((m.Nodes.filter (·.Alive)).map λn=>T3 n.Fields (σ h)).sum=kz x.S h:=by
  rw[q.nd.alive hR,za1];unfold kz;congr 1;refine zq λa ha=>?_;show T3 ((Sh.ce x.S (E0 a)).Val.Fields.map σ) (σ h)=_;rw[<-F7 hR (o7 hR ha),xJ hR q.gd (hS.fl a ha) hh];exact (pN _ _).symm
 have ec:T3 (m.Pairs.map (·.Val)) (σ h)=own x.T h:=by
  have:T3 (m.Pairs.map (·.Val)) (σ h)=T3 (((jU x.T).map (·.Val)).map σ) (σ h):=by
   unfold T3;split;·rfl
   .rw[za1];have:=(q.perm hS).map (·.Val);rw[za1] at this;exact List.perm_iff_count.1 this _
  rw[this,xJ hR q.gd (λv hv=>?_) hh]
  .unfold T3 own;rw[za (by omega),List.count_eq_countP,List.countP_map];refine List.countP_congr λu hu=>?_;simp;omega
  .obtain⟨u,hu,rfl⟩:=zw.1 hv;exact .inr (hS.pr _ _ (cE.1 hu)).2
 have ed:T3 (ky m) (σ h)=T3 (pc x.Q) h:=by rw[q.Lv hS,xJ hR q.gd (VK hS q) hh]
 rw[ea,eb,ec,ed];unfold oz;rw[G4];omega
end
def ja(l:List b8)(s:Int)(f:b8->b8):List b8:=l.map λn=>if n.Serial=s then f n else n
theorem Hj(l:List b8)(s:Int){f:b8->b8}(h:∀n∈l,n.Serial=s->f n=n):ja l s f=l:=by
 unfold ja;conv=>rhs;rw[<-List.map_id l]
 refine zq λn hn=>?_;split;·rename_i e;exact h n hn e
 .rfl
section
variable{σ:Int->Int}{s s':b6}(hR:SR s){l:List b8}(q:Sn σ s l)
include hR q
theorem Sn.same(hl:s'.S.b7.length=s.S.b7.length)(h:∀i,i<s.S.b7.length->(Th (ce s' i)↔Th (ce s i))/\(Th (ce s i)->Sh.nd σ s' i=Sh.nd σ s i)):Sn σ s' l:=by
 refine⟨q.up,λn=>(q.mem n).trans ⟨?_,?_⟩⟩
 .rintro⟨i,hi,ti,e⟩;exact⟨i,by rw[hl];exact hi,(h i hi).1.2 ti,e.trans ((h i hi).2 ti).symm⟩
 .rintro⟨i,hi,ti,e⟩;rw[hl] at hi;exact⟨i,hi,(h i hi).1.1 ti,e.trans ((h i hi).2 ((h i hi).1.1 ti))⟩
variable{i:Nat}(hi:i<s.S.b7.length)(hl:s'.S.b7.length=s.S.b7.length)(ho:∀j,j≠i->ce s' j=ce s j)
include hi hl ho
omit hR q hi hl in
theorem lX {j:Nat} (h:j≠i):Sh.nd σ s' j=Sh.nd σ s j:=by
 unfold Sh.nd;rw[ho j h]
theorem Sn.x8(ht:Th (ce s i))(ht':Th (ce s' i))(hs:(ce s' i).Val.Serial=(ce s i).Val.Serial){f:b8->b8}(hf:f (Sh.nd σ s i)=Sh.nd σ s' i):Sn σ s' (ja l (ce s i).Val.Serial f):=by
 have h0:∀n∈l,n.Serial=(ce s i).Val.Serial->n=Sh.nd σ s i:=λn hn e=>q.one hR hn (q.at hR hi ht) e;have hser:∀n∈l,(if n.Serial=(ce s i).Val.Serial then f n else n).Serial=n.Serial:=λn hn=>by
  split
  .rename_i e;rw[h0 n hn e,hf];exact hs
  .rfl
 constructor
 .unfold ja;rw[zbn];refine za8 (λ{a b} ha hb h=>?_) q.up;rw[hser a ha,hser b hb];exact h
 .intro n;unfold ja;rw[zw];constructor
  .rintro⟨k,hk,rfl⟩;split
   .rename_i e;refine⟨i,by rw[hl];exact hi,ht',?_⟩;rw[h0 k hk e,hf]
   .rename_i e;obtain⟨j,hj,tj,eb⟩:=(q.mem k).1 hk;have hne:j≠i:=λc=>e (by rw[eb,c];rfl);exact⟨j,by rw[hl];exact hj,by rw[ho j hne];exact tj,by rw[lX ho hne];exact eb⟩
  .rintro⟨j,hj,tj,rfl⟩;by_cases c:j=i
   .subst c;refine⟨Sh.nd σ s j,q.at hR hi ht,?_⟩;exact (zb rfl).trans hf
   .rw[hl] at hj;rw[ho j c] at tj;refine⟨Sh.nd σ s j,q.at hR hj tj,?_⟩;rw[lX ho c];exact za λe=>c (hR.dif j i hj hi tj ht e)
theorem Sn.del(ht:Th (ce s i))(hn:¬Th (ce s' i)):Sn σ s' (l.filter λn=>n.Serial != (ce s i).Val.Serial):=by
 refine⟨q.up.filter _,λn=>?_⟩;rw[zk];constructor
 .rintro⟨hk,e⟩;obtain⟨j,hj,tj,rfl⟩:=(q.mem n).1 hk;have hne:j≠i:=λc=>by subst c;simp[Sh.nd] at e
  exact⟨j,by rw[hl];exact hj,by rw[ho j hne];exact tj,(lX ho hne).symm⟩
 .rintro⟨j,hj,tj,rfl⟩;have hne:j≠i:=λc=>hn (c▸tj);rw[hl] at hj;rw[ho j hne] at tj;rw[lX ho hne];refine⟨q.at hR hj tj,?_⟩;have:(Sh.nd σ s j).Serial≠(ce s i).Val.Serial:=λe=>hne (hR.dif j i hj hi tj ht e);simpa using this
theorem Sn.add(hn:¬Th (ce s i))(ht:Th (ce s' i))(hs:s.Serial<(ce s' i).Val.Serial):Sn σ s' (l ++ [Sh.nd σ s' i]):=by
 constructor
 .rw[zar];refine⟨q.up,List.pairwise_singleton ..,λa ha b hb=>?_⟩;rw[zp] at hb;subst hb;have:=(q.pos hR ha).2;show a.Serial<(ce s' i).Val.Serial;omega
 .intro n;rw[zu,zp];constructor
  .rintro (h | rfl)
   .obtain⟨j,hj,tj,rfl⟩:=(q.mem n).1 h;have hne:j≠i:=λc=>hn (c▸tj);exact⟨j,by rw[hl];exact hj,by rw[ho j hne];exact tj,(lX ho hne).symm⟩
   .exact⟨i,by rw[hl];exact hi,ht,rfl⟩
  .rintro⟨j,hj,tj,rfl⟩;by_cases c:j=i
   .subst c;exact .inr rfl
   .rw[hl] at hj;rw[ho j c] at tj;rw[lX ho c];exact .inl (q.at hR hj tj)
end
abbrev AW(m:a8)(l:List b8):a8:=⟨l,m.Slots,m.Gens,m.Last,m.Places,m.Serial,m.Roots,m.b7,m.Pairs,m.Tasks,m.Progs⟩
abbrev Zo(m:a8)(l:List Int):a8:=⟨m.Nodes,m.Slots,m.Gens,m.Last,m.Places,m.Serial,l,m.b7,m.Pairs,m.Tasks,m.Progs⟩
abbrev Xm(m:a8)(l:List j5):a8:=⟨m.Nodes,m.Slots,m.Gens,m.Last,m.Places,m.Serial,m.Roots,l,m.Pairs,m.Tasks,m.Progs⟩
abbrev XA(m:a8)(l:List k7):a8:=⟨m.Nodes,m.Slots,m.Gens,m.Last,m.Places,m.Serial,m.Roots,m.b7,l,m.Tasks,m.Progs⟩
abbrev Iz(m:a8)(l:List g6):a8:=⟨m.Nodes,m.Slots,m.Gens,m.Last,m.Places,m.Serial,m.Roots,m.b7,m.Pairs,l,m.Progs⟩
def Eb(n:b8):b8:=⟨n.Serial,n.Slot,n.Prog,n.Started,n.Alive,true,n.Fields⟩
def uC(m:a8)(s:Int):a8:=AW m (ja m.Nodes s Eb)
def lk(m:a8)(s:Int):a8:=if s≠0/\11<=Ey m s then uC m s else m
def eP(m:a8)(r:Nat)(s:Int):a8:=Zo (lk m s) (m.Roots.set r s)
theorem bL(m:a8)(s:Int):lk m s=AW m (lk m s).Nodes:=by
 unfold lk uC;split <;> rfl
theorem Gd.up{σ:Int->Int}{s s':b6}(g:Gd σ s)(h:∀k i,U7 s' k i->U7 s k i/\(ce s' i).Val.Serial=(ce s i).Val.Serial):Gd σ s':=
 ⟨g.z,λk i q=>by rw[g.f k i (h k i q).1,(h k i q).2]⟩
theorem U1{n:Nat}{f g:Nat->Int}(h:∀i,i<n->f i=g i):(List.range n).map f=(List.range n).map g:=zq λi hi=>h i (za7.1 hi)
section
variable{σ:Int->Int}{x:Hp}{m:a8}(hR:SR x.S)(q:r8 σ x m)
include hR q
theorem r8.put{h:Int}(hh:h∈lv x.S){o:n0}(hs:o.Serial=(ob x.S h).Serial)(ho:AR x.S o){f:b8->b8}
  (hf:f (Sh.nd σ x.S (E0 h))=⟨o.Serial,(E0 h:Nat),o.Prog,o.Started,true,decide (12<=o.Strong),o.Fields.map σ⟩):r8 σ (wS x (dp x.S h o)) (AW m (ja m.Nodes (σ h) f)):=by
 have p:=o7 hR hh;have hc:=λj=>Aq hR hh hs ho j;have hl:(dp x.S h o).S.b7.length=x.S.S.b7.length:=K3 ..;have hsi:o.Serial=(Sh.ce x.S (E0 h)).Val.Serial:=by rw[hs,F7 hR p]
 have same:∀i,(Sh.ce (dp x.S h o) i).State=(Sh.ce x.S i).State/\(Sh.ce (dp x.S h o) i).Gen=(Sh.ce x.S i).Gen/\(Sh.ce (dp x.S h o) i).Val.Serial=(Sh.ce x.S i).Val.Serial:=λi=>by
  rw[hc i];split;·rename_i c;subst c;exact⟨rfl,rfl,hsi⟩
  .exact⟨rfl,rfl,rfl⟩
 have sT:∀i,Th (Sh.ce (dp x.S h o) i)↔Th (Sh.ce x.S i):=λi=>by unfold Th;rw[(same i).1]
 refine⟨q.gd.up λk i a=>⟨(DY hR hh hs ho).1 a,(same i).2.2⟩,?_,?_,?_,q.la,q.npl,q.se,q.ro,q.ce,q.p1,q.p2,q.tk⟩
 .have:=q.nd.x8 (s':=dp x.S h o) hR p.1 hl (λj hj=>by rw[hc j,za hj]) p.d.2.1 ((sT _).2 p.d.2.1) (same _).2.2 (f:=f) (by
   rw[hf];unfold Sh.nd;rw[hc,zb rfl,zC p.2.1])
  rw[q.gd.f h _ p.d];exact this
 .show m.Slots=_;rw[q.sl];show _=List.map _ (List.range (dp x.S h o).S.b7.length);rw[hl];refine U1 λi hi=>?_;unfold PE;rw[(same i).2.2,(same i).1];by_cases c:Th (Sh.ce x.S i)
  .rw[zb c,zb ((sT i).2 c)]
  .rw[za c,za λd=>c ((sT i).1 d)]
 .show m.Gens=_;rw[q.ge];show _=List.map _ (List.range (dp x.S h o).S.b7.length);rw[hl];exact U1 λi hi=>(same i).2.1.symm
theorem r8.Bp{h:Int}(hh:h∈lv x.S){n:Int}(hn:0<=n):r8 σ (wS x (dp x.S h (Bp (ob x.S h) n))) (AW m (ja m.Nodes (σ h) λk=>⟨k.Serial,k.Slot,k.Prog,k.Started,k.Alive,decide (12<=n),k.Fields⟩)):=by
 have ho:=K9 hR hh;have p:=o7 hR hh;refine q.put (o:=Sh.Bp (ob x.S h) n) hR hh rfl ⟨ho.s1,ho.s2,hn,ho.wk,ho.p1,ho.p2,ho.fl⟩ ?_;unfold Sh.nd;rw[F7 hR p,zC p.2.1]
theorem r8.Qi(h:Int):r8 σ (aN x h) m:=by
 unfold aN uA;split
 .rename_i hh;have p:=o7 hR hh;have:=q.Bp hR hh (n:=lu (ob x.S h).Strong) (Q1 (K9 hR hh).st);rw[Hj] at this;·exact this
  .intro n hn e;have:n=Sh.nd σ x.S (E0 h):=q.nd.one hR hn (q.nd.at hR p.1 p.d.2.1) (by rw[e,q.gd.f h _ p.d];rfl);rw[this];unfold Sh.nd;congr 1;rw[F7 hR p];refine zbd.2 ?_;unfold lu;split;·omega
   .split <;> omega
 .exact q
theorem r8.WW{h:Int}(hh:h=0\/h∈lv x.S){k:Nat}(hk:h∈lv x.S->(ob x.S h).Strong<12->(ob x.S h).Strong=k):r8 σ (F0 x h) (if σ h≠0/\11<=k then uC m (σ h) else m):=by
 unfold F0 uA;rcases hh with e | hh
 .subst e;rw[za (ff hR),za (λc=>c.1 q.gd.z)];exact q
 .rw[zb hh];have p:=o7 hR hh;have h0:σ h≠0:=by have:=q.gd.ps hR hh;omega
  have hn:=(K9 hR hh).st;have Q:=q.Bp hR hh (n:=Z8 (ob x.S h).Strong) (E9 hn);have one:∀n∈m.Nodes,n.Serial=σ h->n=Sh.nd σ x.S (E0 h):=λn hn e=>q.nd.one hR hn (q.nd.at hR p.1 p.d.2.1) (by rw[e,q.gd.f h _ p.d];rfl);have hinc:12<=Z8 (ob x.S h).Strong↔11<=(ob x.S h).Strong:=by
   unfold Z8;split;·omega
   .split <;> omega
  have hstk:∀n∈m.Nodes,n.Serial=σ h->n.Stuck=decide (12<=(ob x.S h).Strong):=λn hn e=>by
   rw[one n hn e,F7 hR p];rfl
  by_cases c:11<=(ob x.S h).Strong
  .have e1':(AW m (ja m.Nodes (σ h) λk=>⟨k.Serial,k.Slot,k.Prog,k.Started,k.Alive,decide (12<=Z8 (ob x.S h).Strong),k.Fields⟩))=uC m (σ h):=by
    rw[zC (hinc.2 c)];rfl
   rw[e1'] at Q;split;·exact Q
   .rename_i c2;have c3:12<=(ob x.S h).Strong:=by
     rcases Int.lt_or_le (ob x.S h).Strong 12 with c4 | c4
     .exact absurd ⟨h0,by have:=hk hh c4;omega⟩ c2
     .exact c4
    have:uC m (σ h)=m:=by
     unfold uC;rw[Hj];intro n hn e;have:=hstk n hn e;rw[zC c3] at this;unfold Eb;rw[<-this]
    rw[this] at Q;exact Q
  .have e1':(AW m (ja m.Nodes (σ h) λk=>⟨k.Serial,k.Slot,k.Prog,k.Started,k.Alive,decide (12<=Z8 (ob x.S h).Strong),k.Fields⟩))=m:=by
    rw[zQ (λd=>c (hinc.1 d)),Hj];intro n hn e;have:=hstk n hn e;rw[zQ (by omega)] at this;rw[<-this]
   rw[e1'] at Q;rw[za (λd=>by have:=hk hh (by omega);omega)];exact Q
end
theorem r8.YK{σ:Int->Int}{m:a8}:∀(l:List Int) {x:Hp},SR x.S->r8 σ x m->r8 σ (l.foldl aN x) m
 | [],_,_,h=>h
 | v::l,x,hR,h=>by
  rw[zal];refine r8.YK l (x:=aN x v) ?_ (h.Qi hR v);have:=ij [v] hR;exact this.1.sr
section
variable{σ:Int->Int}{x:Hp}{m:a8}(hS:jt x)(q:r8 σ x m)
include hS q
theorem r8.F0{h:Int}(hf:aS x [])(hh:h=0\/h∈lv x.S):r8 σ (F0 x h) (lk m (σ h)):=
 q.WW hS.sr hh λhl hs=>by rw[q.lY hS hl,hf h hl hs,J1];rfl
theorem r8.roots(r:Nat)(h:Int):r8 σ (wR x (x.Roots.set r h)) (Zo m (m.Roots.set r (σ h))):=
 ⟨q.gd,q.nd,q.sl,q.ge,q.la,q.npl,q.se,by rw[q.ro];exact (zcp ..).symm,q.ce,q.p1,q.p2,q.tk⟩
theorem r8.Un{r:Nat}{h:Int}{k:Nat}(hh:h=0\/h∈lv x.S)(hk:h∈lv x.S->(ob x.S h).Strong<12->(ob x.S h).Strong=k):r8 σ (G8 x r h) (Zo (if σ h≠0/\11<=k then uC m (σ h) else m) (m.Roots.set r (σ h))):=by
 unfold G8;have Q:=q.WW hS.sr hh hk;refine r8.Qi (x:=wR (Sh.F0 x h) (x.Roots.set r h)) (ka hS.sr h) ?_ _;have e:(if σ h≠0/\11<=k then uC m (σ h) else m).Roots=m.Roots:=by split <;> rfl
 have ex:(Sh.F0 x h).Roots=x.Roots:=by rw[pB]
 rw[<-ex,<-e];exact⟨Q.gd,Q.nd,Q.sl,Q.ge,Q.la,Q.npl,Q.se,by rw[Q.ro];exact (zcp ..).symm,Q.ce,Q.p1,Q.p2,Q.tk⟩
theorem r8.G8{r:Nat}{h:Int}(hf:aS x [])(hh:h=0\/h∈lv x.S):r8 σ (G8 x r h) (eP m r (σ h)):=by
 have:=q.Un hS (r:=r) hh (k:=Ey m (σ h)) λhl hs=>by rw[q.lY hS hl,hf h hl hs,J1];rfl
 exact this
end
end Go.Sh
