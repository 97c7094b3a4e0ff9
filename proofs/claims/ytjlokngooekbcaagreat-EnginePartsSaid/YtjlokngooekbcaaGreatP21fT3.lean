/- A part. -/
import Derived.Test.YtjlokngooekbcaaGreatP21fT2
set_option linter.unusedVariables false
set_option linter.unusedSimpArgs false
set_option linter.unusedSectionVars false
namespace Go.Sh
noncomputable def Ns(x:Hp):List Int:=OQ x.S x.T
noncomputable def aD(x:Hp):List Int:=So x.S x.T (Ns x)
theorem aj{x:Hp}{h:Int}:h∈aD x↔h∈lv x.S/\¬aN x.S x.T (Ns x) h:=by
 classical
 unfold aD So;rw[zm,zx]
section
variable{x:Hp}(hx:L5 x)
include hx
theorem eO:(aD x).Nodup:=zbt _ (qF (r9.2 hx.sh.sr))
theorem df:∀d∈aD x,d∈lv x.S:=λd hd=>(aj.1 hd).1
theorem HP{h:Int}(hl:h∈lv x.S)(hs:(ob x.S h).Strong<12):yB x.S x.T h=(X6 (ow x) h:Int):=KP.2 hx.fair h hl hs
theorem GZ{h:Int}(hl:h∈lv x.S)(ho:h∈ow x):h∈Ns x:=by
 refine uo.2 ⟨hl,?_⟩;by_cases hs:(ob x.S h).Strong<12
 .left;rw[HP hx hl hs];have:=cM.2 ⟨λe=>ou hx.sh.sr (e▸hl),ho⟩;omega
 .exact .inr (by omega)
theorem Lh{h:Int}(hh:h∈Ns x):h∈lv x.S/\(h∈ow x\/12<=(ob x.S h).Strong):=by
 obtain⟨hl,hs⟩:=uo.1 hh;refine⟨hl,?_⟩;by_cases q:(ob x.S h).Strong<12
 .rcases hs with hs | hs
  .rw[HP hx hl q] at hs;exact .inl (cM.1 (by omega)).2
  .omega
 .exact .inr (by omega)
theorem OK:∀d∈aD x,d∉ow x:=λd hd q=>by
 obtain⟨a,b⟩:=aj.1 hd;exact b (.base (GZ hx a q) a)
theorem OJ:∀h∈lv x.S,h∉aD x->∀v∈(ob x.S h).Fields,v∉aD x:=λh hh hn v hv q=>by
 obtain⟨a,b⟩:=aj.1 q;have hr:aN x.S x.T (Ns x) h:=we λr=>hn (aj.2 ⟨hh,r⟩);exact b (.step hr (kI.2 ⟨hv,λe=>ou hx.sh.sr (e▸a)⟩) a)
theorem OL:∀k v,Has x.T k v->k∉aD x->v∉aD x:=λk v hk hn q=>by
 obtain⟨a,b⟩:=aj.1 q;have hr:aN x.S x.T (Ns x) k:=we λr=>hn (aj.2 ⟨(hx.sh.pr k v hk).1,r⟩);exact b (.pair hk hr a)
theorem V8:L5 (eI x (aD x)):=xN hx (eO hx) (df hx) (OK hx) (OJ hx) (OL hx)
end
theorem wu:∀(l:List Int) {x:Hp} (hR:SR x.S) {h:Int} (hh:h∈lv x.S) (hs:12<=(ob x.S h).Strong),12<=(ob (l.foldl O9 x).S h).Strong
 | [],_,_,_,_,hs=>hs
 | v::l,x,hR,h,hh,hs=>by
  have k1:=E5 hR v (f:=iY) λc=>M0;refine wu l (x:=O9 x v) k1.sr (by
   show h∈lv (ru x v iY).S;rw[k1.lv];exact hh) ?_
  show 12<=(ob (ru x v iY).S h).Strong;rw[sU (x:=x) hR (h:=v) (f:=iY) (λc=>M0) hh];split
  .unfold iY;rw[zb hs];omega
  .exact hs
section
variable{x:Hp}(hx:L5 x)
include hx
theorem vx{h:Int}:h∈lv (eI x (aD x)).S↔aN x.S x.T (Ns x) h:=by
 rw[Ez hx.sh.sr (eO hx) (df hx),zm,zx,aj];constructor
 .rintro⟨a,b⟩;exact we λr=>b ⟨a,r⟩
 .intro r;exact⟨r.live,λq=>q.2 r⟩
theorem Vf{h:Int}(hh:h∈lv (eI x (aD x)).S):(ob (eI x (aD x)).S h).Serial=(ob x.S h).Serial/\(ob (eI x (aD x)).S h).Prog=(ob x.S h).Prog/\(ob (eI x (aD x)).S h).Fields=(ob x.S h).Fields/\(ob (eI x (aD x)).S h).Started=(ob x.S h).Started:=by
 have r:=(vx hx).1 hh;obtain⟨n,e⟩:=EA hx.sh.sr (eO hx) (df hx) r.live (λq=>(aj.1 q).2 r);rw[e];exact⟨rfl,rfl,rfl,rfl⟩
theorem Lb{h:Int}(hh:h∈lv (eI x (aD x)).S)(hs:12<=(ob x.S h).Strong):12<=(ob (eI x (aD x)).S h).Strong:=by
 have r:=(vx hx).1 hh;have g:=cc (aD x) hx.sh.sr (eO hx) (df hx);have hn:h∉aD x:=λq=>(aj.1 q).2 r;refine wu _ (x:=gC x (aD x) (lu x.T (aD x)).1) g.sr ?_ ?_
 .show h∈lv (km x.S (aD x));rw[g.lv,zm];exact⟨r.live,by simpa using hn⟩
 .show 12<=(ob (km x.S (aD x)) h).Strong;rw[g.ob h r.live hn];exact hs
theorem Sw:ow (eI x (aD x))=ow x:=by
 obtain⟨e1,_,_,e4⟩:=pY hx.sh.sr (eO hx) (df hx);unfold ow;rw[e1,e4,vA _ _ _ λt ht=>by
  obtain⟨w,_,rfl,_⟩:=fw.1 ht;simp]
theorem OI{h:Int}(hh:aN x.S x.T (Ns x) h):aN (eI x (aD x)).S (eI x (aD x)).T (Ns (eI x (aD x))) h:=by
 have w:=V8 hx;obtain⟨_,_,e3,_⟩:=pY hx.sh.sr (eO hx) (df hx);have hlen:(aD x).length<=1000:=by
  have:=gi (eO hx) (df hx);have:=E2 (r9.2 hx.sh.sr);omega
 obtain⟨_,_,_,_,w5,_⟩:=gB hx.sh.hr (aD x) hlen;induction hh with
 | base h1 h2=>
  have hl:=(vx hx).2 (.base h1 h2);refine .base ?_ hl;rcases (Lh hx h1).2 with q | q
  .exact GZ w hl (by rw[Sw hx];exact q)
  .exact uo.2 ⟨hl,.inr (Lb hx hl q)⟩
 | step q0 q1 q2 ih=>
  refine .step ih ?_ ((vx hx).2 (.step q0 q1 q2));unfold outs at q1 |-;rw[(Vf hx ((vx hx).2 q0)).2.2.1];exact q1
 | pair q1 q0 q2 ih=>
  refine .pair ?_ ih ((vx hx).2 (.pair q1 q0 q2));rw[e3];exact (w5 _ _).2 ⟨λq=>(aj.1 q).2 q0,q1⟩
theorem CH:aD (eI x (aD x)) = []:=zah.2 λh hh=>by
 obtain⟨a,b⟩:=aj.1 hh;exact b (OI hx ((vx hx).1 a))
end
theorem Cv{x:Hp}(hx:L5 x)(hg:aD x = []):zr x = []:=zah.2 λh hh=>by
 have hl:=(bz.1 hh).1;have hs:=(bz.1 hh).2;have hf:=BS hx hh;have h0:h≠0:=λe=>ou hx.sh.sr (e▸hl);have r:aN x.S x.T (Ns x) h:=we λr=>by
  have:h∈aD x:=aj.2 ⟨hl,r⟩;rw[hg] at this;cases this
 unfold ov at hf;cases r with
 | base h1 h2=>
  rcases (Lh hx h1).2 with q | q
  .have:=cM.2 ⟨h0,q⟩;omega
  .omega
 | step q0 q1 q2=>
  have:=AG (y:=h) q0.live;have h1:=cM.2 ⟨h0,q1⟩;omega
 | pair q1 q0 q2=>
  have:=AU q1 h0;omega
theorem vy{x:Hp}(hx:L5 x):bS (eI x (aD x))=eI x (aD x):=DJ (Cv (V8 hx) (CH hx))
theorem Lk{c:Int}(h:0<=c):1<=T0 c:=by unfold T0;split <;> (try split) <;> omega
theorem Fz{x:Hp}(hR:SR x.S){h:Int}(hh:h∈lv x.S){k:Int}(hk:k∈lv x.S):(ob (fK x h).S k).Strong=if k=h then T0 (ob x.S k).Strong else (ob x.S k).Strong:=by
 have oko:=I3 hR hh;have ho:xi x.S (cZ (ob x.S h)):=⟨oko.s1,oko.s2,oko.st,oko.wk,oko.p1,oko.p2,oko.fl⟩;have r1:=aL (o:=cZ (ob x.S h)) hR hh rfl ho;have l1:lv (bR x.S h (cZ (ob x.S h)))=lv x.S:=eX (o:=cZ (ob x.S h)) hR hh rfl ho;have hr:=F6 hR hk;have e1:(ob (bR x.S h (cZ (ob x.S h))) k).Strong=(ob x.S k).Strong:=by
  rw[dz (o:=cZ (ob x.S h)) hR hh rfl ho (by omega)];split;·rename_i e;subst e;rfl
  .rfl
 have:=sU (x:=⟨bR x.S h (cZ (ob x.S h)),x.Roots,x.a8,x.T,⟨x.Q.L ++ [tq x h],x.Q.Cap⟩⟩) r1 (h:=h) (f:=T0) (λc=>C5) (k:=k) (by
  show k∈lv (bR x.S h (cZ (ob x.S h)));rw[l1];exact hk)
 rw[show (ob (fK x h).S k).Strong=_ from this];show (if k=h then T0 (ob (bR x.S h (cZ (ob x.S h))) k).Strong else (ob (bR x.S h (cZ (ob x.S h))) k).Strong)=_;rw[e1]
theorem TF{x:Hp}(hx:L5 x)(hz:zr x = []){h:Int}(hh:h∈lv x.S):zr (fK x h) = []:=zah.2 λk hk=>by
 obtain⟨a,b⟩:=bz.1 hk;rw[AY hx.sh.sr hh] at a;rw[Fz hx.sh.sr hh a] at b;have h0:=(I3 hx.sh.sr a).st;have hn:(ob x.S k).Strong≠0:=λq=>by
  have:k∈zr x:=bz.2 ⟨a,q⟩;rw[hz] at this;cases this
 split at b;·have:=Lk h0;omega
 .exact hn b
structure Qd (x y:Hp) (l:List Int):Prop where
 rt:L5 y
 sl:SL y
 zr:zr y = []
 lv:lv y.S=lv x.S
 ob:∀k∈Sh.lv x.S,∃n,Sh.ob y.S k=yH (if k∈l then cZ (Sh.ob x.S k) else Sh.ob x.S k) n
 ro:y.Roots=x.Roots
 ce:y.a8=x.a8
 t:y.T=x.T
 q:y.Q=⟨x.Q.L++l.map (tq x),x.Q.Cap⟩
 Z4:y.S.Serial=x.S.Serial
theorem PJ{x:Hp}(hR:SR x.S){h:Int}(hh:h∈lv x.S):(fK x h).S.Serial=x.S.Serial:=(kN hR hh).1.Z4
theorem FA:∀(l:List Int) {x:Hp},L5 x->SL x->Sh.zr x = []->l.Nodup->(∀h∈l,h∈Sh.lv x.S/\due (Sh.ob x.S h)=true)->Qd x (l.foldl fK x) l
 | [],x,hx,hS,hz,_,_=>⟨hx,hS,hz,rfl,λk hk=>⟨(Sh.ob x.S k).Strong,by rw[za (by simp)];rfl⟩,rfl,rfl,rfl,by simp,rfl⟩
 | h::l,x,hx,hS,hz,hn,hd=>by
  obtain⟨hl,hdu⟩:=hd h (zk ..);have hR:=hx.sh.sr;rw[zak] at hn;have q2:=hdu;unfold due at q2;rw[zp,zx,zb4] at q2;have h1:=sy hx hl q2.1 q2.2;have h2:=Mu hR hS hl;have h3:=TF hx hz hl;have lq:=AY hR hl;have oq:∀k∈Sh.lv x.S,k≠h->∃n,Sh.ob (fK x h).S k=yH (Sh.ob x.S k) n:=λk hk hne=>by
   obtain⟨n,e⟩:=vU hR hl hk;rw[za hne] at e;exact⟨n,e⟩
  have ih:=FA l h1 h2 h3 hn.2 λk hk=>by
   obtain⟨a,b⟩:=hd k (zq _ hk);obtain⟨n,e⟩:=oq k a λe=>hn.1 (e▸hk);refine⟨by rw[lq];exact a,?_⟩;rw[e];exact b
  obtain⟨_,k1,k2,k3,k4⟩:=kN hR hl;refine⟨ih.rt,ih.sl,ih.zr,ih.lv.trans lq,λk hk=>?_,ih.ro.trans k1,ih.ce.trans k2,ih.t.trans k3,?_,ih.Z4.trans (PJ hR hl)⟩
  .obtain⟨n,e⟩:=ih.ob k (by rw[lq];exact hk);obtain⟨m,e2⟩:=vU hR hl hk;refine⟨n,?_⟩;show Sh.ob (l.foldl fK (fK x h)).S k=_;rw[e];by_cases c:k=h
   .subst c;rw[za hn.1,zb (zk ..),e2,zb rfl]
   .rw[za c] at e2;by_cases c2:k∈l
    .rw[zb c2,zb (zq _ c2),e2]
    .rw[za c2,za (λq=>by
      rcases zR.1 q with r | r
      .exact c r
      .exact c2 r),e2]
  .show (l.foldl fK (fK x h)).Q=_;rw[ih.q,k4];have:l.map (tq (fK x h))=l.map (tq x):=zC λk hk=>by
    obtain⟨a,_⟩:=hd k (zq _ hk);obtain⟨n,e⟩:=oq k a λe=>hn.1 (e▸hk);show (⟨1,k,(Sh.ob (fK x h).S k).Prog⟩:g9)=⟨1,k,(Sh.ob x.S k).Prog⟩;rw[e]
   rw[this];simp
noncomputable def jW(x:Hp):List Int:=(aD x).filter λh=>due (Sh.ob x.S h)
noncomputable def BT(x:Hp):Hp:=if jW x = [] then eI x (aD x) else (jW x).foldl fK x
theorem yU{x:Hp}:∀h∈jW x,h∈Sh.lv x.S/\due (Sh.ob x.S h)=true:=λh hh=>by
 obtain⟨a,b⟩:=zm.1 hh;exact⟨(aj.1 a).1,b⟩
theorem Kk{x:Hp}(hx:L5 x):(jW x).Nodup:=zbt _ (eO hx)
theorem Kl{x:Hp}(hx:L5 x)(hS:SL x)(hz:zr x = []):Qd x ((jW x).foldl fK x) (jW x):=FA _ hx hS hz (Kk hx) yU
theorem yZ{x:Hp}(hx:L5 x)(hS:SL x)(hz:zr x = []):L5 (BT x)/\SL (BT x)/\zr (BT x) = []:=by
 unfold BT;split;·exact⟨V8 hx,Km hx.sh.sr hS (eO hx) (df hx),Cv (V8 hx) (CH hx)⟩
 .have q:=Kl hx hS hz;exact⟨q.rt,q.sl,q.zr⟩
theorem Kz{y:Hp}(h:jW y = []):BT y=eI y (aD y):=by
 unfold BT;rw[zb h]
section
variable{x:Hp}(hx:L5 x)
include hx
end
structure Rs (x:Hp) (n:Nat):Prop where
 rt:L5 x
 sl:SL x
 zr:zr x = []
 Z4:x.S.Serial<=n
theorem OO{k p:Nat}{l:Int}(hk:1<=k/\k<=24)(hl:0<=l/\l<=9)(hp:1<=p/\p<=8) :
  cg k l p=some (hZ k l p)/\L5 (hZ k l p)/\SL (hZ k l p)/\zr (hZ k l p) = []:=by
 have e1:bP k l=some (hZ k l p).S:=by
  unfold bP O3;rw[za (by simp;omega),lF (by omega) (by omega)];rfl
 have h3:rH (sO (hZ k l p).S):=by
  refine⟨by simp[sO,hZ];omega,hl.1,hl.2,by simp[sO,hZ],λi h=>?_,λi h=>?_,λi h q=>?_,λi h k hk q=>?_⟩;·simp[sO,cO,hZ];omega
  .simp[sO,cO,oo,Ej,hZ]
  .exfalso;simp[sO,cO,oo,JG,hZ] at q
  .exfalso;simp[sO,cO,oo,JG,hZ] at q
 have hR:SR (hZ k l p).S:=r9.1 h3;have hce:∀i,ce (hZ k l p).S i=⟨0,0,z0⟩:=λi=>by
  unfold ce hZ;dsimp only;rw[zd,List.getElem?_replicate];split <;> rfl
 have hlv:lv (hZ k l p).S = []:=zah.2 λh hh=>by
  obtain⟨i,q⟩:=(dX hR).1 hh;have:=q.2.1;rw[hce] at this;cases this
 refine⟨?_,⟨⟨hR,(Nc (V:=Int) (λ_ _=>True) hp.1 hp.2).1,rfl,rfl,rfl,un _,(λt ht=>nomatch ht),List.Pairwise.nil,(λh hh=>.inl (zbc.1 hh).2),λh hh=>?_,λa v hv=>?_,λi hi=>?_⟩,λi hi ht=>?_,λh hh=>?_⟩,λh hh=>?_,?_⟩
 .unfold cg;rw[za (by simp;omega),e1,XB,show mk 8 6 (0:Int)=some (List.replicate 6 0) from rfl,XB];refine tI (a:=List.replicate 6 ⟨0,false,-1⟩) (by kernel_rfl) ?_;rw[LL hp.1 hp.2,XB];refine tI (a:=⟨[],30⟩) (by kernel_rfl) ?_;rfl
 .rw[hlv] at hh;cases hh
 .obtain⟨i,hi,_⟩:=hv;have:=hi.2.1;rw[show (hZ k l p).T=List.replicate p ⟨0,0,0⟩ from rfl,sx] at this;cases this
 .have:(hZ k l p).a8[i]=⟨0,false,-1⟩:=List.getElem_replicate ..;rw[this];exact⟨by decide,by decide,λ_=>rfl,λh=>absurd rfl h,λh=>by cases h⟩
 .rw[hce] at ht;rcases ht with h | h <;> cases h
 .rw[hlv] at hh;cases hh
 .rw[hlv] at hh;cases hh
 .unfold zr;rw[hlv];rfl
theorem TX{k p:Nat}{l:Int}(hk:1<=k/\k<=24)(hl:0<=l/\l<=9)(hp:1<=p/\p<=8):cg k l p=some (hZ k l p)/\Rs (hZ k l p) 0:=by
 obtain⟨a,b,c,d⟩:=OO hk hl hp;exact⟨a,b,c,d,pm _⟩
section
variable{x:Hp}(hx:L5 x)(hS:SL x)
include hx hS
theorem EC:L2 x=some (aD x):=by
 have hB:=QQ hx hS;unfold L2;rw[ES (r9.2 hx.sh.sr) hx.sh.hr hB.tb hB.fb hB.sb];rfl
theorem Kp:eC (hO x)=some (aD x):=by
 have hB:=QQ hx hS;unfold eC;rw[show (hO x).S=sO x.S from rfl,show (hO x).T=x.T.map K1 from rfl,Aw (r9.2 hx.sh.sr) hx.sh.hr hB.tb hB.sb];rfl
theorem qn:(aD x).length<=24:=wd (zO ..) (E2 (r9.2 hx.sh.sr))
theorem RX:dE x=some (jW x):=by
 have hR:=hx.sh.sr;have hl:=qn hx hS;unfold dE;rw[EC hx hS,XB];unfold F5;simp only[jn];refine tI (a:=jW x) ?_ rfl;refine M2 (aD x).length (λk b=>b=((aD x).take k).filter λh=>due (Sh.ob x.S h)) (by omega) rfl (λk b hk hP=>?_) (λb hP=>?_)
 .subst hP;have hm:=df hx _ (zh hk);have hle:(((aD x).take k).filter λh=>due (Sh.ob x.S h)).length<=24:=wd (zO ..) (by simp;omega);refine .inl ⟨_,?_,rfl⟩;rw[zb (by simpa using hk),o0 hk,XB,L0 hk,zaw];unfold eM;rw[sa hR hm,XB,XB];have e:(decide ((ob x.S (aD x)[k],(0:Int)).1.Prog>=0) && !(ob x.S (aD x)[k],(0:Int)).1.Started)=due (ob x.S (aD x)[k]):=rfl;rw[e];cases hd:due (ob x.S (aD x)[k])
  .rw[za (by simp),k8];simp[hd]
  .rw[zb rfl,y4 (by omega) (by simp;omega),XB,k8];simp[hd]
 .subst hP;refine⟨_,za (by simp),?_⟩;rw[zL];rfl
theorem UO:sH (hO x)=some (jW x):=by
 have hR:=hx.sh.sr;have hl:=qn hx hS;unfold sH;rw[Kp hx hS,XB];simp only[jn];refine M2 (aD x).length (λk b=>b=((aD x).take k).filter λh=>due (Sh.ob x.S h)) (by omega) rfl (λk b hk hP=>?_) (λb hP=>?_)
 .subst hP;have hm:=df hx _ (zh hk);have hle:(((aD x).take k).filter λh=>due (Sh.ob x.S h)).length<=24:=wd (zO ..) (by simp;omega);refine .inl ⟨_,?_,rfl⟩;rw[zb (by simpa using hk),o0 hk,XB,L0 hk,zaw,KI hx hS (cr hR hm),XB,zu hm,ut];cases hd:due (ob x.S (aD x)[k])
  .rw[za (by simp),k8];simp[hd]
  .rw[zb rfl,y4 (by omega) (by simp;omega),XB,k8];simp[hd]
 .subst hP;refine⟨_,za (by simp),?_⟩;rw[zL];rfl
theorem Sb:dF x=some (decide (aD x = [])):=by
 unfold dF;rw[EC hx hS,XB];congr 1;cases aD x <;> simp <;> omega
theorem UQ:sI (hO x)=some (decide (aD x = [])):=by
 unfold sI;rw[Kp hx hS,XB];congr 1;cases aD x <;> simp <;> omega
noncomputable def Nq(x:Hp):Int:=if jW x = [] then ((lv x.S).length:Int)-((lv (BT x).S).length:Int) else 0
omit hx hS in
theorem Ly {l:List Int} (hn:l.Nodup) (hm:∀d∈l,d∈lv x.S):Vl x l=l:=by
 have key:∀(l b:List Int),(b++l).Nodup->(∀d∈l,d∈lv x.S)->l.foldl (λb h=>if h∈lv x.S/\h∉b then b ++ [h] else b) b=b++l:=by
  intro l;induction l with
  | nil=>intro b _ _;simp
  | cons a l ih=>
   intro b hn hm;rw[zaj];have ha:a∉b:=λq=>by
    rw[zbv] at hn;exact hn.2.2 a q a (zk ..) rfl
   rw[zb ⟨hm a (zk ..),ha⟩,ih (b ++ [a]) (by simpa using hn) λd hd=>hm d (zq _ hd)];simp
 exact key l [] (by simpa using hn) hm
variable(hz:zr x = [])
include hz
theorem Ib{k:Nat}(hk:k<(jW x).length):(((jW x).take k).foldl fK x)=(((jW x).take k).foldl fK x)/\L5 (((jW x).take k).foldl fK x)/\SL (((jW x).take k).foldl fK x)/\(jW x)[k]∈lv (((jW x).take k).foldl fK x).S/\due (ob (((jW x).take k).foldl fK x).S (jW x)[k])=true:=by
 have hn:=Kk hx;have q:=FA ((jW x).take k) hx hS hz ((List.take_sublist ..).nodup hn) λh hh=>yU h (zav hh);obtain⟨a,b⟩:=yU (jW x)[k] (zh hk);refine⟨rfl,q.rt,q.sl,by rw[q.lv];exact a,?_⟩;obtain⟨n,e⟩:=q.ob _ a;have hnot:(jW x)[k]∉(jW x).take k:=λh=>by
  have:=L0 hk;have hs:((jW x).take (k+1)).Nodup:=(List.take_sublist ..).nodup hn;rw[this,zbv] at hs;exact hs.2.2 _ h _ (List.mem_singleton_self _) rfl
 rw[e,za hnot];exact b
theorem yV:(jW x).length<=24:=wd (zO ..) (qn hx hS)
theorem Sc:V0 x=some (BT x,((jW x).length:Int),Nq x):=by
 have hR:=hx.sh.sr;have hl:=yV hx hS hz;obtain⟨c1,c2,c3⟩:=yZ hx hS hz;unfold V0;rw[RX hx hS,XB];simp only[jn];refine M2 (jW x).length (λk b=>b=((jW x).take k).foldl fK x) (by omega) rfl (λk b hk hP=>?_) (λb hP=>?_)
 .subst hP;obtain⟨_,r1,r2,r3,r4⟩:=Ib hx hS hz hk;refine .inl ⟨_,?_,rfl⟩;rw[zb (by simpa using hk),o0 hk,XB,yt r1 r2 (cr r1.sh.sr r3),XB,k8,L0 hk,za1];unfold Ri;rw[zb ⟨r3,r4⟩];rfl
 .subst hP;refine⟨_,za (by simp),?_⟩;rw[zL];by_cases hb:jW x = []
  .have e:BT x=eI x (aD x):=Kz hb;rw[za (by simp[hb])];unfold Nq;rw[zb hb,e,hb];have h1:=eO hx;have h2:=df hx;have hlive:=cq (r9.2 hR);have hlive2:=cq (r9.2 (V8 hx).sh.sr);have l1:=E2 (r9.2 hR);have l2:=E2 (r9.2 (V8 hx).sh.sr);show (L2 x).bind _=_;rw[EC hx hS,XB,List.foldl_nil,GN hx h1 h2 (HN hx) (by rw[qD hR _ (by have:=qn hx hS;omega) λh hh=>cr hR (h2 h hh),Ly h1 h2]),XB,fO (V8 hx) (by rw[<-e];exact c2),XB,vy hx,hlive,XB,hlive2,XB,D1 (by omega) (by omega)];rfl
  .have:0<(jW x).length:=List.length_pos_iff.2 hb;rw[zb (by simp;omega)];unfold Nq BT;rw[za hb,za hb]
theorem US:mP (hO x)=some (hO (BT x),((jW x).length:Int),Nq x):=by
 have hR:=hx.sh.sr;have hl:=yV hx hS hz;obtain⟨c1,c2,c3⟩:=yZ hx hS hz;unfold mP;rw[UO hx hS,XB];simp only[jn];by_cases hb:jW x = []
 .have e:BT x=eI x (aD x):=Kz hb;rw[za (by simp[hb])];unfold Nq;rw[zb hb,e,hb];have h1:=eO hx;have h2:=df hx;have hlive:=mA (r9.2 hR);have hlive2:=mA (r9.2 (V8 hx).sh.sr);have l1:=E2 (r9.2 hR);have l2:=E2 (r9.2 (V8 hx).sh.sr);rw[Kp hx hS,XB,xO hx h1 h2 (HN hx) (by rw[KJ hR _ (by have:=qn hx hS;omega) λh hh=>cr hR (h2 h hh),Ly h1 h2]),XB,jz (V8 hx) (by rw[<-e];exact c2),XB,vy hx,show (hO x).S=sO x.S from rfl,hlive,XB,show (hO (eI x (aD x))).S=sO (eI x (aD x)).S from rfl,hlive2,XB,D1 (by omega) (by omega)];rfl
 .have hp:0<(jW x).length:=List.length_pos_iff.2 hb;rw[zb (by simp;omega)];refine M2 (jW x).length (λk b=>b=hO (((jW x).take k).foldl fK x)) (by omega) rfl (λk b hk hP=>?_) (λb hP=>?_)
  .subst hP;obtain⟨_,r1,r2,r3,r4⟩:=Ib hx hS hz hk;refine .inl ⟨_,?_,rfl⟩;rw[zb (by simpa using hk),o0 hk,XB,Dm r1 r2 (cr r1.sh.sr r3),XB,k8,L0 hk,za1];unfold Ri;rw[zb ⟨r3,r4⟩];rfl
  .subst hP;refine⟨_,za (by simp),?_⟩;rw[zL];unfold Nq BT;rw[za hb,za hb]
end
theorem OA{x:Hp}(hx:L5 x)(hS:SL x)(hz:zr x = []):(BT x).S.Serial=x.S.Serial:=by
 unfold BT;split
 .have g:=cc (aD x) hx.sh.sr (eO hx) (df hx);exact (gp ((aD x).flatMap (outs x.S)++(lu x.T (aD x)).2) (x:=gC x (aD x) (lu x.T (aD x)).1) g.sr).1.Z4.trans g.Z4
 .exact (Kl hx hS hz).Z4
def Sv(s s':a7):Prop:=s'.S.a8.length=s.S.a8.length/\∀i,i<s.S.a8.length->(ce s i).Gen<=(ce s' i).Gen/\((ce s' i).Gen=(ce s i).Gen->((ce s i).State≠0->(ce s' i).State≠0)/\((ce s' i).State=1->(ce s i).State=0\/((ce s i).State=1/\((ce s i).Val.Started=true->(ce s' i).Val.Started=true))))
theorem Sv.refl(s:a7):Sv s s:=⟨rfl,λi _=>⟨pm _,λ_=>⟨id,λh=>.inr ⟨h,id⟩⟩⟩⟩
theorem Sv.trans{a b c:a7}(h:Sv a b)(q:Sv b c):Sv a c:=by
 obtain⟨h1,h2⟩:=h;obtain⟨q1,q2⟩:=q;refine⟨q1.trans h1,λi hi=>?_⟩;obtain⟨a1,a2⟩:=h2 i hi;obtain⟨b1,b2⟩:=q2 i (by omega);refine⟨by omega,λe=>?_⟩;obtain⟨a3,a4⟩:=a2 (by omega);obtain⟨b3,b4⟩:=b2 (by omega);refine⟨λh=>b3 (a3 h),λh=>?_⟩;rcases b4 h with r | ⟨r,r'⟩
 .exact .inl (we λn=>a3 n r)
 .rcases a4 r with k | ⟨k,k'⟩
  .exact .inl k
  .exact .inr ⟨k,λs=>r' (k' s)⟩
def Gp(s:a7)(h:Int):Prop:=∃(i:Nat) (g:Int),i<s.S.a8.length/\h=1+(i:Int)+32*g/\(g<(ce s i).Gen\/(g=(ce s i).Gen/\(ce s i).State≠0/\((ce s i).State=1->(ce s i).Val.Started=true)))
theorem Sv.VR{s s':a7}(h:Sv s s'){k:Int}(q:Gp s k):Gp s' k:=by
 obtain⟨i,g,hi,e,q⟩:=q;obtain⟨h1,h2⟩:=h;obtain⟨a,b⟩:=h2 i hi;refine⟨i,g,by omega,e,?_⟩;rcases q with q | ⟨q1,q2,q3⟩
 .exact .inl (by omega)
 .by_cases c:(ce s' i).Gen=(ce s i).Gen
  .obtain⟨b1,b2⟩:=b c;refine .inr ⟨by omega,b1 q2,λr=>?_⟩;rcases b2 r with k | ⟨k1,k2⟩
   .exact absurd k q2
   .exact k2 (q3 k1)
  .exact .inl (by omega)
theorem Jw{s:a7}(hR:SR s){h:Int}(hh:h∈lv s)(hs:(ob s h).Started=false):¬Gp s h:=by
 rintro⟨i,g,hi,e,q⟩;obtain⟨j,hj⟩:=(dX hR).1 hh;have hl:=hR.len;have hij:i=j:=by
  have:=hj.2.2;have:=hj.1;omega
 subst hij;have:=hj.2.2;rcases q with q | ⟨q1,q2,q3⟩
 .omega
 .rw[N5 hR hj,q3 hj.2.1] at hs;cases hs
theorem tF.sv{s s':a7}(hR:SR s)(k:tF s s'):Sv s s':=⟨k.len,λi hi=>by
 obtain⟨a,b,_,_,_⟩:=k.ce i hi;refine⟨by omega,λ_=>⟨by omega,λh=>.inr ⟨by omega,λq=>?_⟩⟩⟩;have h1:At s (cS s i) i:=⟨hi,by omega,rfl⟩;have h2:At s' (cS s i) i:=⟨by rw[k.len];exact hi,h,by rw[b];rfl⟩;have hl:=F6 hR ((dX hR).2 ⟨i,h1⟩);obtain⟨n,e⟩:=k.ob (cS s i) (by omega);rw[N5 k.sr h2,N5 hR h1] at e;rw[e];exact q⟩
theorem MR{s:a7}(hR:SR s){h:Int}(hh:h∈lv s){o:k9}(hs:o.Serial=(ob s h).Serial)(ho:xi s o)(hst:(ob s h).Started=true->o.Started=true):Sv s (bR s h o):=⟨HU s h o,λi hi=>by
 have q:=y5 hR hh;rw[Bv hR hh hs ho];split
 .rename_i e;subst e;refine⟨pm _,λ_=>⟨id,λr=>.inr ⟨q.2.1,λk=>hst ?_⟩⟩⟩;rw[N5 hR q];exact k
 .exact⟨pm _,λ_=>⟨id,λr=>.inr ⟨r,id⟩⟩⟩⟩
theorem LD{s:a7}(hR:SR s){i:Nat}(hi:i<s.S.a8.length)(ht:Th (ce s i))(d:Int):Sv s (nC s i d):=⟨K8 ..,λj hj=>by
 rw[eR hR hi ht];split
 .rename_i e;subst e;exact⟨pm _,λ_=>⟨id,λr=>.inr ⟨r,id⟩⟩⟩
 .exact⟨pm _,λ_=>⟨id,λr=>.inr ⟨r,id⟩⟩⟩⟩
theorem SE{s:a7}{i:Nat}(hi:i<s.S.a8.length):Sv s (xZ s i):=⟨V5 ..,λj hj=>by
 unfold xZ;rw[J0 hi];by_cases e:j=i
 .subst e;rw[zb rfl];split;·exact⟨pm _,λ_=>⟨λ_=>(by decide:(3:Int)≠0),λr=>absurd (show (3:Int)=1 from r) (by decide)⟩⟩
  .refine⟨by show _<=(ce s j).Gen+1;omega,λr=>?_⟩;have:(ce s j).Gen+1=(ce s j).Gen:=r;omega
 .rw[za e];exact⟨pm _,λ_=>⟨id,λr=>.inr ⟨r,id⟩⟩⟩⟩
theorem Gn.sv{s s':a7}{ds:List Int}(g:Gn s s' ds):Sv s s':=⟨g.len,λj hj=>by
 rw[g.ce];split
 .unfold JH;split
  .split;·exact⟨pm _,λ_=>⟨λ_=>(by decide:(3:Int)≠0),λr=>absurd (show (3:Int)=1 from r) (by decide)⟩⟩
   .refine⟨by show _<=(Sh.ce s j).Gen+1;omega,λr=>?_⟩;have:(Sh.ce s j).Gen+1=(Sh.ce s j).Gen:=r;omega
  .exact⟨pm _,λ_=>⟨λ_=>(by decide:(2:Int)≠0),λr=>absurd (show (2:Int)=1 from r) (by decide)⟩⟩
 .exact⟨pm _,λ_=>⟨id,λr=>.inr ⟨r,id⟩⟩⟩⟩
theorem Vr{s:a7}(hR:SR s){i:Nat}(hi:i<s.S.a8.length)(h0:(ce s i).State=0){n:Nat}(hn:n<=4){p:Int}(hp : -1<=p/\p<=5):Sv s (dO s i n p):=⟨iK hR hi h0 hn hp,λj hj=>by
 rw[lE hR hi h0 hn hp];split
 .rename_i e;subst e;exact⟨pm _,λ_=>⟨λr=>absurd h0 r,λ_=>.inl h0⟩⟩
 .exact⟨pm _,λ_=>⟨id,λr=>.inr ⟨r,id⟩⟩⟩⟩
theorem FO{x:Hp}(hR:SR x.S)(h:Int):Sv x.S (B2 x h).S:=(E5 hR h (f:=T0) λc=>C5).sv hR
theorem Bp{x:Hp}(hR:SR x.S)(h:Int):Sv x.S (O9 x h).S:=(E5 hR h (f:=iY) λc=>M0).sv hR
theorem DC{x:Hp}(hR:SR x.S)(r:Nat)(h:Int):Sv x.S (E4 x r h).S:=
 (FO hR h).trans (Bp (x:=wR (B2 x h) (x.Roots.set r h)) (eW hR h) _)
theorem IF{x:Hp}(hR:SR x.S){h:Int}(hh:h∈lv x.S){n:Nat}(hn:n<(ob x.S h).Fields.length)(v:Int):Sv x.S (bl x h n v).S:=by
 have k1:=Bs hR v;have hh1:h∈lv (B2 x v).S:=by rw[k1.lv];exact hh
 have hof:(ob (B2 x v).S h).Fields=(ob x.S h).Fields:=by
  obtain⟨n,e⟩:=(E5 hR v (f:=T0) λc=>C5).ob h (by have:=F6 hR hh;omega);show (ob (ru x v T0).S h).Fields=_;rw[e]
 have ho:xi (B2 x v).S (ny (ob (B2 x v).S h) ((ob x.S h).Fields.set n v)):=by
  have:=I3 k1.sr hh1;refine⟨this.s1,this.s2,this.st,this.wk,this.p1,this.p2,?_⟩;have h4:=this.fl;rw[hof] at h4;simpa using h4
 have k2:=MR (o:=ny (ob (B2 x v).S h) ((ob x.S h).Fields.set n v)) k1.sr hh1 rfl ho id;exact ((FO hR v).trans k2).trans (Bp (x:=wS (B2 x v) (bR (B2 x v).S h (ny (ob (B2 x v).S h) ((ob x.S h).Fields.set n v)))) (aL (o:=ny (ob (B2 x v).S h) ((ob x.S h).Fields.set n v)) k1.sr hh1 rfl ho) _)
theorem Mj{x:Hp}(hR:SR x.S)(v:Int)(t:Tb)(old:Int):Sv x.S (jj x v t old).S:=
 (FO hR v).trans (Bp (x:=wT (B2 x v) t) (eW hR v) old)
theorem SY{x:Hp}(hR:SR x.S)(h d:Int):Sv x.S (jg x h d).S:=by
 unfold jg;split
 .rename_i q;exact LD hR q.1 q.2.1 d
 .exact Sv.refl _
theorem Qt{x:Hp}(hR:SR x.S)(h:Int):Sv x.S (ni x h).S:=by
 unfold ni;split
 .rename_i q;have k:=LD hR q.1 q.2.1 (-1);split;·exact k.trans (SE (by rw[k.1];exact q.1))
  .exact k
 .exact Sv.refl _
theorem Ni{x:Hp}(hx:L5 x)(n:Nat)(h call:Int):Sv x.S (da x n h call).S:=by
 have hR:=hx.sh.sr;unfold da;have s1:Sv x.S (jg (wC x (x.a8.set n (iw h call))) h 1).S:=SY (x:=wC x (x.a8.set n (iw h call))) hR h 1;refine s1.trans (Qt ?_ _);unfold jg;split
 .rename_i q;have:=(hR.ok _ q.1 q.2.1).wk;exact vK hR q.1 q.2.1 (by omega)
 .exact hR
theorem RY{x:Hp}(hR:SR x.S){ds:List Int}(hn:ds.Nodup)(hm:∀d∈ds,d∈lv x.S):Sv x.S (eI x ds).S:=by
 have g:=cc ds hR hn hm;exact g.sv.trans ((gp (ds.flatMap (outs x.S)++(lu x.T ds).2) (x:=gC x ds (lu x.T ds).1) g.sr).1.sv g.sr)
theorem TE{x:Hp}(hR:SR x.S){h:Int}(hh:h∈lv x.S):Sv x.S (fK x h).S:=by
 have oko:=I3 hR hh;have ho:xi x.S (cZ (ob x.S h)):=⟨oko.s1,oko.s2,oko.st,oko.wk,oko.p1,oko.p2,oko.fl⟩;exact (MR (o:=cZ (ob x.S h)) hR hh rfl ho λ_=>rfl).trans ((kN hR hh).1.sv (aL (o:=cZ (ob x.S h)) hR hh rfl ho))
theorem Uk{x:Hp}(hx:L5 x):Sv x.S (HZ x).S:=by
 cases h:zr x with
 | nil=>rw[nV h];exact Sv.refl _
 | cons z l=>
  have hz:z∈zr x:=by rw[h];exact zk ..
  have hzl:=(bz.1 hz).1;rw[gx h];split;·exact TE hx.sh.sr hzl
  .exact RY hx.sh.sr (by simp) (by simpa using hzl)
theorem Ug{x:Hp}(hx:L5 x)(n:Nat):Sv x.S (tS n x).S:=by
 induction n with
 | zero=>exact Sv.refl _
 | succ n ih=>rw[cL];exact ih.trans (Uk (az hx n))
theorem Qf{x:Hp}(hx:L5 x):Sv x.S (bS x).S:=Ug hx 100
structure Fw (x y:Hp):Prop where
 sv:Sv x.S y.S
 q:∃l,y.Q=⟨x.Q.L++l,x.Q.Cap⟩/\∀t∈l,t.Kind=1->¬Gp x.S t.At
theorem Fw.of{x y:Hp}(h:Sv x.S y.S)(q:y.Q=x.Q):Fw x y:=⟨h,[],by rw[q,mt],λt ht=>by cases ht⟩
theorem Fw.refl(x:Hp):Fw x x:=Fw.of (Sv.refl _) rfl
theorem Fw.trans{x y z:Hp}(a:Fw x y)(b:Fw y z):Fw x z:=by
 obtain⟨l,q1,q2⟩:=a.q;obtain⟨m,r1,r2⟩:=b.q;refine⟨a.sv.trans b.sv,l++m,by rw[r1,q1,zad],λt ht hk=>?_⟩;rcases zt.1 ht with h | h
 .exact q2 t h hk
 .exact λs=>r2 t h hk (a.sv.VR s)
theorem Bx{x:Hp}(hx:L5 x):Fw x (bS x):=by
 obtain⟨l,q1,q2,_⟩:=(na hx).q;exact⟨Qf hx,l,q1,λt ht hk=>Jw hx.sh.sr (q2 t ht hk).1 (q2 t ht hk).2⟩
theorem gq{x:Hp}(hR:SR x.S)(r:Nat)(h:Int):Fw x (E4 x r h):=Fw.of (DC hR r h) (gr x r h).2.2.2
theorem UY{x:Hp}(hx:L5 x)(hS:SL x)(hz:zr x = [])(hb:x.S.Serial<9223372036854775807)(o:c9):(∃e,Er x o e)\/∃z v,Dn x o z v/\Fw x z:=by
 have hR:=hx.sh.sr;obtain⟨k,a,b,c⟩:=o;by_cases hc:A2 k a b c=0
 .have:=Hf hc;have hk:k=1\/k=2\/k=3\/k=4\/k=5\/k=6\/k=7\/k=8\/k=9\/k=10\/k=11\/k=12:=by omega
  rcases hk with rfl | rfl | rfl | rfl | rfl | rfl | rfl | rfl | rfl | rfl | rfl | rfl
  .rcases d1 hx hS hb hc with ⟨e,_,h⟩ | ⟨hn,hcc,i,hF,h⟩;·exact .inl ⟨e,h⟩
   .obtain⟨hi,h0,_⟩:=hF;have k1:Fw x (wS x (dO x.S i b.toNat c)):=Fw.of (Vr hR hi h0 hn hcc) rfl;exact .inr ⟨_,_,h,k1.trans (gq (x:=wS x (dO x.S i b.toNat c)) (CY hR hi h0 hn hcc) _ _)⟩
  .exact .inr ⟨_,_,d2 hx hS hc,gq hR _ _⟩
  .exact .inr ⟨_,_,d3 hx hS hc,gq hR _ _⟩
  .rcases d4 hx hS hc with ⟨_,h⟩ | ⟨e,_,h⟩ | ⟨_,n,_,_,h⟩;·exact .inl ⟨_,h⟩
   .exact .inl ⟨_,h⟩
   .exact .inr ⟨_,_,h,gq hR _ _⟩
  .rcases d5 hx hS hc with ⟨_,h⟩ | ⟨e,_,h⟩ | ⟨hl,n,_,hn,h⟩;·exact .inl ⟨_,h⟩
   .exact .inl ⟨_,h⟩
   .exact .inr ⟨_,_,h,Fw.of (IF hR hl hn _) (mh _ _ _ _).2.2.2⟩
  .rcases d6 hx hS hc with ⟨_,h⟩ | ⟨e,_,h⟩ | ⟨_,h⟩;·exact .inl ⟨_,h⟩
   .exact .inl ⟨_,h⟩
   .exact .inr ⟨_,_,h,Fw.of (Ni hx _ _ _) (wV _ _ _ _).2.2.2⟩
  .obtain⟨_,⟨_,h⟩ | ⟨_,h⟩⟩:=d7 hx hS hc;·exact .inl ⟨_,h⟩
   .exact .inr ⟨_,_,h,gq hR _ _⟩
  .rcases d8 hx hS hc with ⟨_,h⟩ | ⟨_,e,_,h⟩ | ⟨_,r,_,_,h⟩;·exact .inl ⟨_,h⟩
   .exact .inl ⟨_,h⟩
   .exact .inr ⟨_,_,h,Fw.of (Mj hR _ _ _) (pA _ _ _ _).2.2.2⟩
  .rcases d9 hx hS hc with ⟨_,h⟩ | ⟨_,_,h⟩ | ⟨_,v,_,h⟩;·exact .inl ⟨_,h⟩
   .exact .inl ⟨_,h⟩
   .exact .inr ⟨_,_,h,gq hR _ _⟩
  .exact .inr ⟨_,_,d10 hx hS hz hc,Fw.refl x⟩
  .obtain⟨h1,h2⟩:=Ah (x:=x) (a:=a) (b:=b) (c:=c) (.inl rfl) hc;exact .inl ⟨14,by decide,h1,h2⟩
  .obtain⟨h1,h2⟩:=Ah (x:=x) (a:=a) (b:=b) (c:=c) (.inr rfl) hc;exact .inl ⟨14,by decide,h1,h2⟩
 .obtain⟨h1,h2⟩:=KH (x:=x) (o:=⟨k,a,b,c⟩) hc;exact .inl ⟨_,hc,h1,h2⟩
theorem Sg{x:Hp}(hx:L5 x)(hS:SL x)(hz:zr x = [])(hb:x.S.Serial<9223372036854775807)(o:c9):Fw x (xn x o).1:=by
 rcases UY hx hS hz hb o with ⟨e,_,h,_⟩ | ⟨z,v,d,f⟩
 .have:xn x o=(x,0,e):=by unfold xn;rw[h];rfl
  rw[this];exact Fw.refl x
 .have:xn x o=(bS z,v,0):=by unfold xn;rw[d.mc];rfl
  rw[this];exact f.trans (Bx d.rt)
theorem VO{x:Hp}(h1:iR x)(h2:Wk x){L:List Int}(h3:bA x L){r:Nat}(hr:r<6){h:Int}(hh:h=0\/h∈lv x.S):iR (E4 x r h)/\Wk (E4 x r h)/\bA (E4 x r h) L:=by
 have xt:=E5 h1.sr h (f:=T0) λc=>C5;have l1:lv (B2 x h).S=lv x.S:=xt.lv;have f1:bA (B2 x h) (h::L):=DE h1.sr h3 h;have s1:iR (B2 x h):=h1.st h (f:=T0) λc=>C5;have s2:iR (wR (B2 x h) (x.Roots.set r h)):=s1.roots (by rw[zbh];exact h1.r6) λv hv=>by
  rw[l1];rcases zbp hv with q | q
  .exact h1.rt v q
  .exact q▸hh
 have w1:Wk (B2 x h):=h2.st h1.sr h (f:=T0) λc=>C5;have one:∀v k,X6 [v] k=if v=k/\k≠0 then 1 else 0:=λv k=>by rw[E9,O7,t7]
 have f2:bA (wR (B2 x h) (x.Roots.set r h)) (x.Roots.getD r 0::L):=f1.mv rfl (λ_ _=>rfl) λk hk=>by
  have:=uL (l:=x.Roots) (r:=r) (by rw[h1.r6];exact hr) h k;rw[one,one] at this;rw[sM x h];unfold ov ow;dsimp only;rw[I6,I6,sX,sX,E9 h L,E9 (x.Roots.getD r 0) L];omega
 exact⟨s2.st _ λc=>M0,Wk.st (x:=wR (B2 x h) (x.Roots.set r h)) w1 s2.sr _ λc=>M0,rj (x:=wR (B2 x h) (x.Roots.set r h)) s2.sr f2⟩
abbrev rz(x:Hp)(ts:List g9):Hp:=wQ x ⟨ts,x.Q.Cap⟩
noncomputable def rW(x:Hp)(ts:List g9)(h:Int):Hp:=O9 (E4 (rz x ts) 5 h) h
section
variable{x:Hp}(hx:L5 x){t:g9}{ts:List g9}(hq:x.Q.L=t::ts)
include hx hq
theorem BJ:iR (rz x ts):=by
 have h:=hx.sh;refine⟨h.sr,h.hr,h.r6,h.c6,h.cap,?_,λu hu=>h.tk u (by rw[hq];exact zq _ hu),?_,h.rt,h.fl,h.pr,λi hi=>?_⟩
 .have:=h.q30;rw[hq,zA] at this;show ts.length<=30;omega
 .have:=h.td;rw[hq,zbo] at this;exact this.2
 .obtain⟨a,b,c,d,e⟩:=h.cl i hi;refine⟨a,b,c,d,λq=>⟨(e q).1,?_⟩⟩;have:=(e q).2;rw[za9] at this |-;intro r;obtain⟨u,hu,k1,k2⟩:=iy.1 r;exact this (iy.2 ⟨u,by rw[hq];exact zq _ hu,k1,k2⟩)
theorem DU:bA (rz x ts) (if t.Kind=1 then [t.At] else []):=hx.fair.mv rfl (λ_ _=>rfl) λh _=>by
 unfold ov ow xq;dsimp only;rw[hq,rx];by_cases k:t.Kind=1
 .rw[zb k,zb (by simpa using k),ul,I6,I6,E9 t.At (List.map _ _),E9 t.At [],O7];omega
 .rw[za k,za (by simpa using k),O7]
theorem EB(hk:t.Kind≠1):L5 (rz x ts):=⟨BJ hx hq,hx.wk,by have:=DU hx hq;rwa [za hk] at this⟩
theorem EL(hk:t.Kind=1):t.At∈lv x.S/\(ob x.S t.At).Started=true:=by
 rcases (hx.sh.tk t (by rw[hq];exact zk ..)).2.2 with ⟨_,b,c⟩ | ⟨b,_⟩;·exact⟨b,c⟩
 .omega
theorem iZ(hk:t.Kind=1):L5 (rW x ts t.At):=by
 have f:=DU hx hq;rw[zb hk] at f;obtain⟨a,b,c⟩:=VO (BJ hx hq) (x:=rz x ts) hx.wk f (r:=5) (by decide) (.inr (EL hx hq hk).1);exact⟨a.st _ λc=>M0,b.st a.sr _ λc=>M0,rj a.sr c⟩
omit hq in
theorem EM (hS:SL x) (h:Int):SL (rW x ts h):=by
 have k:=gu (x:=rz x ts) hx.sh.sr hS 5 h;exact Bn [h] (aY (x:=rz x ts) hx.sh.sr 5 h).sr k
omit hq in
theorem Sn (h:Int):Ks x.S (rW x ts h).S:=by
 have k:=aY (x:=rz x ts) hx.sh.sr 5 h;exact k.trans (Bo k.sr h)
omit hq in
theorem KW (h:Int):(rW x ts h).Roots=x.Roots.set 5 h/\(rW x ts h).a8=x.a8/\(rW x ts h).T=x.T/\(rW x ts h).Q=⟨ts,x.Q.Cap⟩:=by
 obtain⟨a,b,c,d⟩:=wv (E4 (rz x ts) 5 h) h;obtain⟨a',b',c',d'⟩:=gr (rz x ts) 5 h;exact⟨a.trans a',b.trans b',c.trans c',d.trans d'⟩
omit hq in
theorem Sl (h:Int):Fw (rz x ts) (rW x ts h):=Fw.of ((DC (x:=rz x ts) hx.sh.sr 5 h).trans (Bp (aY (x:=rz x ts) hx.sh.sr 5 h).sr h)) (KW hx h).2.2.2
end
def BX(ps:List (List c9))(n:Int):List c9:=if n<0\/(ps.length:Int)<=n then [] else ps.getD n.toNat []
noncomputable def pre(x:Hp)(t:g9)(ts:List g9):Hp:=if t.Kind=1 then bS (rW x ts t.At) else rz x ts
noncomputable def TH(ps:List (List c9))(x:Hp)(t:g9)(ts:List g9):Hp:=(runs (pre x t ts) (BX ps t.Prog)).1
noncomputable def IB(ps:List (List c9))(x:Hp)(t:g9)(ts:List g9):Hp:=if t.Kind=1 then bS (E4 (TH ps x t ts) 5 0) else TH ps x t ts
structure Oh (x:Hp):Prop where
 rt:L5 x
 sl:SL x
 zr:zr x = []
theorem Uv.ok{x y:Hp}{o:c9}{v e:Int}(n:Uv x o y v e):Oh y:=⟨n.rt,n.sl,n.zr⟩
theorem HW{x:Hp}(h:L5 x)(s:SL x):Oh (bS x):=⟨dA h,HX h s,yF h⟩
theorem MO{x:Hp}(hx:Oh x)(l:List c9)(hb:x.S.Serial+l.length<9223372036854775807):Oh (runs x l).1/\Fw x (runs x l).1/\(runs x l).1.S.Serial<=x.S.Serial+l.length/\(runs x l).2.length=l.length:=by
 have key:∀k,k<=l.length->Oh (runs x (l.take k)).1/\Fw x (runs x (l.take k)).1/\(runs x (l.take k)).1.S.Serial<=x.S.Serial+k/\(runs x (l.take k)).2.length=k:=by
  intro k;induction k with
  | zero=>exact λ_=>⟨hx,Fw.refl x,by show x.S.Serial<=_;omega,rfl⟩
  | succ k ih=>
   intro hk;obtain⟨a,b,c,d⟩:=ih (by omega);have hk':k<l.length:=by omega
   have n:=kH a.rt a.sl a.zr (by omega) l[k];rw[L0 hk',nR];exact⟨n.ok,b.trans (Sg a.rt a.sl a.zr (by omega) _),by have:=n.ev.s2;show (xn _ _).1.S.Serial<=_;omega,by simp[d]⟩
 have:=key l.length (zF _);rwa [zL] at this
section
variable{x:Hp}(hx:Oh x){t:g9}{ts:List g9}(hq:x.Q.L=t::ts)(ps:List (List c9))
include hx hq
theorem Fs:Oh (pre x t ts):=by
 unfold pre;split
 .rename_i k;exact HW (iZ hx.rt hq k) (EM hx.rt hx.sl _)
 .rename_i k;exact⟨EB hx.rt hq k,hx.sl,hx.zr⟩
theorem Tv:Fw (rz x ts) (pre x t ts):=by
 unfold pre;split
 .rename_i k;exact (Sl hx.rt _).trans (Bx (iZ hx.rt hq k))
 .exact Fw.refl _
theorem AV:(pre x t ts).S.Serial=x.S.Serial:=by
 unfold pre;split
 .rename_i k;rw[(na (iZ hx.rt hq k)).Z4,(Sn hx.rt _).Z4]
 .rfl
variable(hb:x.S.Serial+(BX ps t.Prog).length<9223372036854775807)
include hb
theorem Bj:Oh (TH ps x t ts)/\Fw (rz x ts) (TH ps x t ts)/\(TH ps x t ts).S.Serial<=x.S.Serial+(BX ps t.Prog).length:=by
 have e:=AV hx hq;obtain⟨a,b,c,_⟩:=MO (Fs hx hq) (BX ps t.Prog) (by rw[e];exact hb);exact⟨a,(Tv hx hq).trans b,by rw[e] at c;exact c⟩
theorem OE:Oh (IB ps x t ts)/\Fw (rz x ts) (IB ps x t ts)/\(IB ps x t ts).S.Serial<=x.S.Serial+(BX ps t.Prog).length/\(t.Kind=1->sd (IB ps x t ts) 5=0):=by
 obtain⟨a,b,c⟩:=Bj hx hq ps hb;unfold IB;split
 .have hz:=Z3 a.rt (r:=5) (by decide) (h:=0) (.inl rfl);have k:=aY a.rt.sh.sr 5 0;refine⟨HW hz (gu a.rt.sh.sr a.sl 5 0),(b.trans (gq a.rt.sh.sr 5 0)).trans (Bx hz),?_,λ_=>(nO a.rt (a:=5) (by decide) (h:=0) (.inl rfl)).1⟩;rw[(na hz).Z4,k.Z4];exact c
 .exact⟨a,b,c,λq=>absurd q (by assumption)⟩
end
def Ee(ps:List (List c9))(t:g9):Int:=1+((BX ps t.Prog).length:Int)
def can(ps:List (List c9))(p:Hp × Int):Prop:=∃t ts,p.1.Q.L=t::ts/\Ee ps t<=p.2
noncomputable def Tc(ps:List (List c9))(p:Hp × Int):Hp × Int:=match p.1.Q.L with
 | []=>p
 | t::ts=>if Ee ps t<=p.2 then (IB ps p.1 t ts,p.2-Ee ps t) else p
noncomputable def dN(ps:List (List c9)):Nat->Hp × Int->Hp × Int
 | 0,p=>p
 | n+1,p=>dN ps n (Tc ps p)
section
variable(ps:List (List c9))
theorem ui(n:Nat)(p:Hp × Int):dN ps (n+1) p=Tc ps (dN ps n p):=by
 induction n generalizing p with
 | zero=>rfl
 | succ n ih=>exact ih (Tc ps p)
theorem Pm{p:Hp × Int}(h:p.1.Q.L = []):Tc ps p=p:=by unfold Tc;rw[h]
theorem qK{p:Hp × Int}{t:g9}{ts:List g9}(h:p.1.Q.L=t::ts):Tc ps p=if Ee ps t<=p.2 then (IB ps p.1 t ts,p.2-Ee ps t) else p:=by unfold Tc;rw[h]
theorem Ct{p:Hp × Int}{t:g9}{ts:List g9}(h:p.1.Q.L=t::ts):can ps p↔Ee ps t<=p.2:=by
 constructor
 .rintro⟨u,us,e,c⟩;rw[h] at e;injection e with e1 e2
  rw[e1];exact c
 .exact λc=>⟨t,ts,h,c⟩
theorem qf(t:g9):1<=Ee ps t:=by unfold Ee;omega
theorem GQ{p:Hp × Int}(hb:0<=p.2):∃n:Nat,(n:Int)<=p.2/\¬can ps (dN ps n p)/\∀j,j<n->can ps (dN ps j p):=by
 have key:∀m:Nat,(∃n:Nat,n<=m/\¬can ps (dN ps n p))\/((dN ps m p).2+m<=p.2/\0<=(dN ps m p).2):=by
  intro m;induction m with
  | zero=>exact .inr ⟨by show p.2+((0:Nat):Int)<=_;omega,hb⟩
  | succ m ih=>
   rcases ih with ⟨n,h1,h2⟩ | ⟨h1,h2⟩;·exact .inl ⟨n,by omega,h2⟩
   .by_cases q:can ps (dN ps m p)
    .right;obtain⟨t,ts,e,c⟩:=q;have:=qf ps t;rw[ui,qK ps e,zb c];dsimp only;omega
    .exact .inl ⟨m,by omega,q⟩
 have hex:∃n:Nat,(n:Int)<=p.2/\¬can ps (dN ps n p):=by
  rcases key (p.2.toNat+1) with ⟨n,h1,h2⟩ | ⟨h1,h2⟩
  .rcases zy n (p.2.toNat+1) with q | q
   .exact⟨n,by omega,h2⟩
   .have hn:n=p.2.toNat+1:=by omega
    rcases key p.2.toNat with ⟨n,h1,h2⟩ | ⟨h1,h3⟩;·exact⟨n,by omega,h2⟩
    .refine⟨p.2.toNat,by omega,λ⟨t,ts,e,c⟩=>?_⟩;have:=qf ps t;omega
  .omega
 obtain⟨n,⟨hn,hz⟩,hmin⟩:=bk hex;refine⟨n,hn,hz,λj hj=>we λq=>?_⟩;have:=hmin j ⟨by omega,q⟩;omega
theorem Ac{p:Hp × Int}(hx:Oh p.1)(hb:0<=p.2)(hs:p.1.S.Serial+p.2<9223372036854775807):∀n,Oh (dN ps n p).1/\0<=(dN ps n p).2/\(dN ps n p).2<=p.2/\(dN ps n p).1.S.Serial+(dN ps n p).2<=p.1.S.Serial+p.2
 | 0=>⟨hx,hb,pm _,pm _⟩
 | n+1=>by
  obtain⟨a,b,c,d⟩:=Ac hx hb hs n;rw[ui];cases e:(dN ps n p).1.Q.L with
  | nil=>rw[Pm ps e];exact⟨a,b,c,d⟩
  | cons t ts=>
   rw[qK ps e];split
   .rename_i q;have q2:=q;unfold Ee at q2;obtain⟨r1,_,r3,_⟩:=OE a e ps (by omega);refine⟨r1,?_,?_,?_⟩;·dsimp only;omega
    .have:=qf ps t;dsimp only;omega
    .dsimp only;unfold Ee;omega
   .exact⟨a,b,c,d⟩
end
noncomputable def dn(ps:List (List c9))(p:Hp × Int):Nat:=if h:0<=p.2 then Classical.choose (GQ ps h) else 0
theorem GS(ps:List (List c9)){p:Hp × Int}(h:0<=p.2):(dn ps p:Int)<=p.2/\¬can ps (dN ps (dn ps p) p)/\∀j,j<dn ps p->can ps (dN ps j p):=by
 unfold dn;rw[dif_pos h];exact zap (GQ ps h)
noncomputable def dr(ps:List (List c9))(p:Hp × Int):Hp × Int:=dN ps (dn ps p) p
theorem UZ(ps:List (List c9)){x:Hp}{f:Int}(hx:Oh x)(hf:0<=f)(hs:x.S.Serial+f<9223372036854775807):Oh (dr ps (x,f)).1/\0<=(dr ps (x,f)).2/\(dr ps (x,f)).2<=f/\(dr ps (x,f)).1.S.Serial+(dr ps (x,f)).2<=x.S.Serial+f:=Ac ps (p:=(x,f)) hx hf hs _
section
variable{x:Hp}(hx:iR x)(hS:∀k∈lv x.S,(ob x.S k).Strong<=9223372036854775807)
include hx hS
theorem Lu{h:Int}(hh:h=0\/h∈lv x.S):h<=9223372036854775807:=by
 rcases hh with q | q
 .omega
 .have:=F6 hx.sr q;omega
theorem MJ(k:Int){h:Int}(hh:h<=9223372036854775807):al x k h=some (if k<0\/5<k then (x,6) else if h=0\/h∈lv x.S then (E4 x k.toNat h,0) else (x,3)):=by
 have hR:=hx.sr;have r6:=hx.r6;unfold al;by_cases hk:k<0\/5<k
 .rw[zb hk,zb (by rw[r6];simp;omega)]
 .rw[za hk,za (by rw[r6];simp;omega),dm hR hh,XB];by_cases hn:h=0\/h∈lv x.S
  .rw[zb hn,zu hn,za (by simp)];obtain⟨n,rfl⟩:∃n:Nat,k=n:=⟨k.toNat,by omega⟩;have hn6:n<6:=by omega
   have hnl:n<x.Roots.length:=by omega
   have old:x.Roots[n]<=9223372036854775807:=Lu hx hS (hx.rt _ (zh hnl));have e1:=jw x h;have hn2:n<(B2 x h).Roots.length:=by rw[e1.1];exact hnl
   rw[o0 hnl,XB];unfold D7 N7 K4;rw[ju hR hh hS,XB];dsimp only;rw[I9 (by omega) (by rw[e1.1];omega),XB,o0 hn2,XB,XB];have hrel:=dx (x:=wR (B2 x h) (x.Roots.set n h)) (eW hR h) old;rw[zQ,e1.1,show B6 ⟨(B2 x h).S,x.Roots.set n h,(B2 x h).a8,(B2 x h).T,(B2 x h).Q⟩ x.Roots[n]=_ from hrel];unfold E4;rw[zd,zc hnl];rfl
  .rw[za hn,zI hn,zb (by simp)]
theorem PU(k:Int){h:Int}(hh:h<=9223372036854775807):V4 (hO x) k h=some (if k<0\/5<k then (hO x,6) else if h=0\/h∈lv x.S then (hO (E4 x k.toNat h),0) else (hO x,3)):=by
 have hR:=hx.sr;have r6:=hx.r6;unfold V4;by_cases hk:k<0\/5<k
 .rw[zb hk,zb (by simp;omega)]
 .rw[za hk,za (by simp;omega),qH hR hh,XB];by_cases hn:h=0\/h∈lv x.S
  .rw[zb hn,zu hn,za (by simp)];obtain⟨n,rfl⟩:∃n:Nat,k=n:=⟨k.toNat,by omega⟩;have hnl:n<x.Roots.length:=by omega
   have hnl':n<(hO x).Roots.length:=hnl;have old:x.Roots[n]<=9223372036854775807:=Lu hx hS (hx.rt _ (zh hnl));have e1:=jw x h;have r6':(hO x).Roots.length=6:=r6;rw[o0 hnl',XB,mU hR hh hS,XB,I9 (by omega) (by rw[r6'];omega),XB,o0 hnl',XB];have hrel:=fN (x:=wR (B2 x h) (x.Roots.set n h)) (eW hR h) old;rw[zQ];rw[show D9 ⟨(hO (B2 x h)).S,(hO x).Roots.set n h,(hO (B2 x h)).a8,(hO (B2 x h)).T,(hO (B2 x h)).Q⟩ (hO x).Roots[n]=_ from hrel];unfold E4;rw[zd,zc hnl];rfl
  .rw[za hn,zI hn,zb (by simp)]
end
theorem Ft(ps:List (List c9))(n:Int):fU ps n=some (BX ps n):=by
 unfold fU BX;by_cases h:n<0\/(ps.length:Int)<=n
 .rw[zb (by simpa using h),zb h]
 .rw[za (by simpa using h),za h];obtain⟨k,rfl⟩:∃k:Nat,n=k:=⟨n.toNat,by omega⟩;have hk:k<ps.length:=by omega
  rw[o0 hk,XB,zQ,zd,zc hk];rfl
abbrev uz(ps:List (List c9)):List (List H7):=ps.map (List.map LV)
theorem Mq(ps:List (List c9))(n:Int):mR (uz ps) n=some ((BX ps n).map LV):=by
 unfold mR BX;rw[wt];by_cases h:n<0\/(ps.length:Int)<=n
 .rw[zb (by simpa using h),zb h];rfl
 .rw[za (by simpa using h),za h];obtain⟨k,rfl⟩:∃k:Nat,n=k:=⟨n.toNat,by omega⟩;have hk:k<ps.length:=by omega
  have hk2:k<(uz ps).length:=by simpa using hk
  rw[o0 hk2,XB,zQ,zd,zc hk];simp[uz]
def Mp(ps:List (List c9)):Prop:=∀p∈ps,p.length<=6
theorem uy{ps:List (List c9)}(h:Mp ps)(n:Int):(BX ps n).length<=6:=by
 unfold BX;split;·simp
 .rename_i q;have hk:n.toNat<ps.length:=by omega
  rw[zd,zc hk];exact h _ (zh hk)
theorem GP{ps:List (List c9)}(h:Mp ps)(t:g9):kc ps t=some (Ee ps t):=by
 have:=uy h t.Prog;unfold kc Ee;rw[Ft,XB,D1 (by omega) (by omega)]
theorem KA{ps:List (List c9)}(h:Mp ps)(t:g9):mQ (uz ps) ⟨t.Kind,t.At,t.Prog⟩=some (Ee ps t):=by
 have:=uy h t.Prog;unfold mQ Ee;show (mR (uz ps) t.Prog).bind _=_;rw[Mq,XB,wt,D1 (by omega) (by omega)]
theorem Aj(x:Hp):bC x=some (x.Q.L.isEmpty):=by
 unfold bC;rw[BF,XB];unfold Ga;cases x.Q.L <;> rfl
theorem GU(x:Hp):nM (hO x)=some (x.Q.L.isEmpty):=by
 unfold nM;show some ((((x.Q.L.map _).length:Nat):Int)==0)=_;cases x.Q.L with
 | nil=>rfl
 | cons a l=>simp;omega
section
variable{x:Hp}(hx:Oh x){t:g9}{ts:List g9}(hq:x.Q.L=t::ts){ps:List (List c9)}(hm:Mp ps)(hb:x.S.Serial<9000000000000000000)
include hx hq hm hb
theorem Nd:ke x ps=some (IB ps x t ts,t,0):=by
 have K1:=uy hm t.Prog;have pok:=Fs hx hq;have pser:=AV hx hq;obtain⟨rok,_,_⟩:=Bj hx hq ps (by omega);have hrun:=(run_eq pok.rt pok.sl pok.zr (BX ps t.Prog) (by omega) (by rw[pser];omega)).1;have hrun':dY (pre x t ts) (BX ps t.Prog)=some (TH ps x t ts,(runs (pre x t ts) (BX ps t.Prog)).2):=hrun;have hz:=Z3 rok.rt (r:=5) (by decide) (h:=0) (.inl rfl);have zS:=gu rok.rt.sh.sr rok.sl 5 0;unfold ke;rw[BF,XB];have e:Ga x.Q=(⟨ts,x.Q.Cap⟩,t,0):=by unfold Ga;rw[hq]
 rw[e];dsimp only;rw[za (by simp)];simp only[jn];by_cases k:t.Kind=1
 .have hk:(t.Kind==1)=true:=by simpa using k
  have hat:=(EL hx.rt hq k).1;have ush:=BJ hx.rt hq;have hm1:=cr hx.rt.sh.sr hat;have e1:al ⟨x.S,x.Roots,x.a8,x.T,⟨ts,x.Q.Cap⟩⟩ 5 t.At=some (E4 (rz x ts) 5 t.At,0):=by
   have:=MJ (x:=rz x ts) ush hx.sl 5 hm1;rw[za (by omega),zb (.inr hat)] at this;exact this
  have e2:B6 (E4 (rz x ts) 5 t.At) t.At=some (rW x ts t.At):=dx (aY (x:=rz x ts) hx.rt.sh.sr 5 t.At).sr hm1;have e3:=fO (iZ hx.rt hq k) (EM hx.rt hx.sl t.At);have e4:pre x t ts=bS (rW x ts t.At):=by unfold pre;rw[zb k]
  have e5:=HO rok.rt rok.sl 5 (h:=0) (by decide);rw[za (by omega),zb (.inl rfl)] at e5;rw[zb hk,e1,XB];dsimp only;rw[e2,XB,e3,XB,Ft,XB,<-e4,hrun',XB,zb hk];dsimp only;rw[e5,XB];refine tI (fO hz zS) ?_;unfold IB;rw[zb k];rfl
 .have hk:¬(t.Kind==1)=true:=by simpa using k
  have e4:pre x t ts=rz x ts:=by unfold pre;rw[za k]
  rw[za hk,Ft,XB,show (⟨x.S,x.Roots,x.a8,x.T,⟨ts,x.Q.Cap⟩⟩:b6)=pre x t ts from e4.symm,hrun',XB,za hk];unfold IB;rw[za k]
theorem Uh:wh (hO x) (uz ps)=some (hO (IB ps x t ts),tU t,0):=by
 have K1:=uy hm t.Prog;have pok:=Fs hx hq;have pser:=AV hx hq;obtain⟨rok,_,_⟩:=Bj hx hq ps (by omega);have hrun:=(run_eq pok.rt pok.sl pok.zr (BX ps t.Prog) (by omega) (by rw[pser];omega)).2;have hrun':uG (hO (pre x t ts)) ((BX ps t.Prog).map LV)=some (hO (TH ps x t ts),(runs (pre x t ts) (BX ps t.Prog)).2):=hrun;have hz:=Z3 rok.rt (r:=5) (by decide) (h:=0) (.inl rfl);have zS:=gu rok.rt.sh.sr rok.sl 5 0;unfold wh;rw[show (hO x).Q=jD x.Q from rfl,TG,XB];have e:Ga x.Q=(⟨ts,x.Q.Cap⟩,t,0):=by unfold Ga;rw[hq]
 rw[e];dsimp only;rw[za (by simp)];simp only[jn];have hkk:(tU t).Kind=t.Kind:=rfl;have hka:(tU t).At=t.At:=rfl;have hkp:(tU t).Prog=t.Prog:=rfl;rw[hkk,hka,hkp];by_cases k:t.Kind=1
 .have hk:(t.Kind==1)=true:=by simpa using k
  have hat:=(EL hx.rt hq k).1;have ush:=BJ hx.rt hq;have hm1:=cr hx.rt.sh.sr hat;have e1:V4 (hO (rz x ts)) 5 t.At=some (hO (E4 (rz x ts) 5 t.At),0):=by
   have:=PU (x:=rz x ts) ush hx.sl 5 hm1;rw[za (by omega),zb (.inr hat)] at this;exact this
  have e2:D9 (hO (E4 (rz x ts) 5 t.At)) t.At=some (hO (rW x ts t.At)):=fN (aY (x:=rz x ts) hx.rt.sh.sr 5 t.At).sr hm1;have e3:=jz (iZ hx.rt hq k) (EM hx.rt hx.sl t.At);have e4:pre x t ts=bS (rW x ts t.At):=by unfold pre;rw[zb k]
  have e5:=FL rok.rt rok.sl 5 (h:=0) (by decide);rw[za (by omega),zb (.inl rfl)] at e5;rw[zb hk,show (⟨(hO x).S,(hO x).Roots,(hO x).a8,(hO x).T,jD ⟨ts,x.Q.Cap⟩⟩:g6)=hO (rz x ts) from rfl,e1,XB];dsimp only;rw[e2,XB,e3,XB,Mq,XB,<-e4,hrun',XB,zb hk];dsimp only;rw[e5,XB];refine tI (jz hz zS) ?_;unfold IB;rw[zb k];rfl
 .have hk:¬(t.Kind==1)=true:=by simpa using k
  have e4:pre x t ts=rz x ts:=by unfold pre;rw[za k]
  rw[za hk,Mq,XB,show (⟨(hO x).S,(hO x).Roots,(hO x).a8,(hO x).T,jD ⟨ts,x.Q.Cap⟩⟩:g6)=hO (pre x t ts) by rw[e4];rfl,hrun',XB,za hk];unfold IB;rw[za k]
end
section
variable{x:Hp}(hx:Oh x){ps:List (List c9)}(hm:Mp ps){f:Int}(hf:0<=f)(hf2:f<=1000000)(hb:x.S.Serial<8000000000000000000)
include hx hm hf hf2 hb
def Ux(p:Hp × Int):Int:=if p.1.Q.L.isEmpty then 0 else 12
theorem drain_eq:dT x ps f=some ((dr ps (x,f)).1,(dn ps (x,f):Int),(dr ps (x,f)).2,Ux (dr ps (x,f))):=by
 obtain⟨a1,a2,a3⟩:=GS ps (p:=(x,f)) hf;have all:=Ac ps (p:=(x,f)) hx hf (by show x.S.Serial+f<_;omega);unfold dT;simp only[jn];dsimp only at a1;refine cp (λk=>((dN ps k (x,f)).2,(dN ps k (x,f)).1,(k:Int),(dN ps k (x,f)).2,(dN ps k (x,f)).1)) rfl (dn ps (x,f)) (λ_=>True) (by omega) trivial (λk hk _=>.inl ⟨?_,trivial⟩) (λ_=>⟨((dn ps (x,f):Int),(dr ps (x,f)).2,(dr ps (x,f)).1),?_,?_⟩)
 .obtain⟨b1,b2,b3,b4⟩:=all k;obtain⟨t,ts,e,c⟩:=a3 k hk;dsimp only at b2 b3 b4;have hc:=qf ps t;rw[Aj,e,XB];show (bQ _).bind _=_;rw[BF,XB];have e2:Ga (dN ps k (x,f)).1.Q=(⟨ts,(dN ps k (x,f)).1.Q.Cap⟩,t,0):=by unfold Ga;rw[e]
  rw[e2];dsimp only;rw[GP hm,XB,za (by simp;omega),Nd b1 e hm (by omega),XB,D1 (by omega) (by omega),k8,ui,qK ps e,zb c]
 .rw[Aj,XB];cases e:(dN ps (dn ps (x,f)) (x,f)).1.Q.L with
  | nil=>rfl
  | cons t ts=>
   have hc:¬Ee ps t<=(dN ps (dn ps (x,f)) (x,f)).2:=λq=>a2 ((Ct ps e).2 q);show (bQ _).bind _=_;rw[BF,XB];have e2:Ga (dN ps (dn ps (x,f)) (x,f)).1.Q=(⟨ts,(dN ps (dn ps (x,f)) (x,f)).1.Q.Cap⟩,t,0):=by unfold Ga;rw[e]
   rw[e2];dsimp only;rw[GP hm,XB,zb (by simp;omega)];rfl
 .dsimp only;rw[Aj,XB];unfold Ux;cases (dr ps (x,f)).1.Q.L.isEmpty <;> rfl
theorem OF:nK (hO x) (uz ps) f=some (hO (dr ps (x,f)).1,(dn ps (x,f):Int),(dr ps (x,f)).2,Ux (dr ps (x,f))):=by
 obtain⟨a1,a2,a3⟩:=GS ps (p:=(x,f)) hf;have all:=Ac ps (p:=(x,f)) hx hf (by show x.S.Serial+f<_;omega);unfold nK;simp only[jn];dsimp only at a1;refine cp (λk=>((dN ps k (x,f)).2,(k:Int),hO (dN ps k (x,f)).1)) rfl (dn ps (x,f)) (λ_=>True) (by omega) trivial (λk hk _=>.inl ⟨?_,trivial⟩) (λ_=>?_)
 .obtain⟨b1,b2,b3,b4⟩:=all k;obtain⟨t,ts,e,c⟩:=a3 k hk;dsimp only at b2 b3 b4;have hc:=qf ps t;rw[GU,e,XB];have e2:ix (hO (dN ps k (x,f)).1).Q.L 0=some (tU t):=by
   show ix ((dN ps k (x,f)).1.Q.L.map tU) 0=_;rw[e];rfl
  show (ix (hO (dN ps k (x,f)).1).Q.L 0).bind _=_;rw[e2,XB,show mQ (uz ps) (tU t)=_ from KA hm t,XB,za (by simp;omega),Uh b1 e hm (by omega),XB,D1 (by omega) (by omega),k8,ui,qK ps e,zb c]
 .cases e:(dN ps (dn ps (x,f)) (x,f)).1.Q.L with
  | nil=>
   refine⟨.inr ((dr ps (x,f)).2,(dn ps (x,f):Int),hO (dr ps (x,f)).1),?_,?_⟩
   .rw[GU,e];rfl
   .unfold Ux;have e':(dr ps (x,f)).1.Q.L = []:=e;rw[e'];rfl
  | cons t ts=>
   have hc:¬Ee ps t<=(dN ps (dn ps (x,f)) (x,f)).2:=λq=>a2 ((Ct ps e).2 q);refine⟨.inl (hO (dr ps (x,f)).1,(dn ps (x,f):Int),(dr ps (x,f)).2,12),?_,?_⟩
   .rw[GU,e,XB];have e2:ix (hO (dN ps (dn ps (x,f)) (x,f)).1).Q.L 0=some (tU t):=by
     show ix ((dN ps (dn ps (x,f)) (x,f)).1.Q.L.map tU) 0=_;rw[e];rfl
    show (ix (hO (dN ps (dn ps (x,f)) (x,f)).1).Q.L 0).bind _=_;rw[e2,XB,show mQ (uz ps) (tU t)=_ from KA hm t,XB,zb (by simp;omega)];rfl
   .unfold Ux;have e':(dr ps (x,f)).1.Q.L=t::ts:=e;rw[e'];rfl
end
theorem Vs{l:List (List c9)}(h:kM l=true):Mp l/\l.length<=6:=by
 unfold kM at h;rw[zp,zx,zf] at h;refine⟨λp hp=>?_,h.1⟩;have:=h.2 p hp;unfold tn at this;rw[zp,zx] at this;exact this.1
theorem Vj(s:a7)(h:s.S.a8.length<=30):uP s=some (sO s):=by
 unfold uP;simp only[jn,uQ,XB];have e:=kB (b:=80) cO s.S.a8 (by omega) (by omega);simp only[cO,oo] at e;rw[e];rfl
theorem Qh(s:a7):od s=some (decide (Sm s)):=by
 unfold od;simp only[jn];refine T1 (min s.S.a8.length 30) (λk=>∀j (h:j<s.S.a8.length),j<k->s.S.a8[j].Val.Fields.length<=10) (by omega) (λ_ _ h=>by omega) (λk hk hP=>?_) (λhP=>?_)
 .have hk1:k<s.S.a8.length:=by omega
  have hk2:k<30:=by omega
  have hc:((decide ((k:Int)<(s.S.a8.length:Int)))&&(decide ((k:Int)<30)))=true:=by simp;omega
  by_cases g:s.S.a8[k].Val.Fields.length<=10
  .refine .inl ⟨?_,λj h hj=>?_⟩
   .rw[hc];simp only[zH,o0 hk1,XB];rw[za (by simp;omega),k8]
   .rcases zy j k with q | q
    .exact hP j h q
    .have:j=k:=by omega
     subst this;exact g
  .refine .inr ⟨.inl false,?_,?_⟩
   .rw[hc];simp only[zH,o0 hk1,XB];rw[zb (by simp;omega)]
   .simp only;rw[zI (λq:Sm s=>g (q.2 k hk1))]
 .refine⟨.inr (),?_,?_⟩
  .rw[show ((decide (((min s.S.a8.length 30:Nat):Int)<(s.S.a8.length:Int)))&&(decide (((min s.S.a8.length 30:Nat):Int)<30)))=false by
    rcases zy s.S.a8.length 30 with q | q
    .simp;omega
    .simp;omega]
   rfl
  .simp only;congr 1;rw[zay];constructor
   .intro q;exact⟨by omega,λi h=>hP i h (by omega)⟩
   .intro q;have:=q.1;omega
theorem VS(t:Tb)(h:t.length<=1000):uR t=some (t.map K1):=by
 unfold uR;simp only[jn];have e:=kB (b:=24) K1 t (by omega) (by omega);simp only[K1] at e;rw[e];rfl
theorem UR(l:List c7)(h:l.length<=1000):oa l=some (l.map og):=by
 unfold oa;simp only[jn];have e:=kB (b:=24) og l (by omega) (by omega);simp only[og] at e;rw[e];rfl
theorem VU(q:TQ)(h:q.L.length<=1000):oe q=some (jD q):=by
 unfold oe;simp only[jn];have e:=kB (b:=24) tU q.L (by omega) (by omega);simp only[tU] at e;rw[e];rfl
theorem SI{x:Hp}(h1:x.S.S.a8.length<=30)(h2:x.a8.length<=1000)(h3:x.T.length<=1000)(h4:x.Q.L.length<=1000):gz x=some (hO x):=by
 unfold gz;rw[Vj x.S h1,XB,UR x.a8 h2,XB,VS x.T h3,XB,VU x.Q h4,XB];rfl
theorem ON{x:Hp}(h:iR x):gz x=some (hO x):=by
 have h1:=h.sr.len;have h2:=h.c6;have h3:=h.hr.l8;have h4:=h.q30;exact SI (by omega) (by omega) (by omega) (by omega)
theorem KS(x:Hp):oc x=some (decide (BZ x)):=by
 unfold oc;rw[Qh,XB];congr 1;rw[za2];simp only[zp,zx];unfold BZ;constructor
 .rintro⟨⟨⟨⟨a,b⟩,c⟩,d⟩,e⟩;exact⟨a,by omega,by omega,by omega,by omega⟩
 .rintro⟨a,b,c,d,e⟩;exact⟨⟨⟨⟨a,by omega⟩,by omega⟩,by omega⟩,by omega⟩
theorem Vd{x:Hp}(h:iR x):oc x=some true:=by rw[KS,zu h.WQ]
noncomputable def eo(ps:List (List c9))(x:Hp)(o:c9):Hp × Int × Int:=
 if o.Kind=11 then (BT x,Nq x-((jW x).length:Int),0)
 else if o.Kind=12 then ((dr ps (x,o.A)).1,(dn ps (x,o.A):Int),Ux (dr ps (x,o.A)))
 else xn x o
noncomputable def er(ps:List (List c9))(x:Hp)(row:List Int):Hp × Int × Int:=if (aR row).2≠0 then (x,0,(aR row).2) else eo ps x (aR row).1
noncomputable def gF(ps:List (List c9))(x:Hp)(rows:List (List Int)):Hp × List (Int × Int):=rows.foldl (λp r=>((er ps p.1 r).1,p.2 ++ [(er ps p.1 r).2])) (x,[])
theorem KN(ps:List (List c9))(x:Hp)(l:List (List Int))(r:List Int):gF ps x (l ++ [r])=((er ps (gF ps x l).1 r).1,(gF ps x l).2 ++ [(er ps (gF ps x l).1 r).2]):=by
 unfold gF;rw[za1];rfl
theorem Ao(ps:List (List c9)):∀(l:List (List Int)) (x:Hp) (a:List (Int × Int)),l.foldl (λp r=>((er ps p.1 r).1,p.2 ++ [(er ps p.1 r).2])) (x,a)=((gF ps x l).1,a++(gF ps x l).2)
 | [],x,a=>by simp[gF]
 | r::l,x,a=>by
  unfold gF;rw[zaj,zaj,Ao ps l,Ao ps l _ ([]++_)];simp
theorem An(ps:List (List c9))(x:Hp)(l m:List (List Int)):gF ps x (l++m)=((gF ps (gF ps x l).1 m).1,(gF ps x l).2++(gF ps (gF ps x l).1 m).2):=by
 have:gF ps x (l++m)=m.foldl (λp r=>((er ps p.1 r).1,p.2 ++ [(er ps p.1 r).2])) (gF ps x l):=by
  unfold gF;rw[za1]
 rw[this];exact Ao ps m (gF ps x l).1 (gF ps x l).2
theorem uj(ps:List (List c9))(x:Hp)(l:List (List Int)):(gF ps x l).2.length=l.length:=by
 induction l generalizing x with
 | nil=>rfl
 | cons r l ih=>
  have:=An ps x [r] l;rw[List.singleton_append] at this;rw[this,zY,ih];show 1+l.length=l.length+1;omega
theorem Ad{row:List Int}(h:(aR row).2=0):A2 (aR row).1.Kind (aR row).1.A (aR row).1.B (aR row).1.C=0:=by
 unfold aR at h |-;rcases four row with ⟨k,a,b,c,rfl⟩ | hl
 .rw[GR,ww] at h |-;by_cases q:A2 k a b c≠0
  .rw[zb q] at h;exact absurd h q
  .rw[za q];exact Classical.not_not.1 q
 .rw[(Ae hl).1,ww] at h;exact absurd h (by decide)
theorem Kr{a b c:Int}(h:A2 12 a b c=0):0<=a/\a<=200:=ya (by decide) (show K6 a 0 200 12=0 from h)
section
variable{ps:List (List c9)}(hm:Mp ps){x:Hp}(hx:Oh x)(hb:x.S.Serial<7000000000000000000)
include hm hx hb
theorem Va{o:c9}(ho:o.Kind=12->0<=o.A/\o.A<=200):Oh (eo ps x o).1/\(eo ps x o).1.S.Serial<=x.S.Serial+201:=by
 unfold eo;split
 .obtain⟨a,b,c⟩:=yZ hx.rt hx.sl hx.zr;refine⟨⟨a,b,c⟩,?_⟩;show (BT x).S.Serial<=_;rw[OA hx.rt hx.sl hx.zr];omega
 .split
  .rename_i h;obtain⟨h0,h2⟩:=ho h;obtain⟨a,b,c,d⟩:=UZ ps hx h0 (by omega);exact⟨a,by show (dr ps (x,o.A)).1.S.Serial<=_;omega⟩
  .have n:=kH hx.rt hx.sl hx.zr (by omega) o;have:=n.ev.s2;exact⟨n.ok,by omega⟩
theorem Vb(row:List Int):Oh (er ps x row).1/\(er ps x row).1.S.Serial<=x.S.Serial+201:=by
 unfold er;split;·exact⟨hx,by show x.S.Serial<=_;omega⟩
 .rename_i h;have hc:=Ad (Classical.not_not.1 h);refine Va hm hx hb λhk=>?_;rw[hk] at hc;exact Kr hc
end
theorem vl{ps:List (List c9)}(hm:Mp ps){x:Hp}(hx:Oh x):∀(l:List (List Int)),x.S.Serial+201*(l.length:Int)<7000000000000000000->Oh (gF ps x l).1/\(gF ps x l).1.S.Serial<=x.S.Serial+201*(l.length:Int):=by
 intro l;induction l generalizing x with
 | nil=>exact λ_=>⟨hx,by show x.S.Serial<=_;simp⟩
 | cons r l ih=>
  intro hb;rw[zA] at hb |-;obtain⟨a,b⟩:=Vb hm hx (by omega) r;obtain⟨c,d⟩:=ih a (by omega);have e:=An ps x [r] l;rw[List.singleton_append] at e;rw[e];exact⟨c,by
   have:(gF ps (gF ps x [r]).1 l).1.S.Serial<=(er ps x r).1.S.Serial+201*(l.length:Int):=d;show (gF ps (gF ps x [r]).1 l).1.S.Serial<=_;omega⟩
def Cy(l:List b7)(k:Int):Nat:=l.countP λc=>c.State==k
theorem KC(l:List b7)(c:b7)(k:Int):Cy (l ++ [c]) k=Cy l k+if c.State=k then 1 else 0:=by
 unfold Cy;rw[List.countP_append];simp[List.countP_cons]
noncomputable def Qj(x:Hp):List Int:=(lv x.S).map λh=>Z4 x h
theorem Lw{s:a7}(hR:SR s){h:Int}(hh:h∈lv s):sk s.S.a8 h=(ob s h).Serial:=by
 obtain⟨i,hi⟩:=(dX hR).1 hh;rw[Kg hR hi,N5 hR hi]
theorem Uf{x:Hp}(hR:SR x.S):(Qj x).Pairwise (· < ·):=by
 unfold Qj;rw[List.pairwise_map];refine List.Pairwise.imp_of_mem (λ{a b} ha hb h=>?_) (gX (r9.2 hR)).2.2;rw[Lw hR ha,Lw hR hb] at h;exact h
theorem MX{x:Hp}(hR:SR x.S):(Qj x).mergeSort (λx y=>decide (x<=y))=Qj x:=
 List.mergeSort_of_pairwise ((Uf hR).imp λh=>zu (by omega))
theorem Qk{x:Hp}(hR:SR x.S):(Qj x).length<=24:=by
 unfold Qj;rw[wt];exact E2 (r9.2 hR)
inductive Fm (x:Hp) (o:c9) (z:Hp) (v:Int):Prop
 | new (i:Nat) (hF:UE x.S i) (hk:o.Kind=1) (ha:0<=o.A/\o.A<=5) (hn:o.B.toNat<=4) (hc : -1<=o.C/\o.C<=5) (hv:v=x.S.Serial+1) (hz:z=E4 (wS x (dO x.S i o.B.toNat o.C)) o.A.toNat (cS x.S i)):Fm x o z v
 | root (h:Int) (hk:o.Kind≠1) (ha:0<=o.A/\o.A<=5) (hh:h=0\/h∈lv x.S) (hz:z=E4 x o.A.toNat h):Fm x o z v
 | field (h:Int) (n:Nat) (u:Int) (hk:o.Kind=5) (hl:h∈lv x.S) (hn:n<(ob x.S h).Fields.length) (hu:u=0\/u∈lv x.S) (hz:z=bl x h n u):Fm x o z v
 | weak (h:Int) (hk:o.Kind=6) (ha:0<=o.A/\o.A<=5) (hc : -1<=o.C/\o.C<=5) (hh:h=0\/h∈lv x.S) (hw:JF x.Q o.A=false) (hz:z=da x o.A.toNat h o.C):Fm x o z v
 | pair (h u:Int) (r:Tb × Int × Int) (hk:o.Kind=8) (hl:h∈lv x.S) (hu:u=0\/u∈lv x.S) (hr:R8 x.T h u=some r) (h0:r.2.2=0) (hz:z=jj x u r.1 r.2.1):Fm x o z v
 | same (hk:o.Kind=10) (hz:z=x):Fm x o z v
theorem Fm.ks{x z:Hp}{o:c9}{v:Int}(hx:L5 x)(f:Fm x o z v)(hk:o.Kind≠1):Ks x.S z.S:=by
 have hR:=hx.sh.sr;cases f with
 | new i hF hk'=>exact absurd hk' hk
 | root h _ ha hh hz=>rw[hz];exact aY hR _ _
 | field h n u _ hl hn hu hz=>rw[hz];exact xR hR hl hn u
 | weak h _ ha hc hh hw hz=>rw[hz];exact DX hx (by omega) h _
 | pair h u r _ hl hu hr h0 hz=>rw[hz];exact De hR u _ _
 | same _ hz=>rw[hz];exact Ks.refl hR
def UJ(p:Int × Int):j5:=⟨p.1,p.2⟩
def UK(p:Int × Int):n8:=⟨p.1,p.2⟩
section
variable{ps:List (List c9)}(hm:Mp ps){x:Hp}(hx:Oh x)(hb:x.S.Serial<7000000000000000000)
include hm hx hb
theorem Kq : -24<=Nq x-((jW x).length:Int)/\Nq x-((jW x).length:Int)<=24:=by
 have h1:=yV hx.rt hx.sl hx.zr;have h2:(lv x.S).length<=24:=E2 (r9.2 hx.rt.sh.sr);obtain⟨c1,_,_⟩:=yZ hx.rt hx.sl hx.zr;have h3:(lv (BT x).S).length<=24:=E2 (r9.2 c1.sh.sr);unfold Nq;split
 .rename_i e;rw[e];simp;omega
 .omega
theorem Xt(row:List Int):nu ⟨x,ps⟩ row=some (⟨(er ps x row).1,ps⟩,UJ (er ps x row).2):=by
 unfold nu;rw[(CA row).1,XB];unfold er;by_cases h:(aR row).2=0
 .rw[za (show ¬(((aR row).2 != 0)=true) by simp[h]),za (show ¬((aR row).2≠0) by simp[h])];have hc:=Ad h;generalize (aR row).1=o at hc;unfold kf eo;by_cases k11:o.Kind=11
  .rw[zb (by simp[k11]),zb k11];refine zbk (b:=(V0 x).bind λv4=>some (⟨v4.1,ps⟩,⟨u4 (v4.2.2-v4.2.1),0⟩)) rfl ?_;obtain⟨b1,b2⟩:=Kq hm hx hb;rw[Sc hx.rt hx.sl hx.zr,XB];dsimp only;rw[D1 (by omega) (by omega)];rfl
  .rw[za (by simp[k11]),za k11];by_cases k12:o.Kind=12
   .rw[zb (by simp[k12]),zb k12];refine zbk (b:=(dT x ps o.A).bind λv5=>some (⟨v5.1,ps⟩,⟨v5.2.1,v5.2.2.2⟩)) rfl ?_;rw[k12] at hc;obtain⟨a0,a2⟩:=Kr hc;rw[drain_eq hx hm a0 (by omega) (by omega),XB];rfl
   .rw[za (by simp[k12]),za k12];refine zbk (b:=(s6 x o).bind λv3=>some (⟨v3.1,ps⟩,⟨v3.2.1,v3.2.2⟩)) rfl ?_;rw[(kH hx.rt hx.sl hx.zr (by omega) o).mc,XB];rfl
 .rw[zb (by simpa using h),zb h];rfl
theorem Xy(row:List Int):FH ⟨hO x,uz ps⟩ row=some (⟨hO (er ps x row).1,uz ps⟩,UK (er ps x row).2):=by
 unfold FH;rw[(CA row).2,XB];unfold er;by_cases h:(aR row).2=0
 .rw[za (show ¬(((aR row).2 != 0)=true) by simp[h]),za (show ¬((aR row).2≠0) by simp[h])];have hc:=Ad h;generalize (aR row).1=o at hc;unfold eo;by_cases k11:o.Kind=11
  .rw[zb (by simp[k11,tO]),zb k11];obtain⟨b1,b2⟩:=Kq hm hx hb;dsimp only;rw[US hx.rt hx.sl hx.zr,XB];dsimp only;rw[D1 (by omega) (by omega)];rfl
  .rw[za (by simp[k11,tO]),za k11];by_cases k12:o.Kind=12
   .rw[zb (by simp[k12,tO]),zb k12];rw[k12] at hc;obtain⟨a0,a2⟩:=Kr hc;refine zbk (b:=(nK (hO x) (uz ps) o.A).bind λv3=>some (⟨v3.1,uz ps⟩,⟨v3.2.1,v3.2.2.2⟩)) rfl ?_;rw[OF hx hm a0 (by omega) (by omega),XB];rfl
   .rw[za (by simp[k12,tO]),za k12];refine zbk (b:=(B9 (hO x) (LV o)).bind λv3=>some (⟨v3.1,uz ps⟩,⟨v3.2.1,v3.2.2⟩)) rfl ?_;rw[(kH hx.rt hx.sl hx.zr (by omega) o).rf,XB];rfl
 .rw[zb (by simpa using h),zb h];rfl
end
section
variable{ps:List (List c9)}(hm:Mp ps){x:Hp}(hx:Oh x)
include hm hx
theorem DM{rows:List (List Int)}{k:Nat}(hk:k<rows.length):gF ps x (rows.take (k+1))=((er ps (gF ps x (rows.take k)).1 rows[k]).1,(gF ps x (rows.take k)).2 ++ [(er ps (gF ps x (rows.take k)).1 rows[k]).2]):=by
 rw[zw hk,KN]
theorem OG(rows:List (List Int))(hl:rows.length<=1000)(hb:x.S.Serial<6000000000000000000):Y7 ⟨x,ps⟩ rows=some (⟨(gF ps x rows).1,ps⟩,(gF ps x rows).2.map UJ):=by
 unfold Y7;simp only[jn];refine M2 rows.length (λk s=>s=((⟨(gF ps x (rows.take k)).1,ps⟩:n9),(gF ps x (rows.take k)).2.map UJ)) (by omega) rfl (λk s hk hs=>.inl ⟨_,?_,rfl⟩) (λs hs=>⟨s,za (by simp),by rw[hs,zL]⟩);subst hs;obtain⟨o1,o2⟩:=vl hm hx (rows.take k) (by simp;omega);have hlen:=uj ps x (rows.take k);have hkl:(rows.take k).length=k:=by simp;omega
 dsimp only;rw[zb (by simpa using hk),o0 hk,XB,Xt hm o1 (by rw[hkl] at o2;omega),XB,y4 (by omega) (by simp[hlen];omega),XB,k8,DM hm hx hk];simp
theorem Xh(rows:List (List Int))(hl:rows.length<=1000)(hb:x.S.Serial<6000000000000000000):uH ⟨hO x,uz ps⟩ rows=some (⟨hO (gF ps x rows).1,uz ps⟩,(gF ps x rows).2.map UK):=by
 unfold uH;simp only[jn];refine M2 rows.length (λk s=>s=((⟨hO (gF ps x (rows.take k)).1,uz ps⟩:A0),(gF ps x (rows.take k)).2.map UK)) (by omega) rfl (λk s hk hs=>.inl ⟨_,?_,rfl⟩) (λs hs=>⟨s,za (by simp),by rw[hs,zL]⟩);subst hs;obtain⟨o1,o2⟩:=vl hm hx (rows.take k) (by simp;omega);have hlen:=uj ps x (rows.take k);have hkl:(rows.take k).length=k:=by simp;omega
 dsimp only;rw[zb (by simpa using hk),o0 hk,XB,Xy hm o1 (by rw[hkl] at o2;omega),XB,y4 (by omega) (by simp[hlen];omega),XB,k8,DM hm hx hk];simp
end
def XA(x:Hp):A4:=⟨Cy x.S.S.a8 0,Cy x.S.S.a8 1,Cy x.S.S.a8 2,Cy x.S.S.a8 3⟩
theorem Qq{s:a7}(hR:SR s):P3 s.S=some ⟨Cy s.S.a8 0,Cy s.S.a8 1,Cy s.S.a8 2,Cy s.S.a8 3⟩:=by
 unfold P3;simp only[jn];have hlen:=hR.len;refine M2 s.S.a8.length (λk t=>t=⟨Cy (s.S.a8.take k) 0,Cy (s.S.a8.take k) 1,Cy (s.S.a8.take k) 2,Cy (s.S.a8.take k) 3⟩) (by omega) (by simp[Cy]) (λk t hk ht=>.inl ?_) (λt ht=>⟨_,by simp;rfl,by rw[ht,zL]⟩);have hc:=hR.cell k hk;rw[D3 hk] at hc;subst ht;simp only[zB,hk,zD,zH,o0 hk,XB];have hle:∀j,Cy (s.S.a8.take k) j<=24:=λj=>wd zba (by simp;omega);have h0:=hle 0;have h1:=hle 1;have h2:=hle 2;have h3:=hle 3;rw[zw hk];simp only[KC];refine⟨_,?_,rfl⟩;have hst:s.S.a8[k].State=0\/s.S.a8[k].State=1\/s.S.a8[k].State=2\/s.S.a8[k].State=3:=by omega
 rcases hst with e | e | e | e <;> rw[e] <;> simp[A4.ix,A4.l,A4.st,ix] <;> rw[k8,k8] <;> simp
section
variable{ps:List (List c9)}{x:Hp}(hx:L5 x)
include hx
theorem WL:fq ⟨x,ps⟩=some (XA x):=by
 unfold fq;dsimp only;rw[Qq hx.sh.sr,XB];rfl
theorem Si:fm ⟨x,ps⟩=some (Qj x):=by
 have hR:=hx.sh.sr;have l24:(lv x.S).length<=24:=E2 (r9.2 hR);unfold fm;simp only[jn];rw[cq (r9.2 hR),XB];refine M2 (lv x.S).length (λk l=>l=((lv x.S).take k).map λh=>Z4 x h) (by omega) rfl (λk l hk hl=>.inl ⟨_,?_,rfl⟩) (λl hl=>⟨l,za (by simp),?_⟩)
 .subst hl;dsimp only;have:=F6 hR (zh hk);rw[zb (by simpa using hk),o0 hk,XB,MT hx.sh (by omega),XB,y4 (by omega) (by simp;omega),XB,k8,zw hk,my];rfl
 .subst hl;rw[zL];show (nT (Qj x)).bind _=_;have:=Qk (x:=x) hR;unfold nT;rw[zb (by omega),MX hR];rfl
theorem TS:yv ⟨hO x,uz ps⟩=some (Qj x):=by
 have hR:=hx.sh.sr;have l24:(lv x.S).length<=24:=E2 (r9.2 hR);unfold yv;show (T7 (sO x.S)).bind _=_;rw[mA (r9.2 hR),XB];simp only[jn];refine M2 (lv x.S).length (λk l=>l=((lv x.S).take k).map λh=>Z4 x h) (by omega) rfl (λk l hk hl=>.inl ⟨_,?_,rfl⟩) (λl hl=>⟨l,za (by simp),?_⟩)
 .subst hl;dsimp only;have:=F6 hR (zh hk);rw[zb (by simpa using hk),o0 hk,XB,MS hx.sh (by omega),XB,y4 (by omega) (by simp;omega),XB,k8,zw hk,my];rfl
 .subst hl;rw[zL];rfl
theorem Sk(hS:SL x):fp ⟨x,ps⟩=some (x.Q.L.isEmpty&&decide (aD x = [])):=by
 unfold fp;dsimp only;rw[Aj,XB,Sb hx hS];cases x.Q.L.isEmpty <;> rfl
theorem TV(hS:SL x):yw ⟨hO x,uz ps⟩=some (x.Q.L.isEmpty&&decide (aD x = [])):=by
 unfold yw;dsimp only;rw[GU,XB,UQ hx hS];cases x.Q.L.isEmpty <;> rfl
end
theorem Rs.oh{x:Hp}{n:Nat}(h:Rs x n):Oh x:=⟨h.rt,h.sl,h.zr⟩
theorem Um(l:List (List c9)):∃b,nk l=some b/\(b=true->l.length<=10/\∀p∈l,p.length<=10):=by
 unfold nk;simp only[jn];refine UU (Q:=λb=>b=true->l.length<=10/\(∀p∈l,p.length<=10)) (min l.length 10) (λk=>∀h:k<l.length,(l[k]).length<=10) (by have:min l.length 10<=10:=Nat.min_le_right ..;omega) (λk hk=>?_) ?_ (λhP=>?_) (λhP=>?_)
 .have hkl:k<l.length:=by omega
  have hk10:k<10:=by omega
  have c:((decide (((k:Nat):Int)<(l.length:Int)))&&(decide (((k:Nat):Int)<10)))=true:=by simp;omega
  by_cases q:(l[k]).length<=10
  .refine⟨_,?_,.inl ⟨λ_=>q,rfl⟩⟩;rw[zb c,o0 hkl,XB,za (by simp;omega),k8]
  .refine⟨_,?_,.inr ⟨λh=>q (h hkl),rfl⟩⟩;rw[zb c,o0 hkl,XB,zb (by simp;omega)]
 .rw[za (by simp;omega)]
 .refine⟨_,rfl,λh=>?_⟩;have h10:l.length<=10:=by have:=za8 h;omega
  refine⟨h10,λp hp=>?_⟩;obtain⟨k,hk,rfl⟩:=zaz hp;exact hP k (by omega) hk
 .exact⟨false,rfl,λh=>by cases h⟩
theorem HY(l:List (List Int))(m:Int):∃b,T9 l m=some b/\(b=true->(l.length:Int)<=m):=by
 unfold T9;simp only[jn];refine UU (Q:=λb=>b=true->(l.length:Int)<=m) (min l.length 200) (λk=>∀h:k<l.length,(l[k]).length<=10) (by have:min l.length 200<=200:=Nat.min_le_right ..;omega) (λk hk=>?_) ?_ (λhP=>?_) (λhP=>?_)
 .have hkl:k<l.length:=by omega
  have hk10:k<200:=by omega
  have c:((decide (((k:Nat):Int)<(l.length:Int)))&&(decide (((k:Nat):Int)<200)))=true:=by simp;omega
  by_cases q:(l[k]).length<=10
  .refine⟨_,?_,.inl ⟨λ_=>q,rfl⟩⟩;rw[zb c,o0 hkl,XB,za (by simp;omega),k8]
  .refine⟨_,?_,.inr ⟨λh=>q (h hkl),rfl⟩⟩;rw[zb c,o0 hkl,XB,zb (by simp;omega)]
 .rw[za (by simp;omega)]
 .exact⟨_,rfl,λh=>za8 h⟩
 .exact⟨false,rfl,λh=>by cases h⟩
theorem Vx{n last places:Int}{ps:List (List c9)}(hl:ps.length<=12)(hp:∀p∈ps,p.length<=12) :
  (∃e,N6 n last places ps=some (⟨IM,[]⟩,e)/\Bh n last places (uz ps)=some (⟨hO IM,[]⟩,e)/\(e=13\/e=1/\¬((1<=n/\n<=24)/\(0<=last/\last<=9)/\1<=places/\places<=8))) \/
  (∃k p:Nat,n=k/\places=p/\(1<=k/\k<=24)/\Mp ps/\Rs (hZ k last p) 0/\N6 n last places ps=some (⟨hZ k last p,ps⟩,0)/\Bh n last places (uz ps)=some (⟨hO (hZ k last p),uz ps⟩,0)):=by
 have e1:fR ps=some (kM ps):=Mr (by omega) hp;have e2:nJ (uz ps)=some (kM ps):=Fu (by omega) hp;unfold N6 Bh;rw[e1,e2,XB,XB];cases hq:kM ps;·exact .inl ⟨13,rfl,rfl,.inl rfl⟩
 .simp only[Bool.not_true,zi,zV];by_cases h:(1<=n/\n<=24)/\(0<=last/\last<=9)/\1<=places/\places<=8
  .right;obtain⟨h1,h2,h3⟩:=h;obtain⟨k,rfl⟩:∃k:Nat,n=k:=⟨n.toNat,by omega⟩;obtain⟨p,rfl⟩:∃p:Nat,places=p:=⟨places.toNat,by omega⟩;obtain⟨a1,a2,hx,hS,hz⟩:=Li (k:=k) (p:=p) (l:=last) (by omega) h2 (by omega);refine⟨k,p,rfl,rfl,by omega,(Vs hq).1,⟨hx,hS,hz,pm _⟩,?_,?_⟩
   .rw[a1,XB,hx.sh.r6];rfl
   .rw[a2,XB,show (hO (hZ k last p)).Roots.length=6 from hx.sh.r6];rfl
  .left;have a1:cg n last places=some IM:=by
    unfold cg;rw[zb (by simp;omega)];rfl
   have a2:qY n last places=some (hO IM):=by
    unfold qY;rw[zb (by simp;omega)];rfl
   refine⟨1,?_,?_,.inr ⟨rfl,h⟩⟩;·rw[a1];rfl
   .rw[a2];rfl
theorem TW{x:Hp}{n:Nat}(hx:Rs x n)(hn:n<=1000000){ps:List (List c9)}(hm:Mp ps){rows:List (List Int)}(hl:rows.length<=1000){r:A0 × List n8}(h:uH ⟨hO x,uz ps⟩ rows=some r) :
  Y7 ⟨x,ps⟩ rows=some (⟨QP r.1.X,ps⟩,r.2.map λa=>⟨a.V,a.E⟩)/\Rs (QP r.1.X) (n+201*rows.length)/\(gF ps x rows).1=QP r.1.X/\(gF ps x rows).2=r.2.map λa=>(a.V,a.E):=by
 have hs:=hx.Z4;have e:=Xh hm hx.oh rows hl (by omega);rw[h] at e;have e:=zac e;obtain⟨o1,o2⟩:=vl hm hx.oh rows (by omega);have a1:(gF ps x rows).1=QP r.1.X:=by rw[e,SF]
 have a2:(gF ps x rows).2=r.2.map λa=>(a.V,a.E):=by
  rw[e,zb0];conv=>lhs;rw[<-List.map_id (gF ps x rows).2]
  exact zC λp _=>rfl
 refine⟨?_,⟨a1▸o1.rt,a1▸o1.sl,a1▸o1.zr,?_⟩,a1,a2⟩
 .rw[OG hm hx.oh rows hl (by omega),a1,a2,zb0];congr 1
 .have:(QP r.1.X).S.Serial<=x.S.Serial+201*(rows.length:Int):=a1▸o2;show (QP r.1.X).S.Serial<=((n+201*rows.length:Nat):Int);omega
def MK:List (List Int):=[[1,0,1,(-1)],[5,0,0,0],[3,0,0,0],[11,0,0,0],[11,0,0,0],[12,9,0,0],[2,0],[4,0,1,0]]
def Xg:A0 × List n8:=(uH ⟨hO (hZ 4 5 8),[]⟩ MK).getD (⟨hO IM,[]⟩,[])
theorem SZ:Mp []:=λ_ h=>by cases h
theorem Qg:dB=some true:=by
 obtain⟨a1,a2⟩:=TX (k:=4) (p:=8) (l:=5) (by decide) (by decide) (by decide);obtain⟨b1,b2,_,_⟩:=TW a2 (by decide) SZ (rows:=MK) (by decide) (r:=Xg) (by kernel_rfl);unfold dB;refine tI (a:=((⟨hZ 4 5 8,[]⟩:n9),(0:Int))) (by unfold N6;refine tI (a:=true) (by kernel_rfl) ?_;refine tI a1 ?_;kernel_rfl) ?_;refine tI b1 ?_;dsimp only;rw[Si b2.rt,WL b2.rt,Sk b2.rt b2.sl,<-TS (ps:=[]) b2.rt,<-TV (ps:=[]) b2.rt b2.sl];kernel_rfl
theorem VW{n:Int}(h0:0<=n)(h1:n<=255):u4 n=n:=D1 (by omega) (by omega)
theorem Ve{l:List (List c9)}{rows more:List (List Int)}{m:Int}{K:Option Bool}(h:l.length<=10->(∀p∈l,p.length<=10)->(rows.length:Int)<=m->(more.length:Int)<=m->K=some true) :
  ((nk l).bind λv1=>(p7 ((!v1)==false) false (T9 rows m)).bind λv2=>(p7 (((!v1)||(!v2))==false) false (T9 more m)).bind λv3=>(p7 ((((!v1)||(!v2))||(!v3))==false) false dB).bind λv4=>if ((((!v1)||(!v2))||(!v3))||(!v4)) then (dB).bind λv5=>some v5 else K)=some true:=by
 obtain⟨b,h1,h2⟩:=Um l;obtain⟨c,h3,h4⟩:=HY rows m;obtain⟨d,h5,h6⟩:=HY more m;rw[h1,XB,Qg];cases b;·rfl
 .rw[show p7 ((!true)==false) false (T9 rows m)=T9 rows m from rfl,h3,XB];cases c;·rfl
  .rw[show p7 (((!true)||(!true))==false) false (T9 more m)=T9 more m from rfl,h5,XB];cases d;·rfl
   .exact h (h2 rfl).1 (h2 rfl).2 (h4 rfl) (h6 rfl)
theorem Gg(l:List (Int × Int))(hl:l.length<=1000):Z9 (l.map UJ)=some (l.map UK):=by
 unfold Z9;simp only[jn];refine M2 l.length (λk acc=>acc=(l.take k).map UK) (by omega) (by simp) (λk acc hk hacc=>.inl ⟨_,?_,rfl⟩) (λacc hacc=>⟨_,za (by simp),by rw[hacc,zL]⟩);subst hacc;have hk':k<(l.map UJ).length:=by simpa using hk
 dsimp only;rw[zb (by simpa using hk),o0 hk',XB,wl,y4 (by omega) (by simp;omega),XB,k8,zw hk,my];rfl
theorem TI(l:List n8)(hl:l.length<=1000):iq l l=some true:=by
 unfold iq;rw[za (by simp)];simp only[jn];refine T1 l.length (λ_=>True) (by omega) trivial (λk hk _=>.inl ⟨?_,trivial⟩) (λ_=>⟨.inr (),za (by simp),rfl⟩);rw[zb (by simpa using hk),o0 hk,XB,XB,za (by simp),k8]
theorem WX{n last:Int}(h0:0<=n)(h1:n<=255){ps:List (List c9)}(hl:ps.length<=12)(hp:∀p∈ps,p.length<=12)(hL:0<=last/\last<=9) :
  (N6 (u4 (1+n % 24)) last 8 ps=some (⟨IM,[]⟩,13))\/(∃k:Nat,1+n % 24=k/\(1<=k/\k<=24)/\Mp ps/\Rs (hZ k last 8) 0/\N6 (u4 (1+n % 24)) last 8 ps=some (⟨hZ k last 8,ps⟩,0)):=by
 have hw:u4 (1+n % 24)=1+n % 24:=D1 (by omega) (by omega);rw[hw];rcases Vx (n:=1+n % 24) (last:=last) (places:=8) (ps:=ps) hl hp with ⟨e,e1,_,e3⟩ | ⟨k,p,hk,hpp,hk2,hm,hr,e1,_⟩
 .rcases e3 with rfl | ⟨_,h⟩
  .exact .inl e1
  .exact absurd ⟨by omega,hL,by omega,by omega⟩ h
 .obtain rfl:p=8:=by omega
  exact .inr ⟨k,hk,hk2,hm,hr,e1⟩
theorem Rl{n:Int}(h0:0<=n)(h1:n<=255){b:Int}(hb:0<b):rem (u4 n) b=some (n % b):=by rw[VW h0 h1,nN h0 hb]
theorem engineParts{n last:Int}{l:List (List c9)}{rows more:List (List Int)}(h0:0<=n)(h1:n<=255)(g0:0<=last)(g1:last<=255):eZ n last l rows more=some true:=by
 unfold eZ;refine Ve λhl hp hr hr2=>?_;have hp12:∀p∈l,p.length<=12:=λp q=>by have:=hp p q;omega
 rw[Rl h0 h1 (by decide),XB,Rl g0 g1 (by decide),XB];rcases WX (last:=last % 10) h0 h1 (ps:=l) (by omega) hp12 (by omega) with e1 | ⟨k,hk,hk2,hm,hr0,e1⟩
 .rw[e1,XB];rfl
 .have hs:=hr0.Z4;obtain⟨o1,o2⟩:=vl hm hr0.oh rows (by omega);obtain⟨p1,p2⟩:=vl hm o1 more (by omega);have hlen1:=uj l (hZ k (last % 10) 8) rows;have hlen2:=uj l (gF l (hZ k (last % 10) 8) rows).1 more;have hall:=An l (hZ k (last % 10) 8) rows more;rw[e1,XB];dsimp only;rw[za (by simp),OG hm hr0.oh rows (by omega) (by omega),XB];dsimp only;rw[OG hm o1 more (by omega) (by omega),XB,I9 (by omega) (by omega),XB,y4 (by omega) (by omega),XB];rw[OG hm hr0.oh (rows++more) (by simp;omega) (by omega),XB];dsimp only;rw[hall];dsimp only;rw[Vd p1.rt.sh,XB,zW,aF,XB];simp only[zb8,zW,aF];rw[ON p1.rt.sh,XB,XB,TZ p1.rt.sh,XB];simp only[zb8,zW,zH];rw[Gg _ (by omega),XB,Gg _ (by omega),XB,y4 (by omega) (by simp;omega),XB,Gg _ (by simp;omega),XB,my,TI _ (by simp;omega)];rfl
end Go.Sh
