/- A part. -/
import Derived.Test.YtppgkaeodaaidaaGreatDoorU3mT2
set_option linter.unusedVariables false
set_option linter.unusedSimpArgs false
set_option linter.unusedSectionVars false
namespace Go.Sh
theorem Lh{c:Int}(h:0<=c):1<=W6 c:=by unfold W6;split <;> (try split) <;> omega
theorem FC{x:Hp}(hR:SR x.S){h:Int}(hh:h∈lv x.S){k:Int}(hk:k∈lv x.S):(ob (gO x h).S k).Strong=if k=h then W6 (ob x.S k).Strong else (ob x.S k).Strong:=by
 have oko:=J5 hR hh;have ho:xJ x.S (dO (ob x.S h)):=⟨oko.s1,oko.s2,oko.st,oko.wk,oko.p1,oko.p2,oko.fl⟩;have r1:=bu (o:=dO (ob x.S h)) hR hh rfl ho;have l1:lv (cK x.S h (dO (ob x.S h)))=lv x.S:=fD (o:=dO (ob x.S h)) hR hh rfl ho;have hr:=I3 hR hk;have e1:(ob (cK x.S h (dO (ob x.S h))) k).Strong=(ob x.S k).Strong:=by
  rw[eh (o:=dO (ob x.S h)) hR hh rfl ho (by omega)];split;·rename_i e;subst e;rfl
  .rfl
 have:=tI (x:=⟨cK x.S h (dO (ob x.S h)),x.Roots,x.a8,x.T,⟨x.Q.L ++ [tZ x h],x.Q.Cap⟩⟩) r1 (h:=h) (f:=W6) (λc=>D8) (k:=k) (by
  show k∈lv (cK x.S h (dO (ob x.S h)));rw[l1];exact hk)
 rw[show (ob (gO x h).S k).Strong=_ from this];show (if k=h then W6 (ob (cK x.S h (dO (ob x.S h))) k).Strong else (ob (cK x.S h (dO (ob x.S h))) k).Strong)=_;rw[e1]
theorem Uz{x:Hp}(hx:O4 x)(hz:zr x = []){h:Int}(hh:h∈lv x.S):zr (gO x h) = []:=za0.2 λk hk=>by
 obtain⟨a,b⟩:=cd.1 hk;rw[Bz hx.sh.sr hh] at a;rw[FC hx.sh.sr hh a] at b;have h0:=(J5 hx.sh.sr a).st;have hn:(ob x.S k).Strong≠0:=λq=>by
  have:k∈zr x:=cd.2 ⟨a,q⟩;rw[hz] at this;cases this
 split at b;·have:=Lh h0;omega
 .exact hn b
structure Qd (x y:Hp) (l:List Int):Prop where
 rt:O4 y
 sl:SL y
 zr:zr y = []
 lv:lv y.S=lv x.S
 ob:∀k∈Sh.lv x.S,∃n,Sh.ob y.S k=Ae (if k∈l then dO (Sh.ob x.S k) else Sh.ob x.S k) n
 ro:y.Roots=x.Roots
 ce:y.a8=x.a8
 t:y.T=x.T
 q:y.Q=⟨x.Q.L++l.map (tZ x),x.Q.Cap⟩
 T7:y.S.Serial=x.S.Serial
theorem Qp{x:Hp}(hR:SR x.S){h:Int}(hh:h∈lv x.S):(gO x h).S.Serial=x.S.Serial:=(lH hR hh).1.T7
theorem FD:∀(l:List Int) {x:Hp},O4 x->SL x->Sh.zr x = []->l.Nodup->(∀h∈l,h∈Sh.lv x.S/\due (Sh.ob x.S h)=true)->Qd x (l.foldl gO x) l
 | [],x,hx,hS,hz,_,_=>⟨hx,hS,hz,rfl,λk hk=>⟨(Sh.ob x.S k).Strong,by rw[za (by simp)];rfl⟩,rfl,rfl,rfl,by simp,rfl⟩
 | h::l,x,hx,hS,hz,hn,hd=>by
  obtain⟨hl,hdu⟩:=hd h (zi ..);have hR:=hx.sh.sr;rw[zar] at hn;have q2:=hdu;unfold due at q2;rw[zl,zH,zbk] at q2;have h1:=tp hx hl q2.1 q2.2;have h2:=Mx hR hS hl;have h3:=Uz hx hz hl;have lq:=Bz hR hl;have oq:∀k∈Sh.lv x.S,k≠h->∃n,Sh.ob (gO x h).S k=Ae (Sh.ob x.S k) n:=λk hk hne=>by
   obtain⟨n,e⟩:=wO hR hl hk;rw[za hne] at e;exact⟨n,e⟩
  have ih:=FD l h1 h2 h3 hn.2 λk hk=>by
   obtain⟨a,b⟩:=hd k (zq _ hk);obtain⟨n,e⟩:=oq k a λe=>hn.1 (e▸hk);refine⟨by rw[lq];exact a,?_⟩;rw[e];exact b
  obtain⟨_,k1,k2,k3,k4⟩:=lH hR hl;refine⟨ih.rt,ih.sl,ih.zr,ih.lv.trans lq,λk hk=>?_,ih.ro.trans k1,ih.ce.trans k2,ih.t.trans k3,?_,ih.T7.trans (Qp hR hl)⟩
  .obtain⟨n,e⟩:=ih.ob k (by rw[lq];exact hk);obtain⟨m,e2⟩:=wO hR hl hk;refine⟨n,?_⟩;show Sh.ob (l.foldl gO (gO x h)).S k=_;rw[e];by_cases c:k=h
   .subst c;rw[za hn.1,zb (zi ..),e2,zb rfl]
   .rw[za c] at e2;by_cases c2:k∈l
    .rw[zb c2,zb (zq _ c2),e2]
    .rw[za c2,za (λq=>by
      rcases zJ.1 q with r | r
      .exact c r
      .exact c2 r),e2]
  .show (l.foldl gO (gO x h)).Q=_;rw[ih.q,k4];have:l.map (tZ (gO x h))=l.map (tZ x):=zP λk hk=>by
    obtain⟨a,_⟩:=hd k (zq _ hk);obtain⟨n,e⟩:=oq k a λe=>hn.1 (e▸hk);show (⟨1,k,(Sh.ob (gO x h).S k).Prog⟩:o0)=⟨1,k,(Sh.ob x.S k).Prog⟩;rw[e]
   rw[this];simp
noncomputable def mU(x:Hp):List Int:=(eE x).filter λh=>due (Sh.ob x.S h)
noncomputable def EE(x:Hp):Hp:=if mU x = [] then gb x (eE x) else (mU x).foldl gO x
theorem Az{x:Hp}:∀h∈mU x,h∈Sh.lv x.S/\due (Sh.ob x.S h)=true:=λh hh=>by
 obtain⟨a,b⟩:=zy.1 hh;exact⟨(aZ.1 a).1,b⟩
theorem Ke{x:Hp}(hx:O4 x):(mU x).Nodup:=zbu _ (gC hx)
theorem Kf{x:Hp}(hx:O4 x)(hS:SL x)(hz:zr x = []):Qd x ((mU x).foldl gO x) (mU x):=FD _ hx hS hz (Ke hx) Az
theorem EF{x:Hp}(hx:O4 x)(hS:SL x)(hz:zr x = []):O4 (EE x)/\SL (EE x)/\zr (EE x) = []:=by
 unfold EE;split;·exact⟨dW hx,Kg hx.sh.sr hS (gC hx) (gB hx),CE (dW hx) (CO hx)⟩
 .have q:=Kf hx hS hz;exact⟨q.rt,q.sl,q.zr⟩
theorem SP{y:Hp}(h:mU y = []):EE y=gb y (eE y):=by
 unfold EE;rw[zb h]
section
variable{x:Hp}(hx:O4 x)
include hx
end
structure Rs (x:Hp) (n:Nat):Prop where
 rt:O4 x
 sl:SL x
 zr:zr x = []
 T7:x.S.Serial<=n
section
variable{x:Hp}(hx:O4 x)(hS:SL x)
include hx hS
theorem Kk:S0 x=some (eE x):=by
 have hB:=VX hx hS;unfold S0;rw[EX (y5.2 hx.sh.sr) hx.sh.hr hB.tb hB.fb hB.sb];rfl
theorem AV:(eE x).length<=24:=t6 (wd ..) (M6 (y5.2 hx.sh.sr))
theorem SJ:ez x=some (mU x):=by
 have hR:=hx.sh.sr;have hl:=AV hx hS;unfold ez;rw[Kk hx hS,Ys];unfold H3;simp only[jn];refine Cs (a:=mU x) ?_ rfl;refine Y3 (eE x).length (λk b=>b=((eE x).take k).filter λh=>due (Sh.ob x.S h)) (by omega) rfl (λk b hk hP=>?_) (λb hP=>?_)
 .subst hP;have hm:=gB hx _ (zk hk);have hle:(((eE x).take k).filter λh=>due (Sh.ob x.S h)).length<=24:=t6 (wd ..) (by simp;omega);refine .inl ⟨_,?_,rfl⟩;rw[zb (by simpa using hk),u7 hk,Ys,T0 hk,zao];unfold fu;rw[sT hR hm,Ys,Ys];have e:(decide ((ob x.S (eE x)[k],(0:Int)).1.Prog>=0) && !(ob x.S (eE x)[k],(0:Int)).1.Started)=due (ob x.S (eE x)[k]):=rfl;rw[e];cases hd:due (ob x.S (eE x)[k])
  .rw[za (by simp),p8];simp[hd]
  .rw[zb rfl,C3 (by omega) (by simp;omega),Ys,p8];simp[hd]
 .subst hP;refine⟨_,za (by simp),?_⟩;rw[zU];rfl
noncomputable def OR(x:Hp):Int:=if mU x = [] then ((lv x.S).length:Int)-((lv (EE x).S).length:Int) else 0
omit hx hS in
theorem TK {l:List Int} (hn:l.Nodup) (hm:∀d∈l,d∈lv x.S):Wg x l=l:=by
 have key:∀(l b:List Int),(b++l).Nodup->(∀d∈l,d∈lv x.S)->l.foldl (λb h=>if h∈lv x.S/\h∉b then b ++ [h] else b) b=b++l:=by
  intro l;induction l with
  | nil=>intro b _ _;simp
  | cons a l ih=>
   intro b hn hm;rw[zaq];have ha:a∉b:=λq=>by
    rw[zbx] at hn;exact hn.2.2 a q a (zi ..) rfl
   rw[zb ⟨hm a (zi ..),ha⟩,ih (b ++ [a]) (by simpa using hn) λd hd=>hm d (zq _ hd)];simp
 exact key l [] (by simpa using hn) hm
variable(hz:zr x = [])
include hz
theorem QO{k:Nat}(hk:k<(mU x).length):(((mU x).take k).foldl gO x)=(((mU x).take k).foldl gO x)/\O4 (((mU x).take k).foldl gO x)/\SL (((mU x).take k).foldl gO x)/\(mU x)[k]∈lv (((mU x).take k).foldl gO x).S/\due (ob (((mU x).take k).foldl gO x).S (mU x)[k])=true:=by
 have hn:=Ke hx;have q:=FD ((mU x).take k) hx hS hz ((List.take_sublist ..).nodup hn) λh hh=>Az h (zah hh);obtain⟨a,b⟩:=Az (mU x)[k] (zk hk);refine⟨rfl,q.rt,q.sl,by rw[q.lv];exact a,?_⟩;obtain⟨n,e⟩:=q.ob _ a;have hnot:(mU x)[k]∉(mU x).take k:=λh=>by
  have:=T0 hk;have hs:((mU x).take (k+1)).Nodup:=(List.take_sublist ..).nodup hn;rw[this,zbx] at hs;exact hs.2.2 _ h _ (List.mem_singleton_self _) rfl
 rw[e,za hnot];exact b
theorem GC:(mU x).length<=24:=t6 (wd ..) (AV hx hS)
theorem SO:Z1 x=some (EE x,((mU x).length:Int),OR x):=by
 have hR:=hx.sh.sr;have hl:=GC hx hS hz;obtain⟨c1,c2,c3⟩:=EF hx hS hz;unfold Z1;rw[SJ hx hS,Ys];simp only[jn];refine Y3 (mU x).length (λk b=>b=((mU x).take k).foldl gO x) (by omega) rfl (λk b hk hP=>?_) (λb hP=>?_)
 .subst hP;obtain⟨_,r1,r2,r3,r4⟩:=QO hx hS hz hk;refine .inl ⟨_,?_,rfl⟩;rw[zb (by simpa using hk),u7 hk,Ys,yV r1 r2 (gJ r1.sh.sr r3),Ys,p8,T0 hk,za1];unfold Ux;rw[zb ⟨r3,r4⟩];rfl
 .subst hP;refine⟨_,za (by simp),?_⟩;rw[zU];by_cases hb:mU x = []
  .have e:EE x=gb x (eE x):=SP hb;rw[za (by simp[hb])];unfold OR;rw[zb hb,e,hb];have h1:=gC hx;have h2:=gB hx;have hlive:=de (y5.2 hR);have hlive2:=de (y5.2 (dW hx).sh.sr);have l1:=M6 (y5.2 hR);have l2:=M6 (y5.2 (dW hx).sh.sr);show (S0 x).bind _=_;rw[Kk hx hS,Ys,List.foldl_nil,GD hx h1 h2 (QB hx) (by rw[rn hR _ (by have:=AV hx hS;omega) λh hh=>gJ hR (h2 h hh),TK h1 h2]),Ys,gn (dW hx) (by rw[<-e];exact c2),Ys,EY hx,hlive,Ys,hlive2,Ys,F9 (by omega) (by omega)];rfl
  .have:0<(mU x).length:=List.length_pos_iff.2 hb;rw[zb (by simp;omega)];unfold OR EE;rw[za hb,za hb]
end
theorem OV{x:Hp}(hx:O4 x)(hS:SL x)(hz:zr x = []):(EE x).S.Serial=x.S.Serial:=by
 unfold EE;split
 .have g:=da (eE x) hx.sh.sr (gC hx) (gB hx);exact (gV ((eE x).flatMap (outs x.S)++(mi x.T (eE x)).2) (x:=il x (eE x) (mi x.T (eE x)).1) g.sr).1.T7.trans g.T7
 .exact (Kf hx hS hz).T7
def Sv(s s':a7):Prop:=s'.S.a8.length=s.S.a8.length/\∀i,i<s.S.a8.length->(ce s i).Gen<=(ce s' i).Gen/\((ce s' i).Gen=(ce s i).Gen->((ce s i).State≠0->(ce s' i).State≠0)/\((ce s' i).State=1->(ce s i).State=0\/((ce s i).State=1/\((ce s i).Val.Started=true->(ce s' i).Val.Started=true))))
theorem Sv.refl(s:a7):Sv s s:=⟨rfl,λi _=>⟨pi _,λ_=>⟨id,λh=>.inr ⟨h,id⟩⟩⟩⟩
theorem Sv.trans{a b c:a7}(h:Sv a b)(q:Sv b c):Sv a c:=by
 obtain⟨h1,h2⟩:=h;obtain⟨q1,q2⟩:=q;refine⟨q1.trans h1,λi hi=>?_⟩;obtain⟨a1,a2⟩:=h2 i hi;obtain⟨b1,b2⟩:=q2 i (by omega);refine⟨by omega,λe=>?_⟩;obtain⟨a3,a4⟩:=a2 (by omega);obtain⟨b3,b4⟩:=b2 (by omega);refine⟨λh=>b3 (a3 h),λh=>?_⟩;rcases b4 h with r | ⟨r,r'⟩
 .exact .inl (q9 λn=>a3 n r)
 .rcases a4 r with k | ⟨k,k'⟩
  .exact .inl k
  .exact .inr ⟨k,λs=>r' (k' s)⟩
def Gd(s:a7)(h:Int):Prop:=∃(i:Nat) (g:Int),i<s.S.a8.length/\h=1+(i:Int)+32*g/\(g<(ce s i).Gen\/(g=(ce s i).Gen/\(ce s i).State≠0/\((ce s i).State=1->(ce s i).Val.Started=true)))
theorem Sv.WS{s s':a7}(h:Sv s s'){k:Int}(q:Gd s k):Gd s' k:=by
 obtain⟨i,g,hi,e,q⟩:=q;obtain⟨h1,h2⟩:=h;obtain⟨a,b⟩:=h2 i hi;refine⟨i,g,by omega,e,?_⟩;rcases q with q | ⟨q1,q2,q3⟩
 .exact .inl (by omega)
 .by_cases c:(ce s' i).Gen=(ce s i).Gen
  .obtain⟨b1,b2⟩:=b c;refine .inr ⟨by omega,b1 q2,λr=>?_⟩;rcases b2 r with k | ⟨k1,k2⟩
   .exact absurd k q2
   .exact k2 (q3 k1)
  .exact .inl (by omega)
theorem Ju{s:a7}(hR:SR s){h:Int}(hh:h∈lv s)(hs:(ob s h).Started=false):¬Gd s h:=by
 rintro⟨i,g,hi,e,q⟩;obtain⟨j,hj⟩:=(fF hR).1 hh;have hl:=hR.len;have hij:i=j:=by
  have:=hj.2.2;have:=hj.1;omega
 subst hij;have:=hj.2.2;rcases q with q | ⟨q1,q2,q3⟩
 .omega
 .rw[Q2 hR hj,q3 hj.2.1] at hs;cases hs
theorem ur.sv{s s':a7}(hR:SR s)(k:ur s s'):Sv s s':=⟨k.len,λi hi=>by
 obtain⟨a,b,_,_,_⟩:=k.ce i hi;refine⟨by omega,λ_=>⟨by omega,λh=>.inr ⟨by omega,λq=>?_⟩⟩⟩;have h1:At s (dF s i) i:=⟨hi,by omega,rfl⟩;have h2:At s' (dF s i) i:=⟨by rw[k.len];exact hi,h,by rw[b];rfl⟩;have hl:=I3 hR ((fF hR).2 ⟨i,h1⟩);obtain⟨n,e⟩:=k.ob (dF s i) (by omega);rw[Q2 k.sr h2,Q2 hR h1] at e;rw[e];exact q⟩
theorem MU{s:a7}(hR:SR s){h:Int}(hh:h∈lv s){o:p7}(hs:o.Serial=(ob s h).Serial)(ho:xJ s o)(hst:(ob s h).Started=true->o.Started=true):Sv s (cK s h o):=⟨HT s h o,λi hi=>by
 have q:=A0 hR hh;rw[BU hR hh hs ho];split
 .rename_i e;subst e;refine⟨pi _,λ_=>⟨id,λr=>.inr ⟨q.2.1,λk=>hst ?_⟩⟩⟩;rw[Q2 hR q];exact k
 .exact⟨pi _,λ_=>⟨id,λr=>.inr ⟨r,id⟩⟩⟩⟩
theorem LI{s:a7}(hR:SR s){i:Nat}(hi:i<s.S.a8.length)(ht:Th (ce s i))(d:Int):Sv s (oE s i d):=⟨N8 ..,λj hj=>by
 rw[fz hR hi ht];split
 .rename_i e;subst e;exact⟨pi _,λ_=>⟨id,λr=>.inr ⟨r,id⟩⟩⟩
 .exact⟨pi _,λ_=>⟨id,λr=>.inr ⟨r,id⟩⟩⟩⟩
theorem Tt{s:a7}{i:Nat}(hi:i<s.S.a8.length):Sv s (yD s i):=⟨Z6 ..,λj hj=>by
 unfold yD;rw[L3 hi];by_cases e:j=i
 .subst e;rw[zb rfl];split;·exact⟨pi _,λ_=>⟨λ_=>(by decide:(3:Int)≠0),λr=>absurd (show (3:Int)=1 from r) (by decide)⟩⟩
  .refine⟨by show _<=(ce s j).Gen+1;omega,λr=>?_⟩;have:(ce s j).Gen+1=(ce s j).Gen:=r;omega
 .rw[za e];exact⟨pi _,λ_=>⟨id,λr=>.inr ⟨r,id⟩⟩⟩⟩
theorem Gn.sv{s s':a7}{ds:List Int}(g:Gn s s' ds):Sv s s':=⟨g.len,λj hj=>by
 rw[g.ce];split
 .unfold JH;split
  .split;·exact⟨pi _,λ_=>⟨λ_=>(by decide:(3:Int)≠0),λr=>absurd (show (3:Int)=1 from r) (by decide)⟩⟩
   .refine⟨by show _<=(Sh.ce s j).Gen+1;omega,λr=>?_⟩;have:(Sh.ce s j).Gen+1=(Sh.ce s j).Gen:=r;omega
  .exact⟨pi _,λ_=>⟨λ_=>(by decide:(2:Int)≠0),λr=>absurd (show (2:Int)=1 from r) (by decide)⟩⟩
 .exact⟨pi _,λ_=>⟨id,λr=>.inr ⟨r,id⟩⟩⟩⟩
theorem Wo{s:a7}(hR:SR s){i:Nat}(hi:i<s.S.a8.length)(h0:(ce s i).State=0){n:Nat}(hn:n<=4){p:Int}(hp : -1<=p/\p<=5):Sv s (eI s i n p):=⟨js hR hi h0 hn hp,λj hj=>by
 rw[mz hR hi h0 hn hp];split
 .rename_i e;subst e;exact⟨pi _,λ_=>⟨λr=>absurd h0 r,λ_=>.inl h0⟩⟩
 .exact⟨pi _,λ_=>⟨id,λr=>.inr ⟨r,id⟩⟩⟩⟩
theorem FM{x:Hp}(hR:SR x.S)(h:Int):Sv x.S (C6 x h).S:=(G2 hR h (f:=W6) λc=>D8).sv hR
theorem BP{x:Hp}(hR:SR x.S)(h:Int):Sv x.S (R9 x h).S:=(G2 hR h (f:=jC) λc=>P3).sv hR
theorem DG{x:Hp}(hR:SR x.S)(r:Nat)(h:Int):Sv x.S (H5 x r h).S:=
 (FM hR h).trans (BP (x:=wR (C6 x h) (x.Roots.set r h)) (gY hR h) _)
theorem II{x:Hp}(hR:SR x.S){h:Int}(hh:h∈lv x.S){n:Nat}(hn:n<(ob x.S h).Fields.length)(v:Int):Sv x.S (bS x h n v).S:=by
 have k1:=BS hR v;have hh1:h∈lv (C6 x v).S:=by rw[k1.lv];exact hh
 have hof:(ob (C6 x v).S h).Fields=(ob x.S h).Fields:=by
  obtain⟨n,e⟩:=(G2 hR v (f:=W6) λc=>D8).ob h (by have:=I3 hR hh;omega);show (ob (se x v W6).S h).Fields=_;rw[e]
 have ho:xJ (C6 x v).S (oz (ob (C6 x v).S h) ((ob x.S h).Fields.set n v)):=by
  have:=J5 k1.sr hh1;refine⟨this.s1,this.s2,this.st,this.wk,this.p1,this.p2,?_⟩;have h4:=this.fl;rw[hof] at h4;simpa using h4
 have k2:=MU (o:=oz (ob (C6 x v).S h) ((ob x.S h).Fields.set n v)) k1.sr hh1 rfl ho id;exact ((FM hR v).trans k2).trans (BP (x:=wS (C6 x v) (cK (C6 x v).S h (oz (ob (C6 x v).S h) ((ob x.S h).Fields.set n v)))) (bu (o:=oz (ob (C6 x v).S h) ((ob x.S h).Fields.set n v)) k1.sr hh1 rfl ho) _)
theorem Mm{x:Hp}(hR:SR x.S)(v:Int)(t:Tb)(old:Int):Sv x.S (jR x v t old).S:=
 (FM hR v).trans (BP (x:=wT (C6 x v) t) (gY hR v) old)
theorem TR{x:Hp}(hR:SR x.S)(h d:Int):Sv x.S (jO x h d).S:=by
 unfold jO;split
 .rename_i q;exact LI hR q.1 q.2.1 d
 .exact Sv.refl _
theorem QU{x:Hp}(hR:SR x.S)(h:Int):Sv x.S (nW x h).S:=by
 unfold nW;split
 .rename_i q;have k:=LI hR q.1 q.2.1 (-1);split;·exact k.trans (Tt (by rw[k.1];exact q.1))
  .exact k
 .exact Sv.refl _
theorem Nu{x:Hp}(hx:O4 x)(n:Nat)(h call:Int):Sv x.S (dP x n h call).S:=by
 have hR:=hx.sh.sr;unfold dP;have s1:Sv x.S (jO (wC x (x.a8.set n (iZ h call))) h 1).S:=TR (x:=wC x (x.a8.set n (iZ h call))) hR h 1;refine s1.trans (QU ?_ _);unfold jO;split
 .rename_i q;have:=(hR.ok _ q.1 q.2.1).wk;exact wy hR q.1 q.2.1 (by omega)
 .exact hR
theorem SK{x:Hp}(hR:SR x.S){ds:List Int}(hn:ds.Nodup)(hm:∀d∈ds,d∈lv x.S):Sv x.S (gb x ds).S:=by
 have g:=da ds hR hn hm;exact g.sv.trans ((gV (ds.flatMap (outs x.S)++(mi x.T ds).2) (x:=il x ds (mi x.T ds).1) g.sr).1.sv g.sr)
theorem Uy{x:Hp}(hR:SR x.S){h:Int}(hh:h∈lv x.S):Sv x.S (gO x h).S:=by
 have oko:=J5 hR hh;have ho:xJ x.S (dO (ob x.S h)):=⟨oko.s1,oko.s2,oko.st,oko.wk,oko.p1,oko.p2,oko.fl⟩;exact (MU (o:=dO (ob x.S h)) hR hh rfl ho λ_=>rfl).trans ((lH hR hh).1.sv (bu (o:=dO (ob x.S h)) hR hh rfl ho))
theorem UX{x:Hp}(hx:O4 x):Sv x.S (HZ x).S:=by
 cases h:zr x with
 | nil=>rw[oV h];exact Sv.refl _
 | cons z l=>
  have hz:z∈zr x:=by rw[h];exact zi ..
  have hzl:=(cd.1 hz).1;rw[hU h];split;·exact Uy hx.sh.sr hzl
  .exact SK hx.sh.sr (by simp) (by simpa using hzl)
theorem UT{x:Hp}(hx:O4 x)(n:Nat):Sv x.S (uF n x).S:=by
 induction n with
 | zero=>exact Sv.refl _
 | succ n ih=>rw[dB];exact ih.trans (UX (bj hx n))
theorem QI{x:Hp}(hx:O4 x):Sv x.S (dx x).S:=UT hx 100
structure qx (x y:Hp):Prop where
 sv:Sv x.S y.S
 q:∃l,y.Q=⟨x.Q.L++l,x.Q.Cap⟩/\∀t∈l,t.Kind=1->¬Gd x.S t.At
theorem qx.of{x y:Hp}(h:Sv x.S y.S)(q:y.Q=x.Q):qx x y:=⟨h,[],by rw[q,or],λt ht=>by cases ht⟩
theorem qx.refl(x:Hp):qx x x:=qx.of (Sv.refl _) rfl
theorem qx.trans{x y z:Hp}(a:qx x y)(b:qx y z):qx x z:=by
 obtain⟨l,q1,q2⟩:=a.q;obtain⟨m,r1,r2⟩:=b.q;refine⟨a.sv.trans b.sv,l++m,by rw[r1,q1,pu],λt ht hk=>?_⟩;rcases zx.1 ht with h | h
 .exact q2 t h hk
 .exact λs=>r2 t h hk (a.sv.WS s)
theorem BW{x:Hp}(hx:O4 x):qx x (dx x):=by
 obtain⟨l,q1,q2,_⟩:=(nM hx).q;exact⟨QI hx,l,q1,λt ht hk=>Ju hx.sh.sr (q2 t ht hk).1 (q2 t ht hk).2⟩
theorem gW{x:Hp}(hR:SR x.S)(r:Nat)(h:Int):qx x (H5 x r h):=qx.of (DG hR r h) (gX x r h).2.2.2
theorem VL{x:Hp}(hx:O4 x)(hS:SL x)(hz:zr x = [])(hb:x.S.Serial<9223372036854775807)(o:c9):(∃e,Er x o e)\/∃z v,Dn x o z v/\qx x z:=by
 have hR:=hx.sh.sr;obtain⟨k,a,b,c⟩:=o;by_cases hc:A8 k a b c=0
 .have:=Bi hc;have hk:k=1\/k=2\/k=3\/k=4\/k=5\/k=6\/k=7\/k=8\/k=9\/k=10\/k=11\/k=12:=by omega
  rcases hk with rfl | rfl | rfl | rfl | rfl | rfl | rfl | rfl | rfl | rfl | rfl | rfl
  .rcases d1 hx hS hb hc with ⟨e,_,h⟩ | ⟨hn,hcc,i,hF,h⟩;·exact .inl ⟨e,h⟩
   .obtain⟨hi,h0,_⟩:=hF;have k1:qx x (wS x (eI x.S i b.toNat c)):=qx.of (Wo hR hi h0 hn hcc) rfl;exact .inr ⟨_,_,h,k1.trans (gW (x:=wS x (eI x.S i b.toNat c)) (Di hR hi h0 hn hcc) _ _)⟩
  .exact .inr ⟨_,_,d2 hx hS hc,gW hR _ _⟩
  .exact .inr ⟨_,_,d3 hx hS hc,gW hR _ _⟩
  .rcases d4 hx hS hc with ⟨_,h⟩ | ⟨e,_,h⟩ | ⟨_,n,_,_,h⟩;·exact .inl ⟨_,h⟩
   .exact .inl ⟨_,h⟩
   .exact .inr ⟨_,_,h,gW hR _ _⟩
  .rcases d5 hx hS hc with ⟨_,h⟩ | ⟨e,_,h⟩ | ⟨hl,n,_,hn,h⟩;·exact .inl ⟨_,h⟩
   .exact .inl ⟨_,h⟩
   .exact .inr ⟨_,_,h,qx.of (II hR hl hn _) (nc _ _ _ _).2.2.2⟩
  .rcases d6 hx hS hc with ⟨_,h⟩ | ⟨e,_,h⟩ | ⟨_,h⟩;·exact .inl ⟨_,h⟩
   .exact .inl ⟨_,h⟩
   .exact .inr ⟨_,_,h,qx.of (Nu hx _ _ _) (xA _ _ _ _).2.2.2⟩
  .obtain⟨_,⟨_,h⟩ | ⟨_,h⟩⟩:=d7 hx hS hc;·exact .inl ⟨_,h⟩
   .exact .inr ⟨_,_,h,gW hR _ _⟩
  .rcases d8 hx hS hc with ⟨_,h⟩ | ⟨_,e,_,h⟩ | ⟨_,r,_,_,h⟩;·exact .inl ⟨_,h⟩
   .exact .inl ⟨_,h⟩
   .exact .inr ⟨_,_,h,qx.of (Mm hR _ _ _) (qm _ _ _ _).2.2.2⟩
  .rcases d9 hx hS hc with ⟨_,h⟩ | ⟨_,_,h⟩ | ⟨_,v,_,h⟩;·exact .inl ⟨_,h⟩
   .exact .inl ⟨_,h⟩
   .exact .inr ⟨_,_,h,gW hR _ _⟩
  .exact .inr ⟨_,_,d10 hx hS hz hc,qx.refl x⟩
  .obtain⟨h1,h2⟩:=sJ (x:=x) (a:=a) (b:=b) (c:=c) (.inl rfl) hc;exact .inl ⟨14,by decide,h1,h2⟩
  .obtain⟨h1,h2⟩:=sJ (x:=x) (a:=a) (b:=b) (c:=c) (.inr rfl) hc;exact .inl ⟨14,by decide,h1,h2⟩
 .obtain⟨h1,h2⟩:=EJ (x:=x) (o:=⟨k,a,b,c⟩) hc;exact .inl ⟨_,hc,h1,h2⟩
theorem SY{x:Hp}(hx:O4 x)(hS:SL x)(hz:zr x = [])(hb:x.S.Serial<9223372036854775807)(o:c9):qx x (tP x o).1:=by
 rcases VL hx hS hz hb o with ⟨e,_,h,_⟩ | ⟨z,v,d,f⟩
 .have:tP x o=(x,0,e):=by unfold tP;rw[h];rfl
  rw[this];exact qx.refl x
 .have:tP x o=(dx z,v,0):=by unfold tP;rw[d.mc];rfl
  rw[this];exact f.trans (BW d.rt)
theorem WN{x:Hp}(h1:mH x)(h2:Wk x){L:List Int}(h3:cg x L){r:Nat}(hr:r<6){h:Int}(hh:h=0\/h∈lv x.S):mH (H5 x r h)/\Wk (H5 x r h)/\cg (H5 x r h) L:=by
 have xV:=G2 h1.sr h (f:=W6) λc=>D8;have l1:lv (C6 x h).S=lv x.S:=xV.lv;have f1:cg (C6 x h) (h::L):=DH h1.sr h3 h;have s1:mH (C6 x h):=h1.st h (f:=W6) λc=>D8;have s2:mH (wR (C6 x h) (x.Roots.set r h)):=s1.roots (by rw[zak];exact h1.r6) λv hv=>by
  rw[l1];rcases zag hv with q | q
  .exact h1.rt v q
  .exact q▸hh
 have w1:Wk (C6 x h):=h2.st h1.sr h (f:=W6) λc=>D8;have one:∀v k,aD [v] k=if v=k/\k≠0 then 1 else 0:=λv k=>by rw[G5,R6,zab]
 have f2:cg (wR (C6 x h) (x.Roots.set r h)) (x.Roots.getD r 0::L):=f1.mv rfl (λ_ _=>rfl) λk hk=>by
  have:=vo (l:=x.Roots) (r:=r) (by rw[h1.r6];exact hr) h k;rw[one,one] at this;rw[tC x h];unfold pe pf;dsimp only;rw[L0,L0,tK,tK,G5 h L,G5 (x.Roots.getD r 0) L];omega
 exact⟨s2.st _ λc=>P3,Wk.st (x:=wR (C6 x h) (x.Roots.set r h)) w1 s2.sr _ λc=>P3,rU (x:=wR (C6 x h) (x.Roots.set r h)) s2.sr f2⟩
abbrev xH(x:Hp)(ts:List o0):Hp:=wQ x ⟨ts,x.Q.Cap⟩
noncomputable def vN(x:Hp)(ts:List o0)(h:Int):Hp:=R9 (H5 (xH x ts) 5 h) h
section
variable{x:Hp}(hx:O4 x){t:o0}{ts:List o0}(hq:x.Q.L=t::ts)
include hx hq
theorem FW:mH (xH x ts):=by
 have h:=hx.sh;refine⟨h.sr,h.hr,h.r6,h.c6,h.cap,?_,λu hu=>h.tk u (by rw[hq];exact zq _ hu),?_,h.rt,h.fl,h.pr,λi hi=>?_⟩
 .have:=h.q30;rw[hq,zj] at this;show ts.length<=30;omega
 .have:=h.td;rw[hq,un] at this;exact this.2
 .obtain⟨a,b,c,d,e⟩:=h.cl i hi;refine⟨a,b,c,d,λq=>⟨(e q).1,?_⟩⟩;have:=(e q).2;rw[zba] at this |-;intro r;obtain⟨u,hu,k1,k2⟩:=ja.1 r;exact this (ja.2 ⟨u,by rw[hq];exact zq _ hu,k1,k2⟩)
theorem Ec:cg (xH x ts) (if t.Kind=1 then [t.At] else []):=hx.fair.mv rfl (λ_ _=>rfl) λh _=>by
 unfold pe pf xS;dsimp only;rw[hq,me];by_cases k:t.Kind=1
 .rw[zb k,zb (by simpa using k),ul,L0,L0,G5 t.At (List.map _ _),G5 t.At [],R6];omega
 .rw[za k,za (by simpa using k),R6]
theorem EC(hk:t.Kind≠1):O4 (xH x ts):=⟨FW hx hq,hx.wk,by have:=Ec hx hq;rwa [za hk] at this⟩
theorem KL(hk:t.Kind=1):t.At∈lv x.S/\(ob x.S t.At).Started=true:=by
 rcases (hx.sh.tk t (by rw[hq];exact zi ..)).2.2 with ⟨_,b,c⟩ | ⟨b,_⟩;·exact⟨b,c⟩
 .omega
theorem ou(hk:t.Kind=1):O4 (vN x ts t.At):=by
 have f:=Ec hx hq;rw[zb hk] at f;obtain⟨a,b,c⟩:=WN (FW hx hq) (x:=xH x ts) hx.wk f (r:=5) (by decide) (.inr (KL hx hq hk).1);exact⟨a.st _ λc=>P3,b.st a.sr _ λc=>P3,rU a.sr c⟩
omit hq in
theorem KN (hS:SL x) (h:Int):SL (vN x ts h):=by
 have k:=ke (x:=xH x ts) hx.sh.sr hS 5 h;exact BN [h] (dw (x:=xH x ts) hx.sh.sr 5 h).sr k
omit hq in
theorem Tf (h:Int):Ks x.S (vN x ts h).S:=by
 have k:=dw (x:=xH x ts) hx.sh.sr 5 h;exact k.trans (BO k.sr h)
omit hq in
theorem KM (h:Int):(vN x ts h).Roots=x.Roots.set 5 h/\(vN x ts h).a8=x.a8/\(vN x ts h).T=x.T/\(vN x ts h).Q=⟨ts,x.Q.Cap⟩:=by
 obtain⟨a,b,c,d⟩:=xc (H5 (xH x ts) 5 h) h;obtain⟨a',b',c',d'⟩:=gX (xH x ts) 5 h;exact⟨a.trans a',b.trans b',c.trans c',d.trans d'⟩
omit hq in
theorem Te (h:Int):qx (xH x ts) (vN x ts h):=qx.of ((DG (x:=xH x ts) hx.sh.sr 5 h).trans (BP (dw (x:=xH x ts) hx.sh.sr 5 h).sr h)) (KM hx h).2.2.2
end
def Jg(ps:List (List c9))(n:Int):List c9:=if n<0\/(ps.length:Int)<=n then [] else ps.getD n.toNat []
noncomputable def pre(x:Hp)(t:o0)(ts:List o0):Hp:=if t.Kind=1 then dx (vN x ts t.At) else xH x ts
noncomputable def Vr(ps:List (List c9))(x:Hp)(t:o0)(ts:List o0):Hp:=(runs (pre x t ts) (Jg ps t.Prog)).1
noncomputable def NH(ps:List (List c9))(x:Hp)(t:o0)(ts:List o0):Hp:=if t.Kind=1 then dx (H5 (Vr ps x t ts) 5 0) else Vr ps x t ts
structure Oh (x:Hp):Prop where
 rt:O4 x
 sl:SL x
 zr:zr x = []
theorem Vo.ok{x y:Hp}{o:c9}{v e:Int}(n:Vo x o y v e):Oh y:=⟨n.rt,n.sl,n.zr⟩
theorem HU{x:Hp}(h:O4 x)(s:SL x):Oh (dx x):=⟨en h,HV h s,Ab h⟩
theorem MQ{x:Hp}(hx:Oh x)(l:List c9)(hb:x.S.Serial+l.length<9223372036854775807):Oh (runs x l).1/\qx x (runs x l).1/\(runs x l).1.S.Serial<=x.S.Serial+l.length/\(runs x l).2.length=l.length:=by
 have key:∀k,k<=l.length->Oh (runs x (l.take k)).1/\qx x (runs x (l.take k)).1/\(runs x (l.take k)).1.S.Serial<=x.S.Serial+k/\(runs x (l.take k)).2.length=k:=by
  intro k;induction k with
  | zero=>exact λ_=>⟨hx,qx.refl x,by show x.S.Serial<=_;omega,rfl⟩
  | succ k ih=>
   intro hk;obtain⟨a,b,c,d⟩:=ih (by omega);have hk':k<l.length:=by omega
   have n:=oG a.rt a.sl a.zr (by omega) l[k];rw[T0 hk',oR];exact⟨n.ok,b.trans (SY a.rt a.sl a.zr (by omega) _),by have:=n.ev.s2;show (tP _ _).1.S.Serial<=_;omega,by simp[d]⟩
 have:=key l.length (zt _);rwa [zU] at this
section
variable{x:Hp}(hx:Oh x){t:o0}{ts:List o0}(hq:x.Q.L=t::ts)(ps:List (List c9))
include hx hq
theorem Mu:Oh (pre x t ts):=by
 unfold pre;split
 .rename_i k;exact HU (ou hx.rt hq k) (KN hx.rt hx.sl _)
 .rename_i k;exact⟨EC hx.rt hq k,hx.sl,hx.zr⟩
theorem Up:qx (xH x ts) (pre x t ts):=by
 unfold pre;split
 .rename_i k;exact (Te hx.rt _).trans (BW (ou hx.rt hq k))
 .exact qx.refl _
theorem Hu:(pre x t ts).S.Serial=x.S.Serial:=by
 unfold pre;split
 .rename_i k;rw[(nM (ou hx.rt hq k)).T7,(Tf hx.rt _).T7]
 .rfl
variable(hb:x.S.Serial+(Jg ps t.Prog).length<9223372036854775807)
include hb
theorem HC:Oh (Vr ps x t ts)/\qx (xH x ts) (Vr ps x t ts)/\(Vr ps x t ts).S.Serial<=x.S.Serial+(Jg ps t.Prog).length:=by
 have e:=Hu hx hq;obtain⟨a,b,c,_⟩:=MQ (Mu hx hq) (Jg ps t.Prog) (by rw[e];exact hb);exact⟨a,(Up hx hq).trans b,by rw[e] at c;exact c⟩
theorem Pb:Oh (NH ps x t ts)/\qx (xH x ts) (NH ps x t ts)/\(NH ps x t ts).S.Serial<=x.S.Serial+(Jg ps t.Prog).length/\(t.Kind=1->sd (NH ps x t ts) 5=0):=by
 obtain⟨a,b,c⟩:=HC hx hq ps hb;unfold NH;split
 .have hz:=cG a.rt (r:=5) (by decide) (h:=0) (.inl rfl);have k:=dw a.rt.sh.sr 5 0;refine⟨HU hz (ke a.rt.sh.sr a.sl 5 0),(b.trans (gW a.rt.sh.sr 5 0)).trans (BW hz),?_,λ_=>(oP a.rt (a:=5) (by decide) (h:=0) (.inl rfl)).1⟩;rw[(nM hz).T7,k.T7];exact c
 .exact⟨a,b,c,λq=>absurd q (by assumption)⟩
end
def ID(ps:List (List c9))(t:o0):Int:=1+((Jg ps t.Prog).length:Int)
def can(ps:List (List c9))(p:Hp × Int):Prop:=∃t ts,p.1.Q.L=t::ts/\ID ps t<=p.2
noncomputable def TV(ps:List (List c9))(p:Hp × Int):Hp × Int:=match p.1.Q.L with
 | []=>p
 | t::ts=>if ID ps t<=p.2 then (NH ps p.1 t ts,p.2-ID ps t) else p
noncomputable def dN(ps:List (List c9)):Nat->Hp × Int->Hp × Int
 | 0,p=>p
 | n+1,p=>dN ps n (TV ps p)
section
variable(ps:List (List c9))
theorem AF(n:Nat)(p:Hp × Int):dN ps (n+1) p=TV ps (dN ps n p):=by
 induction n generalizing p with
 | zero=>rfl
 | succ n ih=>exact ih (TV ps p)
theorem PK{p:Hp × Int}(h:p.1.Q.L = []):TV ps p=p:=by unfold TV;rw[h]
theorem wB{p:Hp × Int}{t:o0}{ts:List o0}(h:p.1.Q.L=t::ts):TV ps p=if ID ps t<=p.2 then (NH ps p.1 t ts,p.2-ID ps t) else p:=by unfold TV;rw[h]
theorem Kh{p:Hp × Int}{t:o0}{ts:List o0}(h:p.1.Q.L=t::ts):can ps p↔ID ps t<=p.2:=by
 constructor
 .rintro⟨u,us,e,c⟩;rw[h] at e;injection e with e1 e2
  rw[e1];exact c
 .exact λc=>⟨t,ts,h,c⟩
theorem uS(t:o0):1<=ID ps t:=by unfold ID;omega
theorem GI{p:Hp × Int}(hb:0<=p.2):∃n:Nat,(n:Int)<=p.2/\¬can ps (dN ps n p)/\∀j,j<n->can ps (dN ps j p):=by
 have key:∀m:Nat,(∃n:Nat,n<=m/\¬can ps (dN ps n p))\/((dN ps m p).2+m<=p.2/\0<=(dN ps m p).2):=by
  intro m;induction m with
  | zero=>exact .inr ⟨by show p.2+((0:Nat):Int)<=_;omega,hb⟩
  | succ m ih=>
   rcases ih with ⟨n,h1,h2⟩ | ⟨h1,h2⟩;·exact .inl ⟨n,by omega,h2⟩
   .by_cases q:can ps (dN ps m p)
    .right;obtain⟨t,ts,e,c⟩:=q;have:=uS ps t;rw[AF,wB ps e,zb c];dsimp only;omega
    .exact .inl ⟨m,by omega,q⟩
 have hex:∃n:Nat,(n:Int)<=p.2/\¬can ps (dN ps n p):=by
  rcases key (p.2.toNat+1) with ⟨n,h1,h2⟩ | ⟨h1,h2⟩
  .rcases zB n (p.2.toNat+1) with q | q
   .exact⟨n,by omega,h2⟩
   .have hn:n=p.2.toNat+1:=by omega
    rcases key p.2.toNat with ⟨n,h1,h2⟩ | ⟨h1,h3⟩;·exact⟨n,by omega,h2⟩
    .refine⟨p.2.toNat,by omega,λ⟨t,ts,e,c⟩=>?_⟩;have:=uS ps t;omega
  .omega
 obtain⟨n,⟨hn,hz⟩,hmin⟩:=bR hex;refine⟨n,hn,hz,λj hj=>q9 λq=>?_⟩;have:=hmin j ⟨by omega,q⟩;omega
theorem EG{p:Hp × Int}(hx:Oh p.1)(hb:0<=p.2)(hs:p.1.S.Serial+p.2<9223372036854775807):∀n,Oh (dN ps n p).1/\0<=(dN ps n p).2/\(dN ps n p).2<=p.2/\(dN ps n p).1.S.Serial+(dN ps n p).2<=p.1.S.Serial+p.2
 | 0=>⟨hx,hb,pi _,pi _⟩
 | n+1=>by
  obtain⟨a,b,c,d⟩:=EG hx hb hs n;rw[AF];cases e:(dN ps n p).1.Q.L with
  | nil=>rw[PK ps e];exact⟨a,b,c,d⟩
  | cons t ts=>
   rw[wB ps e];split
   .rename_i q;have q2:=q;unfold ID at q2;obtain⟨r1,_,r3,_⟩:=Pb a e ps (by omega);refine⟨r1,?_,?_,?_⟩;·dsimp only;omega
    .have:=uS ps t;dsimp only;omega
    .dsimp only;unfold ID;omega
   .exact⟨a,b,c,d⟩
end
noncomputable def dn(ps:List (List c9))(p:Hp × Int):Nat:=if h:0<=p.2 then Classical.choose (GI ps h) else 0
theorem GJ(ps:List (List c9)){p:Hp × Int}(h:0<=p.2):(dn ps p:Int)<=p.2/\¬can ps (dN ps (dn ps p) p)/\∀j,j<dn ps p->can ps (dN ps j p):=by
 unfold dn;rw[dif_pos h];exact zau (GI ps h)
noncomputable def dr(ps:List (List c9))(p:Hp × Int):Hp × Int:=dN ps (dn ps p) p
theorem VM(ps:List (List c9)){x:Hp}{f:Int}(hx:Oh x)(hf:0<=f)(hs:x.S.Serial+f<9223372036854775807):Oh (dr ps (x,f)).1/\0<=(dr ps (x,f)).2/\(dr ps (x,f)).2<=f/\(dr ps (x,f)).1.S.Serial+(dr ps (x,f)).2<=x.S.Serial+f:=EG ps (p:=(x,f)) hx hf hs _
section
variable{x:Hp}(hx:mH x)(hS:∀k∈lv x.S,(ob x.S k).Strong<=9223372036854775807)
include hx hS
theorem TJ{h:Int}(hh:h=0\/h∈lv x.S):h<=9223372036854775807:=by
 rcases hh with q | q
 .omega
 .have:=I3 hx.sr q;omega
theorem MK(k:Int){h:Int}(hh:h<=9223372036854775807):bb x k h=some (if k<0\/5<k then (x,6) else if h=0\/h∈lv x.S then (H5 x k.toNat h,0) else (x,3)):=by
 have hR:=hx.sr;have r6:=hx.r6;unfold bb;by_cases hk:k<0\/5<k
 .rw[zb hk,zb (by rw[r6];simp;omega)]
 .rw[za hk,za (by rw[r6];simp;omega),dY hR hh,Ys];by_cases hn:h=0\/h∈lv x.S
  .rw[zb hn,zA hn,za (by simp)];obtain⟨n,rfl⟩:∃n:Nat,k=n:=⟨k.toNat,by omega⟩;have hn6:n<6:=by omega
   have hnl:n<x.Roots.length:=by omega
   have old:x.Roots[n]<=9223372036854775807:=TJ hx hS (hx.rt _ (zk hnl));have e1:=nG x h;have hn2:n<(C6 x h).Roots.length:=by rw[e1.1];exact hnl
   rw[u7 hnl,Ys];unfold F2 Q6 M9;rw[kc hR hh hS,Ys];dsimp only;rw[V0 (by omega) (by rw[e1.1];omega),Ys,u7 hn2,Ys,Ys];have hrel:=ee (x:=wR (C6 x h) (x.Roots.set n h)) (gY hR h) old;rw[zW,e1.1,show C8 ⟨(C6 x h).S,x.Roots.set n h,(C6 x h).a8,(C6 x h).T,(C6 x h).Q⟩ x.Roots[n]=_ from hrel];unfold H5;rw[zf,zc hnl];rfl
  .rw[za hn,zK hn,zb (by simp)]
end
theorem Fz(ps:List (List c9))(n:Int):gy ps n=some (Jg ps n):=by
 unfold gy Jg;by_cases h:n<0\/(ps.length:Int)<=n
 .rw[zb (by simpa using h),zb h]
 .rw[za (by simpa using h),za h];obtain⟨k,rfl⟩:∃k:Nat,n=k:=⟨n.toNat,by omega⟩;have hk:k<ps.length:=by omega
  rw[u7 hk,Ys,zW,zf,zc hk];rfl
abbrev Xk(ps:List (List c9)):List (List au):=ps.map (List.map RN)
def Mp(ps:List (List c9)):Prop:=∀p∈ps,p.length<=6
theorem Hv{ps:List (List c9)}(h:Mp ps)(n:Int):(Jg ps n).length<=6:=by
 unfold Jg;split;·simp
 .rename_i q;have hk:n.toNat<ps.length:=by omega
  rw[zf,zc hk];exact h _ (zk hk)
theorem GH{ps:List (List c9)}(h:Mp ps)(t:o0):kY ps t=some (ID ps t):=by
 have:=Hv h t.Prog;unfold kY ID;rw[Fz,Ys,F9 (by omega) (by omega)]
theorem EL(x:Hp):eT x=some (x.Q.L.isEmpty):=by
 unfold eT;rw[Cd,Ys];unfold QR;cases x.Q.L <;> rfl
section
variable{x:Hp}(hx:Oh x){t:o0}{ts:List o0}(hq:x.Q.L=t::ts){ps:List (List c9)}(hm:Mp ps)(hb:x.S.Serial<9000000000000000000)
include hx hq hm hb
theorem Np:kZ x ps=some (NH ps x t ts,t,0):=by
 have S9:=Hv hm t.Prog;have pok:=Mu hx hq;have pser:=Hu hx hq;obtain⟨rok,_,_⟩:=HC hx hq ps (by omega);have hrun:=(run_eq pok.rt pok.sl pok.zr (Jg ps t.Prog) (by omega) (by rw[pser];omega)).1;have hrun':eX (pre x t ts) (Jg ps t.Prog)=some (Vr ps x t ts,(runs (pre x t ts) (Jg ps t.Prog)).2):=hrun;have hz:=cG rok.rt (r:=5) (by decide) (h:=0) (.inl rfl);have zS:=ke rok.rt.sh.sr rok.sl 5 0;unfold kZ;rw[Cd,Ys];have e:QR x.Q=(⟨ts,x.Q.Cap⟩,t,0):=by unfold QR;rw[hq]
 rw[e];dsimp only;rw[za (by simp)];simp only[jn];by_cases k:t.Kind=1
 .have hk:(t.Kind==1)=true:=by simpa using k
  have hat:=(KL hx.rt hq k).1;have ush:=FW hx.rt hq;have hm1:=gJ hx.rt.sh.sr hat;have e1:bb ⟨x.S,x.Roots,x.a8,x.T,⟨ts,x.Q.Cap⟩⟩ 5 t.At=some (H5 (xH x ts) 5 t.At,0):=by
   have:=MK (x:=xH x ts) ush hx.sl 5 hm1;rw[za (by omega),zb (.inr hat)] at this;exact this
  have e2:C8 (H5 (xH x ts) 5 t.At) t.At=some (vN x ts t.At):=ee (dw (x:=xH x ts) hx.rt.sh.sr 5 t.At).sr hm1;have e3:=gn (ou hx.rt hq k) (KN hx.rt hx.sl t.At);have e4:pre x t ts=dx (vN x ts t.At):=by unfold pre;rw[zb k]
  have e5:=HL rok.rt rok.sl 5 (h:=0) (by decide);rw[za (by omega),zb (.inl rfl)] at e5;rw[zb hk,e1,Ys];dsimp only;rw[e2,Ys,e3,Ys,Fz,Ys,<-e4,hrun',Ys,zb hk];dsimp only;rw[e5,Ys];refine Cs (gn hz zS) ?_;unfold NH;rw[zb k];rfl
 .have hk:¬(t.Kind==1)=true:=by simpa using k
  have e4:pre x t ts=xH x ts:=by unfold pre;rw[za k]
  rw[za hk,Fz,Ys,show (⟨x.S,x.Roots,x.a8,x.T,⟨ts,x.Q.Cap⟩⟩:b6)=pre x t ts from e4.symm,hrun',Ys,za hk];unfold NH;rw[za k]
end
section
variable{x:Hp}(hx:Oh x){ps:List (List c9)}(hm:Mp ps){f:Int}(hf:0<=f)(hf2:f<=1000000)(hb:x.S.Serial<8000000000000000000)
include hx hm hf hf2 hb
def VN(p:Hp × Int):Int:=if p.1.Q.L.isEmpty then 0 else 12
theorem drain_eq:eR x ps f=some ((dr ps (x,f)).1,(dn ps (x,f):Int),(dr ps (x,f)).2,VN (dr ps (x,f))):=by
 obtain⟨a1,a2,a3⟩:=GJ ps (p:=(x,f)) hf;have all:=EG ps (p:=(x,f)) hx hf (by show x.S.Serial+f<_;omega);unfold eR;simp only[jn];dsimp only at a1;refine jM (λk=>((dN ps k (x,f)).2,(dN ps k (x,f)).1,(k:Int),(dN ps k (x,f)).2,(dN ps k (x,f)).1)) rfl (dn ps (x,f)) (λ_=>True) (by omega) trivial (λk hk _=>.inl ⟨?_,trivial⟩) (λ_=>⟨((dn ps (x,f):Int),(dr ps (x,f)).2,(dr ps (x,f)).1),?_,?_⟩)
 .obtain⟨b1,b2,b3,b4⟩:=all k;obtain⟨t,ts,e,c⟩:=a3 k hk;dsimp only at b2 b3 b4;have hc:=uS ps t;rw[EL,e,Ys];show (cI _).bind _=_;rw[Cd,Ys];have e2:QR (dN ps k (x,f)).1.Q=(⟨ts,(dN ps k (x,f)).1.Q.Cap⟩,t,0):=by unfold QR;rw[e]
  rw[e2];dsimp only;rw[GH hm,Ys,za (by simp;omega),Np b1 e hm (by omega),Ys,F9 (by omega) (by omega),p8,AF,wB ps e,zb c]
 .rw[EL,Ys];cases e:(dN ps (dn ps (x,f)) (x,f)).1.Q.L with
  | nil=>rfl
  | cons t ts=>
   have hc:¬ID ps t<=(dN ps (dn ps (x,f)) (x,f)).2:=λq=>a2 ((Kh ps e).2 q);show (cI _).bind _=_;rw[Cd,Ys];have e2:QR (dN ps (dn ps (x,f)) (x,f)).1.Q=(⟨ts,(dN ps (dn ps (x,f)) (x,f)).1.Q.Cap⟩,t,0):=by unfold QR;rw[e]
   rw[e2];dsimp only;rw[GH hm,Ys,zb (by simp;omega)];rfl
 .dsimp only;rw[EL,Ys];unfold VN;cases (dr ps (x,f)).1.Q.L.isEmpty <;> rfl
end
theorem RG{l:List (List c9)}(h:bY l=true):Mp l/\l.length<=6:=by
 unfold bY at h;rw[zl,zH,zd] at h;refine⟨λp hp=>?_,h.1⟩;have:=h.2 p hp;unfold tX at this;rw[zl,zH] at this;exact this.1
noncomputable def eo(ps:List (List c9))(x:Hp)(o:c9):Hp × Int × Int:=
 if o.Kind=11 then (EE x,OR x-((mU x).length:Int),0)
 else if o.Kind=12 then ((dr ps (x,o.A)).1,(dn ps (x,o.A):Int),VN (dr ps (x,o.A)))
 else tP x o
noncomputable def er(ps:List (List c9))(x:Hp)(row:List Int):Hp × Int × Int:=if (ck row).2≠0 then (x,0,(ck row).2) else eo ps x (ck row).1
theorem AG{row:List Int}(h:(ck row).2=0):A8 (ck row).1.Kind (ck row).1.A (ck row).1.B (ck row).1.C=0:=by
 unfold ck at h |-;rcases four row with ⟨k,a,b,c,rfl⟩ | hl
 .rw[AI,zX] at h |-;by_cases q:A8 k a b c≠0
  .rw[zb q] at h;exact absurd h q
  .rw[za q];exact Classical.not_not.1 q
 .rw[(uT hl).1,zX] at h;exact absurd h (by decide)
theorem Km{a b c:Int}(h:A8 12 a b c=0):0<=a/\a<=200:=yE (by decide) (show L7 a 0 200 12=0 from h)
section
variable{ps:List (List c9)}(hm:Mp ps){x:Hp}(hx:Oh x)(hb:x.S.Serial<7000000000000000000)
include hm hx hb
theorem VO{o:c9}(ho:o.Kind=12->0<=o.A/\o.A<=200):Oh (eo ps x o).1/\(eo ps x o).1.S.Serial<=x.S.Serial+201:=by
 unfold eo;split
 .obtain⟨a,b,c⟩:=EF hx.rt hx.sl hx.zr;refine⟨⟨a,b,c⟩,?_⟩;show (EE x).S.Serial<=_;rw[OV hx.rt hx.sl hx.zr];omega
 .split
  .rename_i h;obtain⟨h0,h2⟩:=ho h;obtain⟨a,b,c,d⟩:=VM ps hx h0 (by omega);exact⟨a,by show (dr ps (x,o.A)).1.S.Serial<=_;omega⟩
  .have n:=oG hx.rt hx.sl hx.zr (by omega) o;have:=n.ev.s2;exact⟨n.ok,by omega⟩
theorem VQ(row:List Int):Oh (er ps x row).1/\(er ps x row).1.S.Serial<=x.S.Serial+201:=by
 unfold er;split;·exact⟨hx,by show x.S.Serial<=_;omega⟩
 .rename_i h;have hc:=AG (Classical.not_not.1 h);refine VO hm hx hb λhk=>?_;rw[hk] at hc;exact Km hc
end
def yv(l:List b7)(k:Int):Nat:=l.countP λc=>c.State==k
theorem Kw(l:List b7)(c:b7)(k:Int):yv (l ++ [c]) k=yv l k+if c.State=k then 1 else 0:=by
 unfold yv;rw[List.countP_append];simp[List.countP_cons]
noncomputable def Nd(x:Hp):List Int:=(lv x.S).map λh=>T7 x h
theorem LA{s:a7}(hR:SR s){h:Int}(hh:h∈lv s):sk s.S.a8 h=(ob s h).Serial:=by
 obtain⟨i,hi⟩:=(fF hR).1 hh;rw[Kb hR hi,Q2 hR hi]
theorem US{x:Hp}(hR:SR x.S):(Nd x).Pairwise (· < ·):=by
 unfold Nd;rw[List.pairwise_map];refine List.Pairwise.imp_of_mem (λ{a b} ha hb h=>?_) (iN (y5.2 hR)).2.2;rw[LA hR ha,LA hR hb] at h;exact h
theorem Nf{x:Hp}(hR:SR x.S):(Nd x).mergeSort (λx y=>decide (x<=y))=Nd x:=
 List.mergeSort_of_pairwise ((US hR).imp λh=>zA (by omega))
theorem HY{x:Hp}(hR:SR x.S):(Nd x).length<=24:=by
 unfold Nd;rw[ww];exact M6 (y5.2 hR)
inductive Fm (x:Hp) (o:c9) (z:Hp) (v:Int):Prop
 | new (i:Nat) (hF:Vx x.S i) (hk:o.Kind=1) (ha:0<=o.A/\o.A<=5) (hn:o.B.toNat<=4) (hc : -1<=o.C/\o.C<=5) (hv:v=x.S.Serial+1) (hz:z=H5 (wS x (eI x.S i o.B.toNat o.C)) o.A.toNat (dF x.S i)):Fm x o z v
 | root (h:Int) (hk:o.Kind≠1) (ha:0<=o.A/\o.A<=5) (hh:h=0\/h∈lv x.S) (hz:z=H5 x o.A.toNat h):Fm x o z v
 | field (h:Int) (n:Nat) (u:Int) (hk:o.Kind=5) (hl:h∈lv x.S) (hn:n<(ob x.S h).Fields.length) (hu:u=0\/u∈lv x.S) (hz:z=bS x h n u):Fm x o z v
 | weak (h:Int) (hk:o.Kind=6) (ha:0<=o.A/\o.A<=5) (hc : -1<=o.C/\o.C<=5) (hh:h=0\/h∈lv x.S) (hw:JF x.Q o.A=false) (hz:z=dP x o.A.toNat h o.C):Fm x o z v
 | pair (h u:Int) (r:Tb × Int × Int) (hk:o.Kind=8) (hl:h∈lv x.S) (hu:u=0\/u∈lv x.S) (hr:P8 x.T h u=some r) (h0:r.2.2=0) (hz:z=jR x u r.1 r.2.1):Fm x o z v
 | same (hk:o.Kind=10) (hz:z=x):Fm x o z v
theorem Fm.ks{x z:Hp}{o:c9}{v:Int}(hx:O4 x)(f:Fm x o z v)(hk:o.Kind≠1):Ks x.S z.S:=by
 have hR:=hx.sh.sr;cases f with
 | new i hF hk'=>exact absurd hk' hk
 | root h _ ha hh hz=>rw[hz];exact dw hR _ _
 | field h n u _ hl hn hu hz=>rw[hz];exact yx hR hl hn u
 | weak h _ ha hc hh hw hz=>rw[hz];exact Ee hx (by omega) h _
 | pair h u r _ hl hu hr h0 hz=>rw[hz];exact Dq hR u _ _
 | same _ hz=>rw[hz];exact Ks.refl hR
def Xq(p:Int × Int):D3:=⟨p.1,p.2⟩
section
variable{ps:List (List c9)}(hm:Mp ps){x:Hp}(hx:Oh x)(hb:x.S.Serial<7000000000000000000)
include hm hx hb
theorem Kl : -24<=OR x-((mU x).length:Int)/\OR x-((mU x).length:Int)<=24:=by
 have h1:=GC hx.rt hx.sl hx.zr;have h2:(lv x.S).length<=24:=M6 (y5.2 hx.rt.sh.sr);obtain⟨c1,_,_⟩:=EF hx.rt hx.sl hx.zr;have h3:(lv (EE x).S).length<=24:=M6 (y5.2 c1.sh.sr);unfold OR;split
 .rename_i e;rw[e];simp;omega
 .omega
theorem Ym(row:List Int):ot ⟨x,ps⟩ row=some (⟨(er ps x row).1,ps⟩,Xq (er ps x row).2):=by
 unfold ot;rw[(Kx row).1,Ys];unfold er;by_cases h:(ck row).2=0
 .rw[za (show ¬(((ck row).2 != 0)=true) by simp[h]),za (show ¬((ck row).2≠0) by simp[h])];have hc:=AG h;generalize (ck row).1=o at hc;unfold la eo;by_cases k11:o.Kind=11
  .rw[zb (by simp[k11]),zb k11];refine zcf (b:=(Z1 x).bind λv4=>some (⟨v4.1,ps⟩,⟨z8 (v4.2.2-v4.2.1),0⟩)) rfl ?_;obtain⟨b1,b2⟩:=Kl hm hx hb;rw[SO hx.rt hx.sl hx.zr,Ys];dsimp only;rw[F9 (by omega) (by omega)];rfl
  .rw[za (by simp[k11]),za k11];by_cases k12:o.Kind=12
   .rw[zb (by simp[k12]),zb k12];refine zcf (b:=(eR x ps o.A).bind λv5=>some (⟨v5.1,ps⟩,⟨v5.2.1,v5.2.2.2⟩)) rfl ?_;rw[k12] at hc;obtain⟨a0,a2⟩:=Km hc;rw[drain_eq hx hm a0 (by omega) (by omega),Ys];rfl
   .rw[za (by simp[k12]),za k12];refine zcf (b:=(x8 x o).bind λv3=>some (⟨v3.1,ps⟩,⟨v3.2.1,v3.2.2⟩)) rfl ?_;rw[(oG hx.rt hx.sl hx.zr (by omega) o).mc,Ys];rfl
 .rw[zb (by simpa using h),zb h];rfl
end
section
variable{ps:List (List c9)}(hm:Mp ps){x:Hp}(hx:Oh x)
include hm hx
end
def NN(x:Hp):A4:=⟨yv x.S.S.a8 0,yv x.S.S.a8 1,yv x.S.S.a8 2,yv x.S.S.a8 3⟩
theorem QP{s:a7}(hR:SR s):T8 s.S=some ⟨yv s.S.a8 0,yv s.S.a8 1,yv s.S.a8 2,yv s.S.a8 3⟩:=by
 unfold T8;simp only[jn];have hlen:=hR.len;refine Y3 s.S.a8.length (λk t=>t=⟨yv (s.S.a8.take k) 0,yv (s.S.a8.take k) 1,yv (s.S.a8.take k) 2,yv (s.S.a8.take k) 3⟩) (by omega) (by simp[yv]) (λk t hk ht=>.inl ?_) (λt ht=>⟨_,by simp;rfl,by rw[ht,zU]⟩);have hc:=hR.cell k hk;rw[E9 hk] at hc;subst ht;simp only[zQ,hk,zV,zT,u7 hk,Ys];have hle:∀j,yv (s.S.a8.take k) j<=24:=λj=>t6 zbe (by simp;omega);have h0:=hle 0;have h1:=hle 1;have h2:=hle 2;have h3:=hle 3;rw[zu hk];simp only[Kw];refine⟨_,?_,rfl⟩;have hst:s.S.a8[k].State=0\/s.S.a8[k].State=1\/s.S.a8[k].State=2\/s.S.a8[k].State=3:=by omega
 rcases hst with e | e | e | e <;> rw[e] <;> simp[A4.ix,A4.l,A4.st,ix] <;> rw[p8,p8] <;> simp
section
variable{ps:List (List c9)}{x:Hp}(hx:O4 x)
include hx
theorem XO:fO ⟨x,ps⟩=some (NN x):=by
 unfold fO;dsimp only;rw[QP hx.sh.sr,Ys];rfl
theorem Ta:fN ⟨x,ps⟩=some (Nd x):=by
 have hR:=hx.sh.sr;have l24:(lv x.S).length<=24:=M6 (y5.2 hR);unfold fN;simp only[jn];rw[de (y5.2 hR),Ys];refine Y3 (lv x.S).length (λk l=>l=((lv x.S).take k).map λh=>T7 x h) (by omega) rfl (λk l hk hl=>.inl ⟨_,?_,rfl⟩) (λl hl=>⟨l,za (by simp),?_⟩)
 .subst hl;dsimp only;have:=I3 hR (zk hk);rw[zb (by simpa using hk),u7 hk,Ys,MW hx.sh (by omega),Ys,C3 (by omega) (by simp;omega),Ys,p8,zu hk,zad];rfl
 .subst hl;rw[zU];show (oT (Nd x)).bind _=_;have:=HY (x:=x) hR;unfold oT;rw[zb (by omega),Lq,Nf hR];rfl
end
theorem Rs.oh{x:Hp}{n:Nat}(h:Rs x n):Oh x:=⟨h.rt,h.sl,h.zr⟩
theorem Wt{n last places:Int}{ps:List (List c9)}(hl:ps.length<=12)(hp:∀p∈ps,p.length<=1000) :
  (∃e,Y0 n last places ps=some (⟨Pp,[]⟩,e)/\BI n last places (Xk ps)=some (⟨hO Pp,[]⟩,e)/\(e=13\/e=1/\¬((1<=n/\n<=24)/\(0<=last/\last<=9)/\1<=places/\places<=8))) \/
  (∃k p:Nat,n=k/\places=p/\(1<=k/\k<=24)/\Mp ps/\Rs (Bo k last p) 0/\Y0 n last places ps=some (⟨Bo k last p,ps⟩,0)/\BI n last places (Xk ps)=some (⟨hO (Bo k last p),Xk ps⟩,0)):=by
 have e1:dS ps=some (bY ps):=Dw (by omega) hp;have e2:oM (Xk ps)=some (bY ps):=FA (by omega) hp;unfold Y0 BI;rw[e1,e2,Ys,Ys];cases hq:bY ps;·exact .inl ⟨13,rfl,rfl,.inl rfl⟩
 .simp only[Bool.not_true,zm,zZ];by_cases h:(1<=n/\n<=24)/\(0<=last/\last<=9)/\1<=places/\places<=8
  .right;obtain⟨h1,h2,h3⟩:=h;obtain⟨k,rfl⟩:∃k:Nat,n=k:=⟨n.toNat,by omega⟩;obtain⟨p,rfl⟩:∃p:Nat,places=p:=⟨places.toNat,by omega⟩;obtain⟨a1,a2,hx,hS,hz⟩:=Ld (k:=k) (p:=p) (l:=last) (by omega) h2 (by omega);refine⟨k,p,rfl,rfl,by omega,(RG hq).1,⟨hx,hS,hz,pi _⟩,?_,?_⟩
   .rw[a1,Ys,hx.sh.r6];rfl
   .rw[a2,Ys,show (hO (Bo k last p)).Roots.length=6 from hx.sh.r6];rfl
  .left;have a1:jI n last places=some Pp:=by
    unfold jI;rw[zb (by simp;omega)];rfl
   have a2:rI n last places=some (hO Pp):=by
    unfold rI;rw[zb (by simp;omega)];rfl
   refine⟨1,?_,?_,.inr ⟨rfl,h⟩⟩;·rw[a1];rfl
   .rw[a2];rfl
theorem Lx{S E:Type}{f:S->Option (S ⊕ E)}(Q:E->Prop)(h:∀s e,f s=some (.inr e)->Q e):∀(N:Nat) (s:S) (e:E),Lw f N s=some e->Q e:=by
 intro N;induction N with
 | zero=>intro s e q;rw[wu] at q;cases q
 | succ N ih=>
  intro s e q;rw[jL] at q;cases hf:f s with
  | none=>rw[hf] at q;cases q
  | some y=>
   rw[hf] at q;cases y with
   | inl s'=>exact ih s' e q
   | inr e'=>cases q;exact h s _ hf
theorem Hc{S E:Type}{f:S->Option (S ⊕ E)}{s0:S}{e:E}(Q:E->Prop)(h:∀s e,f s=some (.inr e)->Q e)(q:lp f s0=some e):Q e:=by
 rw[Dc] at q;exact Lx Q h _ _ _ q
def EB(e:Int):Prop:=0<=e/\e<=40
theorem JD{n:Int}{r:List Int × Int}(h:su n=some r):EB r.2:=by
 unfold su at h;split at h;·cases h;exact (by constructor <;> simp)
 .obtain⟨a,_,h⟩:=C4 h;cases h;exact (by constructor <;> simp)
theorem Nr{l:List Int}{n:Int}{r:Int × Int}(h:nX l n=some r):EB r.2:=by
 unfold nX at h;obtain⟨a,_,h⟩:=C4 h;split at h;·cases h;exact (by constructor <;> simp)
 .obtain⟨b,_,h⟩:=C4 h;cases h;exact (by constructor <;> simp)
theorem Tg{s:c5}{n:Int}{r:Int × Int}(h:u9 s n=some r):EB r.2:=by
 unfold u9 at h;split at h;·cases h;exact (by constructor <;> simp)
 .obtain⟨_,_,h⟩:=C4 h;split at h;·cases h;exact (by constructor <;> simp)
  .obtain⟨_,_,h⟩:=C4 h;obtain⟨_,_,h⟩:=C4 h;split at h <;> cases h <;> exact (by constructor <;> simp)
theorem VW{s:a7}{n:Int}{r:p7 × Int}(h:y4 s n=some r):EB r.2:=by
 unfold y4 C5 at h;obtain⟨a,h1,h⟩:=C4 h;cases h;obtain⟨b,h2,h1⟩:=C4 h1;split at h1;·cases h1;exact Tg h2
 .obtain⟨c,_,h1⟩:=C4 h1;split at h1 <;> cases h1 <;> exact (by constructor <;> simp)
theorem GL{s:a7}{n m:Int}{r:Int × Int}(h:U0 s n m=some r):EB r.2:=by
 unfold U0 at h;obtain⟨a,h1,h⟩:=C4 h;split at h;·cases h;exact VW h1
 .obtain⟨b,h2,h⟩:=C4 h;cases h;exact Nr h2
theorem Le{x:b6}{a b c:Int}{r:b6 × Int}(h:aI x a b c=some r):EB r.2:=by
 unfold aI at h;obtain⟨u,h1,h⟩:=C4 h;split at h;·cases h;exact GL h1
 .obtain⟨v,h2,h⟩:=C4 h;split at h;·cases h;exact (by constructor <;> simp)
  .obtain⟨w,_,h⟩:=C4 h;cases h;exact (by constructor <;> simp)
theorem Po{x:b6}{a b c:Int}{r:b6 × Int}(h:W3 x a b c=some r):EB r.2:=by
 unfold W3 at h;obtain⟨u,h1,h⟩:=C4 h;split at h;·cases h;exact (by constructor <;> simp)
 .obtain⟨v,h2,h⟩:=C4 h;split at h;·cases h;exact (by constructor <;> simp)
  .obtain⟨w,_,h⟩:=C4 h;obtain⟨w,_,h⟩:=C4 h;obtain⟨w,_,h⟩:=C4 h;cases h;exact (by constructor <;> simp)
theorem WC{t:List b8}{a b:Int}{r:List b8 × Int}(h:gG t a b=some r):EB r.2:=by
 unfold gG at h;obtain⟨u,h1,h⟩:=C4 h;split at h
 .obtain⟨w,_,h⟩:=C4 h;cases h;exact (by constructor <;> simp)
 .simp only[jn] at h;obtain⟨v,_,h⟩:=C4 h;obtain⟨e,he,h⟩:=C4 h;have hq:=Hc (λ(e:(List b8 × Int) ⊕ Unit)=>match e with
   | .inl w=>EB w.2
   | .inr _=>True) (λs e q=>by
    split at q
    .obtain⟨_,_,q⟩:=C4 q;obtain⟨_,_,q⟩:=C4 q;obtain⟨_,_,q⟩:=C4 q;split at q
     .obtain⟨_,_,q⟩:=C4 q;cases q;exact (by constructor <;> simp)
     .cases q
    .cases q;trivial) he
  cases e with
  | inl w=>cases h;exact hq
  | inr w=>cases h;exact (by constructor <;> simp)
theorem Td{t:List b8}{a b:Int}{r:List b8 × Int × Int}(h:P8 t a b=some r):EB r.2.2:=by
 unfold P8 at h;split at h;·cases h;exact (by constructor <;> simp)
 .obtain⟨u,_,h⟩:=C4 h;split at h
  .obtain⟨v,_,h⟩:=C4 h;cases h;exact (by constructor <;> simp)
  .obtain⟨v,h2,h⟩:=C4 h;split at h;·cases h;exact WC h2
   .cases h;exact (by constructor <;> simp)
theorem Pn{x:b6}{a b:Int}{r:b6 × Int}(h:cu x a b=some r):EB r.2:=by
 unfold cu at h;split at h;·cases h;exact (by constructor <;> simp)
 .obtain⟨u,_,h⟩:=C4 h;obtain⟨v,_,h⟩:=C4 h;split at h;·cases h;exact (by constructor <;> simp)
  .obtain⟨w,hw,h⟩:=C4 h;split at h;·cases h;exact Td hw
   .obtain⟨_,_,h⟩:=C4 h;cases h;exact (by constructor <;> simp)
theorem UZ{s:c5}{o:p7}{r:c5 × Int × Int}(h:E6 s o=some r):EB r.2.2:=by
 unfold E6 at h;simp only[jn] at h;obtain⟨v,_,h⟩:=C4 h;obtain⟨e,he,h⟩:=C4 h;have hq:=Hc (λ(e:(c5 × Int × Int) ⊕ Unit)=>match e with
  | .inl w=>EB w.2.2
  | .inr _=>True) (λs e q=>by
   split at q
   .obtain⟨_,_,q⟩:=C4 q;split at q
    .obtain⟨_,_,q⟩:=C4 q;obtain⟨_,_,q⟩:=C4 q;obtain⟨_,_,q⟩:=C4 q;cases q;exact (by constructor <;> simp)
    .cases q
   .cases q;trivial) he
 cases e with
 | inl w=>cases h;exact hq
 | inr w=>cases h;exact (by constructor <;> simp)
theorem TL{s:a7}{a b:Int}{r:a7 × Int × Int}(h:O2 s a b=some r):EB r.2.2:=by
 unfold O2 at h;obtain⟨u,h1,h⟩:=C4 h;split at h;·cases h;exact JD h1
 .obtain⟨v,_,h⟩:=C4 h;split at h;·cases h;exact (by constructor <;> simp)
  .obtain⟨w,hw,h⟩:=C4 h;split at h;·cases h;exact UZ hw
   .cases h;exact (by constructor <;> simp)
theorem sV{n l m e:Int}(h:EB e):EB (L7 n l m e):=by
 unfold L7;split;·exact h
 .exact (by constructor <;> simp)
theorem GO{a b c:Int}(h1:EB a)(h2:EB b)(h3:EB c):EB (az a b c):=by
 unfold az;split;·exact h1
 split;·exact h2
 exact h3
theorem GG(k a b c:Int):EB (A8 k a b c):=by
 have d:∀ {n:Int},0<=n->n<=40->EB n:=λh1 h2=>⟨h1,h2⟩;unfold A8;repeat' split
 all_goals first
  | exact GO (sV (d (by decide) (by decide))) (sV (d (by decide) (by decide))) (sV (d (by decide) (by decide)))
  | exact GO (sV (d (by decide) (by decide))) (sV (d (by decide) (by decide))) (d (by decide) (by decide))
  | exact sV (d (by decide) (by decide))
  | exact d (by decide) (by decide)
section
variable{x:Hp}(hx:O4 x)(hS:SL x)(hz:zr x = [])(hb:x.S.Serial<9223372036854775807)
include hx
theorem MV{h:Int}(hh:h=0\/h∈lv x.S):0<=T7 x h/\T7 x h<=x.S.Serial:=by
 have hR:=hx.sh.sr;rcases hh with rfl | hh
 .rw[DL hx.sh];exact⟨pi _,hR.T7⟩
 .have o:=(J5 hR hh);unfold T7;exact⟨by have:=o.s1;omega,o.s2⟩
include hS hz hb
theorem VK(o:c9):(∃e,Er x o e/\EB e)\/∃z v,Dn x o z v/\0<=v/\v<=x.S.Serial+1:=by
 obtain⟨k,a,b,c⟩:=o;have sl:=pQ hx.sh;have hR:=hx.sh.sr;have s0:=hR.T7;have sb:∀ {h:Int},(h=0\/h∈lv x.S)->0<=T7 x h/\T7 x h<=x.S.Serial+1:=λhh=>by have:=MV hx hh;omega
 have e2:EB 2:=(by constructor <;> simp);have e9:EB 9:=(by constructor <;> simp);have e14:EB 14:=(by constructor <;> simp);by_cases hc:A8 k a b c=0
 .have:=Bi hc;have hk:k=1\/k=2\/k=3\/k=4\/k=5\/k=6\/k=7\/k=8\/k=9\/k=10\/k=11\/k=12:=by omega
  rcases hk with rfl | rfl | rfl | rfl | rfl | rfl | rfl | rfl | rfl | rfl | rfl | rfl
  .rcases d1 hx hS hb hc with ⟨e,q,h⟩ | ⟨hn,hcc,i,hF,h⟩;·exact .inl ⟨e,h,TL q⟩
   .exact .inr ⟨_,_,h,by omega,by omega⟩
  .exact .inr ⟨_,_,d2 hx hS hc,sb (sl b)⟩
  .exact .inr ⟨_,_,d3 hx hS hc,by omega,by omega⟩
  .rcases d4 hx hS hc with ⟨_,h⟩ | ⟨e,q,h⟩ | ⟨hl,n,_,hn,h⟩;·exact .inl ⟨_,h,e2⟩
   .exact .inl ⟨_,h,GL q⟩
   .exact .inr ⟨_,_,h,sb (hx.sh.fl _ hl _ (zk hn))⟩
  .rcases d5 hx hS hc with ⟨_,h⟩ | ⟨e,q,h⟩ | ⟨hl,n,_,hn,h⟩;·exact .inl ⟨_,h,e2⟩
   .exact .inl ⟨_,h,Le q⟩
   .exact .inr ⟨_,_,h,sb (sl c)⟩
  .rcases d6 hx hS hc with ⟨_,h⟩ | ⟨e,q,h⟩ | ⟨hw,h⟩;·exact .inl ⟨_,h,e2⟩
   .exact .inl ⟨_,h,Po q⟩
   .exact .inr ⟨_,_,h,sb (sl b)⟩
  .obtain⟨hl,⟨_,h⟩ | ⟨hI,h⟩⟩:=d7 hx hS hc;·exact .inl ⟨_,h,e9⟩
   .exact .inr ⟨_,_,h,sb (.inr ((hx.sh.cl _ hl).2.2.2.2 hI).1)⟩
  .rcases d8 hx hS hc with ⟨_,h⟩ | ⟨_,e,q,h⟩ | ⟨hl,r,h1,h2,h⟩;·exact .inl ⟨_,h,e2⟩
   .exact .inl ⟨_,h,Pn q⟩
   .exact .inr ⟨_,_,h,sb (sl b)⟩
  .rcases d9 hx hS hc with ⟨_,h⟩ | ⟨_,_,h⟩ | ⟨_,v,hv,h⟩;·exact .inl ⟨_,h,e2⟩
   .exact .inl ⟨_,h,e9⟩
   .exact .inr ⟨_,_,h,sb (.inr (hx.sh.pr _ _ hv).2)⟩
  .refine .inr ⟨_,_,d10 hx hS hz hc,?_⟩;split <;> omega
  .obtain⟨h1,h2⟩:=sJ (x:=x) (a:=a) (b:=b) (c:=c) (.inl rfl) hc;exact .inl ⟨14,⟨by decide,h1,h2⟩,e14⟩
  .obtain⟨h1,h2⟩:=sJ (x:=x) (a:=a) (b:=b) (c:=c) (.inr rfl) hc;exact .inl ⟨14,⟨by decide,h1,h2⟩,e14⟩
 .obtain⟨h1,h2⟩:=EJ (x:=x) (o:=⟨k,a,b,c⟩) hc;exact .inl ⟨_,⟨hc,h1,h2⟩,GG _ _ _ _⟩
theorem SX(o:c9):(0<=(tP x o).2.1/\(tP x o).2.1<=x.S.Serial+1)/\EB (tP x o).2.2:=by
 have s0:=hx.sh.sr.T7;rcases VK hx hS hz hb o with ⟨e,h,he⟩ | ⟨z,v,d,h0,h1⟩
 .unfold tP;rw[h.2.1,zX];exact⟨⟨pi _,by show (0:Int)<=_;omega⟩,he⟩
 .unfold tP;rw[d.mc,zX];exact⟨⟨h0,h1⟩,(by constructor <;> simp)⟩
end
theorem VP{ps:List (List c9)}(hm:Mp ps){x:Hp}(hx:Oh x)(hb:x.S.Serial<7000000000000000000)(row:List Int):(-1000<=(er ps x row).2.1/\(er ps x row).2.1<=x.S.Serial+1000)/\EB (er ps x row).2.2:=by
 have s0:=hx.rt.sh.sr.T7;unfold er;split
 .refine⟨⟨by show (-1000:Int)<=0;omega,by show (0:Int)<=_;omega⟩,?_⟩;show EB (ck row).2;unfold ck;rcases four row with ⟨k,a,b,c,rfl⟩ | hl
  .rw[AI,zX];split;·exact GG _ _ _ _
   .exact (by constructor <;> simp)
  .rw[(uT hl).1,zX];exact (by constructor <;> simp)
 .rename_i h;have hc:=AG (Classical.not_not.1 h);generalize (ck row).1=o at hc;unfold eo;split
  .have:=Kl hm hx hb;exact⟨⟨by show (-1000:Int)<=OR x-((mU x).length:Int);omega,by show OR x-((mU x).length:Int)<=_;omega⟩,(by constructor <;> simp)⟩
  split
  .rename_i hk;rw[hk] at hc;have h12:=Km hc;obtain⟨a1,_,_⟩:=GJ ps (p:=(x,o.A)) h12.1;refine⟨⟨by show (-1000:Int)<=(dn ps (x,o.A):Int);omega,by show (dn ps (x,o.A):Int)<=_;simp only at a1;omega⟩,?_⟩;show EB (VN _);unfold VN;split <;> exact (by constructor <;> simp)
  .have:=SX hx.rt hx.sl hx.zr (by omega) o;exact⟨⟨by omega,by omega⟩,this.2⟩
def nm(ws:List ByteArray):List Int × Bool:=if ws.all (λw=>(xW (Y9 w)).2)=true then (ws.map (λw=>(xW (Y9 w)).1),true) else ([],false)
theorem PF(F:ByteArray->Option (Int × Bool))(ws:List ByteArray)(hF:∀w∈ws,F w=some (xW (Y9 w)))(hl:ws.length<=100000) :
  (lp (S:=Int × (List Int)) (E:=((List Int) × Bool) ⊕ (List Int)) (λ((s12,s13):Int × (List Int))=>
   if (decide (s12<(ws.length:Int))) then
    (ix ws s12).bind λv16=>
    (F v16).bind λv17=>
    if (!v17.2) then
     some (.inr (.inl ([],false)))
    else
    (app 8 s13 [v17.1]).bind λv18=>
    some (.inl (z8 (s12+1),v18))
   else
   some (.inr (.inr s13))) (0,[])).bind (λe11=>
  match e11 with
  | .inl w=>some w
  | .inr w=>some (w,true))=some (nm ws):=by
 refine Y3 ws.length (λk l=>l=(ws.take k).map (λw=>(xW (Y9 w)).1)/\(ws.take k).all (λw=>(xW (Y9 w)).2)=true) (by omega) ⟨rfl,rfl⟩ (λk l hk hl2=>?_) λl hl2=>⟨_,za (by simp),?_⟩
 .obtain⟨rfl,h2⟩:=hl2;dsimp only;rw[zb (by simpa using hk),u7 hk,Ys,hF _ (zk hk),Ys];cases hb:(xW (Y9 ws[k])).2
  .refine .inr ⟨_,zb rfl,?_⟩;unfold nm;rw[za λq=>by
    have:=zd.1 q _ (zk hk);rw[hb] at this;cases this]
  .refine .inl ⟨_,?_,rfl,?_⟩
   .rw[za (by decide),C3 (by decide) (by simp;omega),Ys,p8,zu hk,zad];rfl
   .rw[zu hk,List.all_append,h2,zal];simp[hb]
 .obtain⟨rfl,h2⟩:=hl2;rw[zU] at h2 |-;unfold nm;rw[zb h2]
def Xp(ws:List ByteArray):Prop:=ws.length<=100000/\∀w∈ws,w.size<1000000000
theorem PJ{ws:List ByteArray}(h:Xp ws):ay ws=some (nm ws):=by
 unfold ay;simp only[jn];exact PF aF ws (λw hw=>XC w (h.2 w hw)) h.1
theorem TT(ws:List ByteArray):(nm ws).1.length<=ws.length:=by
 unfold nm;split;·simp
 .simp
def iS:List (ByteArray × Nat):=[(s6 [112,114,111,103],13),(s6 [104,101,97,112],14),(s6 [110,101,119],1),(s6 [99,111,112,121],2),(s6 [100,114,111,112],3),(s6 [108,111,97,100],4),(s6 [115,116,111,114,101],5),(s6 [119,101,97,107],6),(s6 [117,112],7),(s6 [112,97,105,114],8),(s6 [103,101,116],9),(s6 [115,97,109,101],10),(s6 [99,111,108,108,101,99,116],11),(s6 [100,114,97,105,110],12),(s6 [108,105,118,101,115],15),(s6 [114,111,111,116,115],16),(s6 [116,97,108,108,121],17)]
def uk(w:ByteArray):Nat:=(z6 iS w).getD 0
def Ay(i:Nat):Int:=[0,3,2,1,3,3,3,2,2,2,2,0,1,0,3,0,0,0].getD i 0
def pC(i:Nat):c8:=
 if i=13 then ⟨some (75,none),some (76,none),true⟩
 else if i=14 then ⟨some (137,some 3),some (78,none),true⟩
 else if i=15 then ⟨some (137,some 0),some (80,none),false⟩
 else if i=16 then ⟨some (137,some 0),some (81,none),false⟩
 else if i=17 then ⟨some (137,some 0),some (82,none),false⟩
 else ⟨some (137,some (Ay i)),some (138,some (i:Int)),false⟩
theorem Hf{K V W:Type}[BEq K](f:V->W)(k:K):∀l:List (K × V),z6 (l.map λp=>(p.1,f p.2)) k=(z6 l k).map f
 | []=>rfl
 | p::l=>by
  simp only[ul,z6];split;·rfl
  .exact Hf f k l
theorem tc{K V:Type}[BEq K]{k:K}{v:V}:∀ {l:List (K × V)},z6 l k=some v->∃p∈l,p.2=v/\(k==p.1)=true
 | [],h=>by cases h
 | p::l,h=>by
  simp only[z6] at h;split at h
  .rename_i q;cases h;exact⟨p,zi ..,rfl,q⟩
  .obtain⟨p',h1,h2⟩:=tc h;exact⟨p',zq _ h1,h2⟩
theorem OU:dU=some (iS.map λp=>(p.1,pC p.2)):=by kernel_rfl
theorem Nz{w:ByteArray}(h:uk w≠0):z6 iS w=some (uk w)/\1<=uk w/\uk w<=17:=by
 unfold uk at h |-;cases hm:z6 iS w with
 | none=>rw[hm] at h;exact absurd rfl h
 | some i=>
  rw[hm] at h;refine⟨rfl,by have:i≠0:=h;show 1<=i;omega,?_⟩;obtain⟨p,hp,rfl,_⟩:=tc hm;have:∀p∈iS,p.2<=17:=by decide
  exact this p hp
theorem Ny{w:ByteArray}(h:uk w=0):z6 iS w=none:=by
 unfold uk at h;cases hm:z6 iS w with
 | none=>rfl
 | some i=>
  rw[hm] at h;have h0:i=0:=h;obtain⟨p,hp,e,_⟩:=tc hm;have:∀p∈iS,p.2≠0:=by decide
  exact absurd (e.trans h0) (this p hp)
def Vb(i n:Nat):Bool:=if i=13 then n % 4==1 else (n:Int)==Ay i
theorem Nh{i n:Nat}(h1:1<=i)(h2:i<=17)(hn:n<=100000):oA (pC i).takes (n:Int)=some (Vb i n):=by
 have hi:i=1\/i=2\/i=3\/i=4\/i=5\/i=6\/i=7\/i=8\/i=9\/i=10\/i=11\/i=12\/i=13\/i=14\/i=15\/i=16\/i=17:=by omega
 have h13:oA (pC 13).takes (n:Int)=some (Vb 13 n):=by
  show (rem (n:Int) 4).bind (λv1=>some (v1==1))=some (n % 4==1);rw[oO (by omega) (by decide),Ys];congr 1;rw[zbl,wl,wl];omega
 rcases hi with rfl | rfl | rfl | rfl | rfl | rfl | rfl | rfl | rfl | rfl | rfl | rfl | rfl | rfl | rfl | rfl | rfl
 all_goals first
  | exact h13
  | rfl
def pz(n:Int):List UInt8:=Y9 ((nO n).getD ByteArray.empty)
theorem AH{n:Int}(h0 : -9223372036854775808<=n)(h1:n<=9223372036854775807):nO n=some (s6 (pz n))/\(pz n).length<=21:=by
 obtain⟨l,e,h⟩:=MZ h0 h1;unfold pz;rw[e,zX,P0];exact⟨rfl,h⟩
def qO(e:Int):ByteArray:=s6 ([101,114,114,111,114,32]++pz e)
theorem qg{e:Int}(h:EB e):B7 e=some (qO e):=by
 obtain⟨h1,h2⟩:=AH (n:=e) (by have:=h.1;omega) (by have:=h.2;omega);unfold B7;rw[h1,Ys,eM (by rw[F8,F8];simp only[zj,zR];omega),Ys,P0,P0];rfl
def HQ(p:Int × Int):ByteArray:=if p.2≠0 then qO p.2 else s6 (pz p.1)
theorem MR{p:Int × Int}(hv : -9223372036854775808<=p.1/\p.1<=9223372036854775807)(he:EB p.2):fM (Xq p)=some (HQ p):=by
 unfold HQ;show (if (p.2 != 0)=true then (B7 p.2).bind (λv1=>some v1) else (nO p.1).bind λv2=>some v2)=_;by_cases q:p.2=0
 .rw[za (by simp[q]),za (by simp[q]),(AH hv.1 hv.2).1];rfl
 .rw[zb (by simpa using q),zb q,qg he];rfl
def ns(w:List UInt8)(l:List Int):List UInt8:=l.foldl (λw n=>w++32::pz n) w
theorem Ff(w:List UInt8)(l:List Int)(n:Int):ns w (l ++ [n])=ns w l++32::pz n:=by
 unfold ns;rw[za1];rfl
def Vy(n:Int):Prop:=-9223372036854775808<=n/\n<=9223372036854775807
theorem IX(w:List UInt8)(l:List Int)(h:∀n∈l,Vy n):(ns w l).length<=w.length+22*l.length:=by
 induction l generalizing w with
 | nil=>exact zt _
 | cons n l ih=>
  have h1:=ih (w++32::pz n) λm hm=>h m (zq _ hm);have h2:=(AH (h n (zi ..)).1 (h n (zi ..)).2).2;simp only[zD,zj] at h1 |-;show (ns (w++32::pz n) l).length<=_;omega
theorem sX{w:List UInt8}{l:List Int}(hw:w.length<=100)(hl:l.length<=100)(h:∀n∈l,Vy n):W1 (s6 w) l=some (s6 (ns w l)):=by
 unfold W1;simp only[jn];refine uZ (λ(x:ByteArray × Int)=>∃k:Nat,x.2=(k:Int)/\k<=l.length/\x.1=s6 (ns w (l.take k))) (λx=>l.length-x.2.toNat) ⟨0,rfl,sm _,rfl⟩ (by simp only;omega) ?_;rintro⟨s,kk⟩ ⟨k,h1,h2,h3⟩;simp only at h1 h3;subst h1;subst h3;by_cases hk:k<l.length
 .have hb:=h _ (zk hk);obtain⟨d1,d2⟩:=AH hb.1 hb.2;have hlen:=IX w (l.take k) λn hn=>h n (zah hn);have htk:(l.take k).length<=100:=by rw[n9];omega
  refine .inl ⟨(s6 (ns w (l.take k)++32::pz l[k]),((k+1:Nat):Int)),?_,⟨k+1,rfl,hk,?_⟩,?_⟩
  .rw[zb (by simpa using hk),u7 hk,Ys,d1,Ys,eM (by rw[F8,F8];simp only[zj,zR];omega),Ys,eM (by rw[F8,F8,zD,P0,P0];simp only[zj,zR];omega),Ys,p8];simp only[P0];rfl
  .show s6 _=_;rw[zu hk,Ff]
  .simp only[zW];omega
 .rw[za (by simpa using hk)];refine .inr ⟨_,rfl,?_⟩;rw[zap (by omega)]
structure Cn (c:c4) (n:Nat):Prop where
 pg:bY c.progs=true
 mp:Mp c.g.Progs
 rs:c.begun=true->Rs c.g.X n
theorem Cn.mono{c:c4}{n m:Nat}(h:Cn c n)(hm:n<=m):Cn c m:=
 ⟨h.pg,h.mp,λq=>⟨(h.rs q).rt,(h.rs q).sl,(h.rs q).zr,by have:=(h.rs q).T7;omega⟩⟩
theorem Ms{l:List (List c9)}(h:bY l=true):l.length<=6/\∀p∈l,p.length<=6:=by
 refine⟨?_,(RG h).1⟩;unfold bY at h;rw[zl] at h;exact za9 h.1
def okB:ByteArray:=s6 [111,107]
def Ya:ByteArray:=s6 [110,111,32,104,101,97,112]
def ud(k:Int)(l:List Int):List Int:=k::(l++List.replicate (3-l.length) 0)
noncomputable def OQ(c:c4)(k:Int)(l:List Int):c4 × ByteArray:=
 (⟨⟨(er c.g.Progs c.g.X (ud k l)).1,c.g.Progs⟩,c.begun,c.progs⟩,HQ (er c.g.Progs c.g.X (ud k l)).2)
theorem Yc{x:Hp}{n:Nat}(h:Rs x n)(hn:n<=1000000):x.S.Serial<7000000000000000000:=by have:=h.T7;omega
theorem SD{x:Hp}{n:Nat}(h:Rs x n)(hn:n<=1000000){p:Int × Int}(hp:(-1000<=p.1/\p.1<=x.S.Serial+1000)/\EB p.2):fM (Xq p)=some (HQ p):=
 MR (by have:=h.T7;omega) hp.2
theorem UI{c:c4}{n:Nat}(hc:Cn c n)(hb:c.begun=true)(hn:n<=1000000)(k:Int){l:List Int}(hl:l.length<=3) :
  O5 c l k=some (OQ c k l)/\Cn (OQ c k l).1 (n+201):=by
 have hr:=hc.rs hb;have h7:=Yc hr hn;obtain⟨⟨x,ps⟩,b,pg⟩:=c;have hm:Mp ps:=hc.mp;have hr:Rs x n:=hr;refine⟨?_,hc.pg,hm,λ_=>?_⟩
 .unfold O5 V1;have e1:mk 8 4 (0:Int)=some [0,0,0,0]:=rfl;have e2:CG ([0,0,0,0].set (0:Int).toNat k) 1 l=some (ud k l):=by
   unfold CG ud;rw[zb ⟨by decide,by simp;omega⟩];match l,hl with
   | [],_=>rfl
   | [a],_=>rfl
   | [a,b],_=>rfl
   | [a,b,c],_=>rfl
  have e3:ix [(0:Int),0,0,0] 0=some 0:=rfl;rw[e1,Ys,e3,Ys,e2,Ys,Ym hm hr.oh h7 (ud k l),Ys];dsimp only;rw[SD hr hn (VP hm hr.oh h7 (ud k l))];rfl
 .obtain⟨o1,o2⟩:=VQ hm hr.oh h7 (ud k l);exact⟨o1.rt,o1.sl,o1.zr,by have:=hr.T7;show (er ps x (ud k l)).1.S.Serial<=_;omega⟩
noncomputable def Wd(x:Hp):ByteArray:=s6 (ns [108,105,118,101,115] (Nd x))
noncomputable def MO(x:Hp):List Int:=(List.range 6).map λ(r:Nat)=>T7 x (sd x (r:Int))
noncomputable def WM(x:Hp):ByteArray:=s6 (ns [114,111,111,116,115] (MO x))
noncomputable def WU(x:Hp):ByteArray:=s6 (ns [116,97,108,108,121] [(NN x).a,(NN x).b,(NN x).c,(NN x).d])
section
variable{x:Hp}{ps:List (List c9)}(hx:O4 x){n:Nat}(hn:x.S.Serial<=n)(h1:n<=1000000)
include hx hn h1
theorem UR:∀m∈Nd x,Vy m:=λm hm=>by
 unfold Nd at hm;obtain⟨h,hh,rfl⟩:=zI.1 hm;have:=MV hx (.inr hh);exact⟨by omega,by omega⟩
theorem UJ:∀m∈MO x,Vy m:=λm hm=>by
 unfold MO at hm;obtain⟨r,_,rfl⟩:=zI.1 hm;have:=MV hx (pQ hx.sh (r:Int));exact⟨by omega,by omega⟩
theorem Va:∀m ∈ [(NN x).a,(NN x).b,(NN x).c,(NN x).d],Vy m:=λm hm=>by
 have hl:=hx.sh.sr.len;have key:∀k,0<=((yv x.S.S.a8 k:Nat):Int)/\((yv x.S.S.a8 k:Nat):Int)<=24:=λk=>by
  have:yv x.S.S.a8 k<=x.S.S.a8.length:=zbe;omega
 simp only[NN,zJ,zbz,or_false] at hm;rcases hm with rfl | rfl | rfl | rfl <;> exact⟨by have:=key 0;have:=key 1;have:=key 2;have:=key 3;omega,by have:=key 0;have:=key 1;have:=key 2;have:=key 3;omega⟩
theorem Lv(b:Bool)(pg:List (List c9))(l:List Int):K0 ⟨⟨x,ps⟩,b,pg⟩ l=some (⟨⟨x,ps⟩,b,pg⟩,Wd x):=by
 unfold K0;rw[Ta hx,Ys,sX (by decide) (by have:=HY (x:=x) hx.sh.sr;omega) (UR hx hn h1)];rfl
theorem Ni(b:Bool)(pg:List (List c9))(l:List Int):R4 ⟨⟨x,ps⟩,b,pg⟩ l=some (⟨⟨x,ps⟩,b,pg⟩,WU x):=by
 unfold R4;rw[XO hx,Ys,sX (by decide) (by simp) (Va hx hn h1)];rfl
theorem ML(b:Bool)(pg:List (List c9))(l:List Int):K1 ⟨⟨x,ps⟩,b,pg⟩ l=some (⟨⟨x,ps⟩,b,pg⟩,WM x):=by
 unfold K1;have e1:mk 8 6 (0:Int)=some [0,0,0,0,0,0]:=rfl;rw[e1,Ys];simp only[jn];refine Y3 6 (λk t=>t.length=6/\t.take k=(MO x).take k) (by decide) ⟨rfl,rfl⟩ (λk t hk ht=>.inl ⟨t.set k (T7 x (sd x (k:Int))),?_,by rw[zak];exact ht.1,?_⟩) λt ht=>⟨t,za (by simp),?_⟩
 .dsimp only;rw[zb (by simp;omega),CC hx.sh (k:Int),Ys,u7 (by rw[ht.1];exact hk),Ys,p8];rfl
 .have hk2:k<(MO x).length:=by unfold MO;rw[ww,List.length_range];exact hk
  have hk3:k<t.length:=by rw[ht.1];exact hk
  have e0:(MO x)[k]? = some (T7 x (sd x (k:Int))):=by
   unfold MO;rw[zL,List.getElem?_range hk];rfl
  have e:(MO x)[k]=T7 x (sd x (k:Int)):=(zw.1 e0).2;rw[zu (by rw[zak];exact hk3),List.getElem_set_self,List.take_set_of_le (zt _),ht.2,zu hk2,e]
 .have ht2:=ht.2;have hr:(MO x).length=6:=by unfold MO;rw[ww,List.length_range]
  rw[zap (by omega),zap (by omega)] at ht2;subst ht2;rw[sX (by decide) (by omega) (UJ hx hn h1)];rfl
end
def gN:List Int->List c9
 | a::b::c::d::r=>⟨a,b,c,d⟩::gN r
 | _=>[]
theorem Hn:∀l:List Int,(gN l).length*4<=l.length
 | []=>zt _
 | [_]=>by simp[gN]
 | [_,_]=>by simp[gN]
 | [_,_,_]=>by simp[gN]
 | a::b::c::d::r=>by
  have:=Hn r;simp only[gN,zj];omega
def pJ(p:List (List c9))(l:List Int):List (List c9):=(p++List.replicate ((l.headD 0).toNat+1-p.length) []).set (l.headD 0).toNat (gN (l.drop 1))
def OP(c:c4)(l:List Int):c4 × ByteArray:=
 if l.headD 0<0\/l.headD 0 > 5 then (c,qO 13)
 else if bY (pJ c.progs l)=true then (⟨c.g,c.begun,pJ c.progs l⟩,okB) else (c,qO 13)
theorem Xg:EB 13:=by constructor <;> simp
theorem Qi{p:List (List c9)}{l:List Int}(h0:0<=l.headD 0)(h5:l.headD 0<=5)(hp:p.length<=6)(hq:∀q∈p,q.length<=6)(hl:l.length<=4000):(pJ p l).length<=12/\∀q∈pJ p l,q.length<=1000:=by
 unfold pJ;refine⟨by rw[zak,zD,List.length_replicate];omega,λq hm=>?_⟩;rcases zag hm with h | rfl
 .rcases zx.1 h with h | h
  .have:=hq q h;omega
  .rw[(zbg.1 h).2];simp
 .have:=Hn (l.drop 1);rw[zcd] at this;omega
theorem Uq{c:c4}{n:Nat}(hc:Cn c n){l:List Int}(hl:l.length % 4=1)(hm:l.length<=4000) :
  N5 c l=some (OP c l)/\Cn (OP c l).1 n:=by
 obtain⟨p6,q6⟩:=Ms hc.pg;obtain⟨a,r,rfl⟩:∃a r,l=a::r:=by
  cases l with
  | nil=>simp at hl
  | cons a r=>exact⟨a,r,rfl⟩
 have e0:ix (a::r) 0=some a:=rfl;have hP:OP c (a::r)=if a<0\/a > 5 then (c,qO 13) else if bY (pJ c.progs (a::r))=true then (⟨c.g,c.begun,pJ c.progs (a::r)⟩,okB) else (c,qO 13):=rfl
 unfold N5;rw[e0,Ys,hP];by_cases h:a<0\/a > 5
 .rw[zb (by simp only[n7,ut];omega),qg Xg,zb h];exact⟨rfl,hc⟩
 .rw[za (by simp only[n7,ut];omega),za h];obtain⟨k,rfl⟩:∃k:Nat,a=k:=⟨a.toNat,by omega⟩;have hw:z8 ((k:Int)+1)=((k+1:Nat):Int):=p8 (by omega);have hmx:(if (c.progs.length:Int) > z8 ((k:Int)+1) then (c.progs.length:Int) else z8 ((k:Int)+1))=((max (k+1) c.progs.length:Nat):Int):=by
   rw[hw];split <;> omega
  have h12:max (k+1) c.progs.length<=12:=by omega
  rw[hmx,jN (by omega) (by omega),Ys];have hcp:ux (List.replicate (max (k+1) c.progs.length) ([]:List c9)) c.progs=some (c.progs++List.replicate (k+1-c.progs.length) []):=by
   unfold ux;rw[zb (by rw[List.length_replicate];omega),List.drop_replicate,show max (k+1) c.progs.length-c.progs.length=k+1-c.progs.length by omega]
  have hkl:k<(c.progs++List.replicate (k+1-c.progs.length) ([]:List c9)).length:=by simp;omega
  rw[hcp,Ys,u7 hkl,Ys];simp only[jn];have hct:cut ((k:Int)::r) 1 ((((k:Int)::r).length:Nat):Int)=some r:=by
   have:=jk (xs:=(k:Int)::r) (i:=1) (j:=((k:Int)::r).length) (by simp) (zt _);rw[zU] at this;exact this
  rw[hct,Ys];have hr4:r.length % 4=0:=by simp only[zj] at hl;omega
  have hrl:r.length<=4000:=by simp only[zj] at hm;omega
  have S9:=Qi (p:=c.progs) (l:=(k:Int)::r) (by simp only[List.headD_cons];omega) (by simp only[List.headD_cons];omega) p6 q6 hm;have hpg:(c.progs++List.replicate (k+1-c.progs.length) ([]:List c9)).set (k:Int).toNat (gN r)=pJ c.progs ((k:Int)::r):=by
   unfold pJ;simp only[List.headD_cons,zW,List.drop_one,List.tail_cons]
  have key:∀K:List c9->Option (c4 × ByteArray),(lp (S:=(List Int) × (List c9)) (E:=(List c9)) (λ((s24,s25):(List Int) × (List c9))=>
   if (decide ((s24.length:Int) > 0)) then
    (ix s24 0).bind λv28=>
    (ix s24 1).bind λv29=>
    (ix s24 2).bind λv30=>
    (ix s24 3).bind λv31=>
    (app 32 s25 [(⟨v28,v29,v30,v31⟩:c9)]).bind λv32=>
    (cut s24 4 (s24.length:Int)).bind λv33=>
    some (.inl (v33,v32))
   else
   some (.inr s25)) (r,[])).bind K=K (gN r):=by
   intro K;have:(lp (S:=(List Int) × (List c9)) (E:=(List c9)) (λ((s24,s25):(List Int) × (List c9))=>
   if (decide ((s24.length:Int) > 0)) then
    (ix s24 0).bind λv28=>
    (ix s24 1).bind λv29=>
    (ix s24 2).bind λv30=>
    (ix s24 3).bind λv31=>
    (app 32 s25 [(⟨v28,v29,v30,v31⟩:c9)]).bind λv32=>
    (cut s24 4 (s24.length:Int)).bind λv33=>
    some (.inl (v33,v32))
   else
   some (.inr s25)) (r,[]))=some (gN r):=by
    refine fZ (nr (λ(x:List Int × List c9)=>x.1.length % 4=0/\x.2.length+x.1.length<=4000/\x.2++gN x.1=gN r) (λe=>e=gN r) (λx=>x.1.length) ⟨hr4,by simp only[zR];omega,rfl⟩ (by simp only;omega) ?_);rintro⟨u,v⟩ ⟨h1,h2,h3⟩;simp only at h1 h2 h3;match u,h1,h2,h3 with
    | [],_,_,h3=>exact .inr ⟨_,rfl,by rw[<-h3];simp[gN]⟩
    | [_],h1,_,_=>simp at h1
    | [_,_],h1,_,_=>simp at h1
    | [_,_,_],h1,_,_=>simp at h1
    | a::b::c'::d::t,h1,h2,h3=>
     simp only[zj] at h1 h2;have ct:cut (a::b::c'::d::t) 4 (((a::b::c'::d::t).length:Nat):Int)=some t:=by
      have:=jk (xs:=a::b::c'::d::t) (i:=4) (j:=(a::b::c'::d::t).length) (by simp only[zj];omega) (zt _);rw[zU] at this;exact this
     refine .inl ⟨(t,v ++ [⟨a,b,c',d⟩]),?_,⟨by simp only;omega,by simp only[zD,zY];omega,?_⟩,by simp only[zj];omega⟩
     .refine (zb (by simp only[zj,ut];omega)).trans ?_;show (app 32 v [(⟨a,b,c',d⟩:c9)]).bind _=_;rw[C3 (by decide) (by simp only[zY];omega),Ys,ct];rfl
     .rw[<-h3];simp[gN]
   rw[this];rfl
  rw[key,hpg,Dw S9.1 S9.2,Ys];cases hq:bY (pJ c.progs ((k:Int)::r))
  .rw[zb (by rfl),qg Xg,za (by decide)];exact⟨rfl,hc⟩
  .rw[za (by decide),zb rfl];exact⟨rfl,hq,hc.mp,hc.rs⟩
noncomputable def Iy(c:c4)(l:List Int):c4 × ByteArray:=
 let r:=(Y0 (l.getD 0 0) (l.getD 1 0) (l.getD 2 0) c.progs).getD (c.g,0)
 if r.2≠0 then (c,qO r.2) else (⟨r.1,true,c.progs⟩,okB)
theorem Tw{c:c4}{n:Nat}(hc:Cn c n){l:List Int}(hl:l.length=3) :
  M4 c l=some (Iy c l)/\Cn (Iy c l).1 n:=by
 obtain⟨a,b,d,rfl⟩:∃a b d,l = [a,b,d]:=by
  match l,hl with
  | [a,b,d],_=>exact⟨a,b,d,rfl⟩
 obtain⟨p6,q6⟩:=Ms hc.pg;have e0:ix [a,b,d] 0=some a:=rfl;have e1:ix [a,b,d] 1=some b:=rfl;have e2:ix [a,b,d] 2=some d:=rfl;have hH:Iy c [a,b,d]=if ((Y0 a b d c.progs).getD (c.g,0)).2≠0 then (c,qO ((Y0 a b d c.progs).getD (c.g,0)).2) else (⟨((Y0 a b d c.progs).getD (c.g,0)).1,true,c.progs⟩,okB):=rfl
 unfold M4;rw[e0,Ys,e1,Ys,e2,Ys];rcases Wt (n:=a) (last:=b) (places:=d) (ps:=c.progs) (by omega) (λp hp=>by have:=q6 p hp;omega) with ⟨e,h1,_,h3⟩ | ⟨k,p,_,_,_,hm,hr,h1,_⟩
 .have he:e≠0:=by rcases h3 with rfl | ⟨rfl,_⟩ <;> decide
  have hb:EB e:=by rcases h3 with rfl | ⟨rfl,_⟩ <;> constructor <;> simp
  have hH2:Iy c [a,b,d]=(c,qO e):=by
   rw[hH,h1,zX];exact zb he
  rw[hH2,h1,Ys];refine⟨(zb (by simpa using he)).trans ?_,hc⟩;show (B7 e).bind _=_;rw[qg hb];rfl
 .have hH2:Iy c [a,b,d]=(⟨⟨Bo k b p,c.progs⟩,true,c.progs⟩,okB):=by
   rw[hH,h1,zX];exact za (λq=>q rfl)
  rw[hH2,h1,Ys];exact⟨rfl,hc.pg,hm,λ_=>⟨hr.rt,hr.sl,hr.zr,by have:=hr.T7;show (Bo k b p).S.Serial<=_;omega⟩⟩
noncomputable def yo(c:c4)(i:Nat)(l:List Int):c4 × ByteArray:=
 if i=13 then OP c l else if i=14 then Iy c l else if i=15 then (c,Wd c.g.X) else if i=16 then (c,WM c.g.X) else if i=17 then (c,WU c.g.X) else OQ c i l
noncomputable def pN(c:c4)(w:ByteArray)(ws:List ByteArray):c4 × ByteArray:=
 if uk w=0\/(nm ws).2=false\/Vb (uk w) (nm ws).1.length=false then (c,qO 33)
 else if c.begun=false/\uk w≠13/\uk w≠14 then (c,Ya)
 else yo c (uk w) (nm ws).1
theorem XN:EB 33:=by constructor <;> simp
theorem KA{i:Nat}(h1:1<=i)(h2:i<=17):(pC i).early=decide (i=13\/i=14):=by
 have hi:i=1\/i=2\/i=3\/i=4\/i=5\/i=6\/i=7\/i=8\/i=9\/i=10\/i=11\/i=12\/i=13\/i=14\/i=15\/i=16\/i=17:=by omega
 rcases hi with rfl | rfl | rfl | rfl | rfl | rfl | rfl | rfl | rfl | rfl | rfl | rfl | rfl | rfl | rfl | rfl | rfl <;> rfl
theorem SE{c:c4}{n:Nat}(hc:Cn c n)(hn:n<=1000000){i:Nat}(h1:1<=i)(h2:i<=17){l:List Int}(ht:Vb i l.length=true)(hm:l.length<=4000)(hb:c.begun=true\/i=13\/i=14) :
  oB (pC i).run c l=some (yo c i l)/\Cn (yo c i l).1 (n+201):=by
 have hi:(1<=i/\i<=12)\/i=13\/i=14\/i=15\/i=16\/i=17:=by omega
 rcases hi with hi | rfl | rfl | rfl | rfl | rfl
 .have hbg:c.begun=true:=by
   rcases hb with q | q | q
   .exact q
   .omega
   .omega
  have hl:l.length<=3:=by
   unfold Vb at ht;rw[za (by omega),wl] at ht;have:∀j:Nat,Ay j<=3:=λj=>by
    unfold Ay;rw[zf];rcases zB j 18 with q | q
    .have hj:∀j:Fin 18,(([0,3,2,1,3,3,3,2,2,2,2,0,1,0,3,0,0,0]:List Int)[j.1]?).getD 0<=3:=by decide
     exact hj ⟨j,q⟩
    .rw[so (by simpa using q)];decide
   have:=this i;omega
  have hf:oB (pC i).run c l=O5 c l i:=by
   unfold pC;rw[za (by omega),za (by omega),za (by omega),za (by omega),za (by omega)];rfl
  have ha:yo c i l=OQ c i l:=by
   unfold yo;rw[za (by omega),za (by omega),za (by omega),za (by omega),za (by omega)]
  rw[hf,ha];exact UI hc hbg hn i hl
 .have hl:l.length % 4=1:=by
   have ht:(l.length % 4==1)=true:=ht;exact wl.1 ht
  obtain⟨a,b⟩:=Uq hc hl hm;exact⟨a,b.mono (by omega)⟩
 .have hl:l.length=3:=by
   have ht:((l.length:Int)==3)=true:=ht;have:=wl.1 ht;omega
  obtain⟨a,b⟩:=Tw hc hl;exact⟨a,b.mono (by omega)⟩
 all_goals
  have hbg:c.begun=true:=by
   rcases hb with q | q | q
   .exact q
   .omega
   .omega
  have hr:=hc.rs hbg;refine⟨?_,hc.mono (by omega)⟩;obtain⟨⟨x,ps⟩,b,pg⟩:=c
 .exact Lv hr.rt hr.T7 hn b pg l
 .exact ML hr.rt hr.T7 hn b pg l
 .exact Ni hr.rt hr.T7 hn b pg l
theorem FI{c:c4}{n:Nat}(hc:Cn c n)(hn:n<=1000000){w:ByteArray}{ws:List ByteArray}(hw:Xp (w::ws))(hm:ws.length<=4000) :
  D0 c (w::ws)=some (pN c w ws)/\Cn (pN c w ws).1 (n+201):=by
 have hws:Xp ws:=⟨by have:=hw.1;simp only[zj] at this;omega,λv hv=>hw.2 v (zq _ hv)⟩;have e0:ix (w::ws) 0=some w:=rfl;have hct:cut (w::ws) 1 (((w::ws).length:Nat):Int)=some ws:=by
  have:=jk (xs:=w::ws) (i:=1) (j:=(w::ws).length) (by simp) (zt _);rw[zU] at this;exact this
 have hnl:=TT ws;have hE:∀ {q:Prop},pN c w ws=(c,qO 33)->Cn (pN c w ws).1 (n+201):=λh=>by rw[h];exact hc.mono (by omega)
 unfold D0;rw[OU,Ys,e0,Ys,hct,Ys,PJ hws,Ys,Hf];by_cases h0:uk w=0
 .have hR:pN c w ws=(c,qO 33):=zb (.inl h0);refine⟨?_,hE (q:=True) hR⟩;rw[Ny h0,hR];show (if (((!false)||(!(nm ws).2))==false)=true then _ else (B7 33).bind _)=_;rw[za (by simp),qg XN];rfl
 obtain⟨hs,h1,h17⟩:=Nz h0;rw[hs];cases h2:(nm ws).2
 .have hR:pN c w ws=(c,qO 33):=zb (.inr (.inl h2));refine⟨?_,hE (q:=True) hR⟩;rw[hR];show (if (((!true)||(!false))==false)=true then _ else (B7 33).bind _)=_;rw[za (by decide),qg XN];rfl
 show (if (((!true)||(!true))==false)=true then ((oA (pC (uk w)).takes ((nm ws).1.length:Int)).bind λv5=>if (!v5)=true then (B7 33).bind (λv8=>some (c,v8)) else if ((!c.begun)&&(!(pC (uk w)).early))=true then some (c,Ya) else (oB (pC (uk w)).run c (nm ws).1).bind λv9=>some (v9.1,v9.2)) else _)=_/\_;rw[zb (by decide),Nh h1 h17 (by have:=hws.1;omega),Ys];cases h3:Vb (uk w) (nm ws).1.length
 .have hR:pN c w ws=(c,qO 33):=zb (.inr (.inr h3));refine⟨?_,hE (q:=True) hR⟩;rw[hR,zb (by decide),qg XN];rfl
 have hN:¬(uk w=0\/(nm ws).2=false\/Vb (uk w) (nm ws).1.length=false):=by rw[h2,h3];simp[h0]
 rw[za (by decide),KA h1 h17];by_cases h4:c.begun=false/\uk w≠13/\uk w≠14
 .have hR:pN c w ws=(c,Ya):=(za hN).trans (zb h4);refine⟨?_,by rw[hR];exact hc.mono (by omega)⟩;rw[hR,h4.1,zK (by omega),zb (by decide)]
 .have hb:c.begun=true\/uk w=13\/uk w=14:=by
   cases hq:c.begun
   .rw[hq] at h4;by_cases q1:uk w=13
    .exact .inr (.inl q1)
    by_cases q2:uk w=14
    .exact .inr (.inr q2)
    exact absurd ⟨rfl,q1,q2⟩ h4
   .exact .inl rfl
  obtain⟨a1,a2⟩:=SE hc hn h1 h17 (l:=(nm ws).1) h3 (by omega) hb;have hR:pN c w ws=yo c (uk w) (nm ws).1:=(za hN).trans (za h4);rw[hR];refine⟨?_,a2⟩;rw[za (by
   rw[zl,zbk,zbk,decide_eq_false_iff_not];rintro⟨q1,q2⟩;rcases hb with q | q | q
   .rw[q1] at q;cases q
   .exact q2 (.inl q)
   .exact q2 (.inr q)),a1]
  rfl
def R8:List UInt8->List (List UInt8)->List UInt8->List (List (List UInt8))
 | w,r,[]=>if Q4 w r = [] then [] else [Q4 w r]
 | w,r,b::l=>if b=10 then (if Q4 w r = [] then R8 [] [] l else Q4 w r::R8 [] [] l) else if GW b=true then R8 [] (Q4 w r) l else R8 (w ++ [b]) r l
def um(xs:List (List UInt8)):List (List (List UInt8)):=(xs.map (ao [] [])).filter λr => !(r == [])
theorem sA(x:List UInt8)(xs:List (List UInt8)):um (x::xs)=(if ao [] [] x = [] then [] else [ao [] [] x])++um xs:=by
 unfold um;rw[ul,me];by_cases h:ao [] [] x = []
 .rw[za (by simp[h]),zb h];rfl
 .rw[zb (by simp[h]),za h];rfl
theorem rv:∀(l w:List UInt8) (r:List (List UInt8)),∃x xs,xG l=x::xs/\R8 w r l=(if ao w r x = [] then [] else [ao w r x])++um xs
 | [],w,r=>⟨[],[],rfl,by
  show (if Q4 w r = [] then [] else [Q4 w r])=(if Q4 w r = [] then [] else [Q4 w r]) ++ [];rw[or]⟩
 | b::l,w,r=>by
  by_cases hb:b=10
  .obtain⟨x,xs,h1,h2⟩:=rv l [] [];refine⟨[],xG l,by rw[xG,zb hb],?_⟩;rw[R8,zb hb,h2,h1,sA];show _=(if Q4 w r = [] then [] else [Q4 w r])++_;split <;> rfl
  .by_cases hB:GW b=true
   .obtain⟨x,xs,h1,h2⟩:=rv l [] (Q4 w r);refine⟨b::x,xs,by rw[xG,za hb,h1],?_⟩;rw[R8,za hb,zb hB,h2,ao,zb hB]
   .obtain⟨x,xs,h1,h2⟩:=rv l (w ++ [b]) r;refine⟨b::x,xs,by rw[xG,za hb,h1],?_⟩;rw[R8,za hb,za hB,h2,ao,za hB]
theorem Df(l:List UInt8):R8 [] [] l=um (xG l):=by
 obtain⟨x,xs,h1,h2⟩:=rv l [] [];rw[h2,h1,sA]
theorem ru(m:List UInt8):∀(l w:List UInt8) (r:List (List UInt8)),R8 w r (l++10::m)=R8 w r l++R8 [] [] m
 | [],w,r=>by
  have e:R8 w r (10::m)=if Q4 w r = [] then R8 [] [] m else Q4 w r::R8 [] [] m:=by
   rw[R8];exact zb rfl
  rw[zb3,e];show _=(if Q4 w r = [] then [] else [Q4 w r])++R8 [] [] m;split <;> rfl
 | b::l,w,r=>by
  rw[zce,R8,R8];split
  .split;·exact ru m l [] []
   .rw[ru m l [] []];rfl
  split;·exact ru m l [] (Q4 w r)
  .exact ru m l (w ++ [b]) r
theorem BY:∀l:List UInt8,(xG l).length<=l.length+1/\∀x∈xG l,x.length<=l.length
 | []=>⟨zt _,λx hx=>by rw[xG,zG] at hx;rw[hx];exact zt _⟩
 | b::l=>by
  obtain⟨h1,h2⟩:=BY l;rw[xG];split
  .refine⟨by simp only[zj];omega,λx hx=>?_⟩;rcases zJ.1 hx with rfl | hx
   .simp
   .have:=h2 x hx;simp only[zj];omega
  .split
   .rename_i y ys e;rw[e] at h1 h2;simp only[zj] at h1;refine⟨by simp only[zj];omega,λx hx=>?_⟩;rcases zJ.1 hx with rfl | hx
    .have:=h2 y (zi ..);simp only[zj];omega
    .have:=h2 x (zq _ hx);simp only[zj];omega
   .refine⟨by simp,λx hx=>?_⟩;rw[zG] at hx;rw[hx];simp
theorem yA(w:List UInt8)(r:List (List UInt8)){m:Nat}(hw:w.length<=m)(hr:∀x∈r,x.length<=m):(Q4 w r).length<=r.length+1/\∀x∈Q4 w r,x.length<=m:=by
 unfold Q4;split;·exact⟨Nat.le_succ _,hr⟩
 .refine⟨by simp,λx hx=>?_⟩;rcases zx.1 hx with h | h
  .exact hr x h
  .rw[zG.1 h];exact hw
theorem vT{m:Nat}:∀(l w:List UInt8) (r:List (List UInt8)),w.length+l.length<=m->(∀x∈r,x.length<=m)->(ao w r l).length<=r.length+l.length+1/\∀x∈ao w r l,x.length<=m
 | [],w,r,hw,hr=>by
  have:=yA w r (m:=m) (by simpa using hw) hr;exact⟨by simp only[ao,zR];omega,this.2⟩
 | b::l,w,r,hw,hr=>by
  simp only[zj] at hw |-;rw[ao];split
  .have h1:=yA w r (m:=m) (by omega) hr;have:=vT l [] (Q4 w r) (by simp only[zR];omega) h1.2;exact⟨by omega,this.2⟩
  .have:=vT l (w ++ [b]) r (by simp only[zD,zY];omega) hr;exact⟨by omega,this.2⟩
noncomputable def wZ(c:c4)(r:List (List UInt8)):c4 × ByteArray:=match r with
 | []=>(c,ByteArray.empty)
 | w::ws=>pN c (s6 w) (ws.map s6)
noncomputable def J6(c:c4)(rs:List (List (List UInt8))):c4 × List ByteArray:=rs.foldl (λp r=>((wZ p.1 r).1,p.2 ++ [(wZ p.1 r).2])) (c,[])
theorem xf:∀(rs:List (List (List UInt8))) (c:c4) (a:List ByteArray),rs.foldl (λp r=>((wZ p.1 r).1,p.2 ++ [(wZ p.1 r).2])) (c,a)=((J6 c rs).1,a++(J6 c rs).2)
 | [],c,a=>by simp[J6]
 | r::rs,c,a=>by
  unfold J6;rw[zaq,zaq,xf rs,xf rs,pu];rfl
theorem rX(c:c4)(a b:List (List (List UInt8))):J6 c (a++b)=((J6 (J6 c a).1 b).1,(J6 c a).2++(J6 (J6 c a).1 b).2):=by
 have:J6 c (a++b)=b.foldl (λp r=>((wZ p.1 r).1,p.2 ++ [(wZ p.1 r).2])) (J6 c a):=by
  unfold J6;rw[za1]
 rw[this];exact xf b _ _
theorem xh(c:c4)(r:List (List UInt8)):J6 c [r]=((wZ c r).1,[(wZ c r).2]):=rfl
theorem DK(c:c4)(a:List (List (List UInt8))):(J6 c a).2.length=a.length:=by
 induction a generalizing c with
 | nil=>rfl
 | cons r a ih=>
  have:=rX c [r] a;rw[List.singleton_append] at this;rw[this,xh];simp only[zD,zj,zR,ih];omega
def c0:c4:=⟨⟨⟨⟨⟨[],0⟩,0⟩,[],[],[],⟨[],0⟩⟩,[]⟩,false,[]⟩
theorem Rm:Cn c0 0:=⟨rfl,(λp hp=>absurd (show p∈([]:List (List c9)) from hp) zbz),(λq=>absurd (show false=true from q) (by decide))⟩
theorem wq{s:ByteArray}(hs:s.size<=2000):L5 s=some (J6 c0 (R8 [] [] (Y9 s))).2/\Cn (J6 c0 (R8 [] [] (Y9 s))).1 500000:=by
 have hl:=iC s;obtain⟨s1,s2⟩:=BY (Y9 s);rw[Df];generalize hX:xG (Y9 s)=xs at s1 s2;have hC:∀k,k<=xs.length->Cn (J6 c0 (um (xs.take k))).1 (201*k)/\∀h:k<xs.length,ao [] [] xs[k] ≠ []->D0 (J6 c0 (um (xs.take k))).1 ((ao [] [] xs[k]).map s6)=some (wZ (J6 c0 (um (xs.take k))).1 (ao [] [] xs[k])):=by
  have one:∀ {c:c4} {k:Nat},Cn c (201*k)->∀h:k<xs.length,ao [] [] xs[k] ≠ []->D0 c ((ao [] [] xs[k]).map s6)=some (wZ c (ao [] [] xs[k]))/\Cn (wZ c (ao [] [] xs[k])).1 (201*(k+1)):=by
   intro c k hc h hne;have hx:=s2 _ (zk h);obtain⟨f1,f2⟩:=vT (m:=(Y9 s).length) xs[k] [] [] (by simp only[zR];omega) (λx hx=>by cases hx);generalize ao [] [] xs[k]=ws at hne f1 f2;cases ws with
   | nil=>exact absurd rfl hne
   | cons w ws=>
    simp only[zj,zR] at f1;rw[ul];refine FI hc (by omega) ⟨by simp only[zj,ww];omega,λv hv=>?_⟩ (by rw[ww];omega);rw[<-ul] at hv;obtain⟨u,hu,rfl⟩:=zI.1 hv;rw[F8];have:=f2 u hu;omega
  intro k;induction k with
  | zero=>intro _;exact⟨Rm,λh hne=>(one Rm h hne).1⟩
  | succ k ih=>
   intro hk;have hk':k<xs.length:=hk;obtain⟨i1,_⟩:=ih (by omega);have e:Cn (J6 c0 (um (xs.take (k+1)))).1 (201*(k+1)):=by
    rw[zu hk'];have ew:um (xs.take k ++ [xs[k]])=um (xs.take k)++um [xs[k]]:=by unfold um;rw[zad,zao]
    rw[ew,sA,rX];have wn:um [] = []:=rfl;rw[wn,or];split;·exact i1.mono (by omega)
    .rename_i hne;rw[xh];exact (one i1 hk' hne).2
   exact⟨e,λh hne=>(one e h hne).1⟩
 refine⟨?_,?_⟩
 .unfold L5;simp only[jn];rw[Jw (by omega),Ys,hX];refine Y3 xs.length (λk (t:c4 × List ByteArray)=>t=J6 c0 (um (xs.take k))) (by omega) rfl (λk t hk ht=>.inl ?_) λt ht=>⟨_,za (by simp),by rw[ht,zU]⟩;subst ht;obtain⟨h1,h2⟩:=hC k (by omega);have hx:=s2 _ (zk hk);have hrl:=DK c0 (um (xs.take k));have hwl:(um (xs.take k)).length<=k:=by
   unfold um;refine t6 (wd _ _) ?_;rw[ww,n9];omega
  have ew:um (xs.take (k+1))=um (xs.take k)++(if ao [] [] xs[k] = [] then [] else [ao [] [] xs[k]]):=by
   rw[zu hk];have:um (xs.take k ++ [xs[k]])=um (xs.take k)++um [xs[k]]:=by unfold um;rw[zad,zao]
   rw[this,sA];have wn:um [] = []:=rfl;rw[wn,or]
  have hkm:k<(xs.map s6).length:=by rw[ww];exact hk
  have hix:ix (xs.map s6) (k:Int)=some (s6 xs[k]):=by rw[u7 hkm,t7]
  refine⟨_,?_,rfl⟩;dsimp only;rw[zb (by simpa using hk),hix,Ys,IJ _ (by rw[F8];omega),Ys,P0,ew];by_cases hne:ao [] [] xs[k] = []
  .rw[hne,zb (by rfl),zb rfl,or,p8]
  .rw[za (by simpa using hne),za hne,h2 hk hne,Ys,C3 (by decide) (by rw[hrl];simp only[zY];omega),Ys,p8,rX,xh]
 .have:=(hC xs.length (zt _)).1;rw[zU] at this;exact this.mono (by omega)
theorem Nk(l:List ByteArray)(hl:l.length<=100000):ky l l=some true:=by
 unfold ky;rw[za (by simp)];simp only[jn];refine dX l.length (λ_=>True) (by omega) trivial (λk hk _=>.inl ⟨?_,trivial⟩) λ_=>⟨_,za (by simp),rfl⟩;rw[zb (by simpa using hk),u7 hk,Ys,Ys,za (by simp),p8]
def xR:List UInt8->List UInt8
 | []=>[]
 | b::l=>if b=10\/b=32 then 9::b::32::xR l else b::xR l
theorem AP:∀l,(xR l).length<=3*l.length
 | []=>zt _
 | b::l=>by
  have:=AP l;rw[xR];split <;> simp only[zj] <;> omega
theorem GK(m:List UInt8):∀l,xR (l++m)=xR l++xR m
 | []=>rfl
 | b::l=>by
  rw[zce,xR,xR,GK m l];split <;> rfl
theorem ly{b:UInt8}(hb:b≠10)(hB:GW b=true)(w:List UInt8)(r:List (List UInt8))(l:List UInt8):R8 w r (b::l)=R8 [] (Q4 w r) l:=by
 rw[R8,za hb,zb hB]
theorem Bm(w:List UInt8)(r:List (List UInt8))(l:List UInt8):R8 w r (10::l)=if Q4 w r = [] then R8 [] [] l else Q4 w r::R8 [] [] l:=by
 rw[R8];exact zb rfl
theorem jD(r:List (List UInt8)):Q4 [] r=r:=rfl
theorem nu:∀(l w:List UInt8) (r:List (List UInt8)),R8 w r (xR l ++ [32,10,13,10])=R8 w r l
 | [],w,r=>by
  show R8 w r (32::10::13::10 :: [])=_;have e:R8 [] [] [13,10] = []:=rfl;rw[ly (by decide) (by decide),Bm,jD,e];rfl
 | b::l,w,r=>by
  rw[xR];by_cases h:b=10
  .subst h;rw[zb (.inl rfl)];show R8 w r (9::10::32::(xR l ++ [32,10,13,10]))=_;rw[ly (by decide) (by decide),Bm,jD,ly (b:=32) (by decide) (by decide),jD,nu l [] [],Bm]
  by_cases h2:b=32
  .subst h2;rw[zb (.inr rfl)];show R8 w r (9::32::32::(xR l ++ [32,10,13,10]))=_;rw[ly (by decide) (by decide),ly (b:=32) (by decide) (by decide),ly (b:=32) (by decide) (by decide),jD,jD,nu l [] (Q4 w r),ly (b:=32) (by decide) (by decide)]
  rw[za (λq=>q.elim h h2)];show R8 w r (b::(xR l ++ [32,10,13,10]))=_;rw[R8,za h,R8,za h];split;·exact nu l _ _
  .exact nu l _ _
theorem OY{α:Type}(a b:List α):cut (a++b) 0 (a.length:Int)=some a:=by
 have:=jk (xs:=a++b) (i:=0) (j:=a.length) (sm _) (by simp);rw[List.take_left] at this;exact this
theorem LD(l:List UInt8):(R8 [] [] l).length<=l.length+1:=by
 rw[Df];unfold um;refine t6 (wd _ _) ?_;rw[ww];exact (BY l).1
theorem Pd(b:UInt8):xR [b]=if b=10\/b=32 then [9,b,32] else [b]:=by rw[xR];rfl
theorem OX{s:ByteArray}{k:Nat}{b:UInt8}(h:(Y9 s)[k]? = some b)(hs:s.size<=1000000):yd s (k:Int) (z8 ((k:Int)+1))=some (s6 [b]):=by
 obtain⟨h1,h2⟩:=zw.1 h;have hl:=iC s;rw[p8,HS (Nat.le_succ k) (by omega),zu h1,h2,List.drop_left' (by rw[n9];omega)]
theorem consoleMore(s t:ByteArray):bN s t=some true:=by
 unfold bN;by_cases h:(decide ((s.size:Int) > 300)||decide ((t.size:Int) > 300))=true
 .rw[h,HW];rfl
 have h':(decide ((s.size:Int) > 300)||decide ((t.size:Int) > 300))=false:=by simpa using h
 rw[h',HW];simp only[ms,jQ,Ys,Bool.not_true,Bool.or_self,zm,zZ];have hst:s.size<=300/\t.size<=300:=by
  rw[n7,ut,ut] at h;omega
 obtain⟨hs,ht⟩:=hst;have hsl:=iC s;have htl:=iC t;have hA:=DK c0 (R8 [] [] (Y9 s));have hAl:=LD (Y9 s);have e2:nK s (s6 [10])=some (s6 (Y9 s ++ [10])):=eM (by have h1:=F8 [10];rw[zY] at h1;omega);have e3:nK (s6 (Y9 s ++ [10])) t=some (s6 (Y9 s++10::Y9 t)):=by
  rw[eM (by have h1:=F8 (Y9 s ++ [10]);rw[zD,zY] at h1;omega),P0,pu];rfl
 have e4:L5 (s6 (Y9 s++10::Y9 t))=some ((J6 c0 (R8 [] [] (Y9 s))).2++(J6 (J6 c0 (R8 [] [] (Y9 s))).1 (R8 [] [] (Y9 t))).2):=by
  rw[(wq (by rw[F8];simp only[zD,zj];omega)).1,P0,ru,rX]
 rw[(wq (s:=s) (by omega)).1,Ys,e2,Ys,e3,Ys,e4,Ys];simp only[jn];generalize hR:(J6 c0 (R8 [] [] (Y9 s))).2=R at hA;generalize (J6 (J6 c0 (R8 [] [] (Y9 s))).1 (R8 [] [] (Y9 t))).2=R2;have hge:decide (((R++R2).length:Int)>=(R.length:Int))=true:=by rw[zD,ut];omega
 refine uZ (λ(x:ByteArray × Int)=>∃k:Nat,x.2=(k:Int)/\k<=s.size/\x.1=s6 (xR ((Y9 s).take k))) (λx=>s.size-x.2.toNat) ⟨0,rfl,sm _,rfl⟩ (by simp only;omega) ?_;rintro⟨u,kk⟩ ⟨k,h1,h2,h3⟩;simp only at h1 h3;subst h1;subst h3;by_cases hk:k<s.size
 .obtain⟨b,hb⟩:∃b,(Y9 s)[k]? = some b:=⟨_,zc (by omega)⟩;have htk:(Y9 s).take (k+1)=(Y9 s).take k ++ [b]:=DV hb;have hel:=AP ((Y9 s).take k);rw[n9] at hel;refine .inl ⟨(s6 (xR ((Y9 s).take (k+1))),((k+1:Nat):Int)),?_,⟨k+1,rfl,hk,rfl⟩,by simp only[zW];omega⟩;rw[zb (by simpa using hk),UN hb,Ys,OX hb (by omega),htk,GK,Pd];have hcond:((((b.toNat:Int)==10)||((b.toNat:Int)==32))=true)↔(b=10\/b=32):=by
   rw[n7,wl,wl,show (10:UInt8)=UInt8.ofNat 10 from rfl,show (32:UInt8)=UInt8.ofNat 32 from rfl,xu (by decide),xu (by decide)];omega
  by_cases hc:b=10\/b=32
  .rw[zb (hcond.2 hc),zb hc,eM (by rw[F8,F8];simp only[zY];omega),Ys,Ys,eM (by rw[F8,F8];simp only[zD,zY,P0];omega),Ys,eM (by rw[F8,F8];simp only[zD,zY,P0];omega),Ys,p8];simp only[P0,pu];rfl
  .rw[za (λq=>hc (hcond.1 q)),za hc,Ys,eM (by rw[F8,F8];simp only[zY];omega),Ys,p8,P0,P0]
 .rw[za (by simpa using hk)];refine .inr ⟨_,rfl,?_⟩;have hke:(Y9 s).take k=Y9 s:=zap (by omega);have hel:=AP (Y9 s);have e5:nK (s6 (xR (Y9 s))) (s6 [32,10,13,10])=some (s6 (xR (Y9 s) ++ [32,10,13,10])):=by
   rw[eM (by rw[F8,F8];simp only[zj,zR];omega),P0,P0]
  have e6:L5 (s6 (xR (Y9 s) ++ [32,10,13,10]))=some R:=by
   rw[(wq (by rw[F8];simp only[zD,zj,zR];omega)).1,P0,nu,hR]
  have et:=Nk R (by omega);rw[hke,hge];simp only[ms,jQ,OY,Ys,et,Bool.and_self,e5,e6]
end Go.Sh
