/- A part. -/
import Derived.Test.YtppgkaeodaaidaaGreatDoorU3rT2
set_option linter.unusedVariables false
set_option linter.unusedSimpArgs false
set_option linter.unusedSectionVars false
namespace Go.Sh
theorem Lo{c:Int}(h:0<=c):1<=W5 c:=by unfold W5;split <;> (try split) <;> omega
theorem FK{x:Hp}(hR:SR x.S){h:Int}(hh:h∈lv x.S){k:Int}(hk:k∈lv x.S):(ob (gT x h).S k).Strong=if k=h then W5 (ob x.S k).Strong else (ob x.S k).Strong:=by
 have oko:=J5 hR hh;have ho:xQ x.S (dO (ob x.S h)):=⟨oko.s1,oko.s2,oko.st,oko.wk,oko.p1,oko.p2,oko.fl⟩;have r1:=bw (o:=dO (ob x.S h)) hR hh rfl ho;have l1:lv (cL x.S h (dO (ob x.S h)))=lv x.S:=fH (o:=dO (ob x.S h)) hR hh rfl ho;have hr:=I3 hR hk;have e1:(ob (cL x.S h (dO (ob x.S h))) k).Strong=(ob x.S k).Strong:=by
  rw[eh (o:=dO (ob x.S h)) hR hh rfl ho (by omega)];split;·rename_i e;subst e;rfl
  .rfl
 have:=tU (x:=⟨cL x.S h (dO (ob x.S h)),x.Roots,x.a8,x.T,⟨x.Q.L ++ [um x h],x.Q.Cap⟩⟩) r1 (h:=h) (f:=W5) (λc=>E0) (k:=k) (by
  show k∈lv (cL x.S h (dO (ob x.S h)));rw[l1];exact hk)
 rw[show (ob (gT x h).S k).Strong=_ from this];show (if k=h then W5 (ob (cL x.S h (dO (ob x.S h))) k).Strong else (ob (cL x.S h (dO (ob x.S h))) k).Strong)=_;rw[e1]
theorem UP{x:Hp}(hx:O4 x)(hz:zr x = []){h:Int}(hh:h∈lv x.S):zr (gT x h) = []:=za4.2 λk hk=>by
 obtain⟨a,b⟩:=cg.1 hk;rw[BC hx.sh.sr hh] at a;rw[FK hx.sh.sr hh a] at b;have h0:=(J5 hx.sh.sr a).st;have hn:(ob x.S k).Strong≠0:=λq=>by
  have:k∈zr x:=cg.2 ⟨a,q⟩;rw[hz] at this;cases this
 split at b;·have:=Lo h0;omega
 .exact hn b
structure Qd (x y:Hp) (l:List Int):Prop where
 rt:O4 y
 sl:SL y
 zr:zr y = []
 lv:lv y.S=lv x.S
 ob:∀k∈Sh.lv x.S,∃n,Sh.ob y.S k=Ak (if k∈l then dO (Sh.ob x.S k) else Sh.ob x.S k) n
 ro:y.Roots=x.Roots
 ce:y.a8=x.a8
 t:y.T=x.T
 q:y.Q=⟨x.Q.L++l.map (um x),x.Q.Cap⟩
 R9:y.S.Serial=x.S.Serial
theorem QC{x:Hp}(hR:SR x.S){h:Int}(hh:h∈lv x.S):(gT x h).S.Serial=x.S.Serial:=(lP hR hh).1.R9
theorem FL:∀(l:List Int) {x:Hp},O4 x->SL x->Sh.zr x = []->l.Nodup->(∀h∈l,h∈Sh.lv x.S/\due (Sh.ob x.S h)=true)->Qd x (l.foldl gT x) l
 | [],x,hx,hS,hz,_,_=>⟨hx,hS,hz,rfl,λk hk=>⟨(Sh.ob x.S k).Strong,by rw[za (by simp)];rfl⟩,rfl,rfl,rfl,by simp,rfl⟩
 | h::l,x,hx,hS,hz,hn,hd=>by
  obtain⟨hl,hdu⟩:=hd h (zh ..);have hR:=hx.sh.sr;rw[zau] at hn;have q2:=hdu;unfold due at q2;rw[zk,zK,za6] at q2;have h1:=tF hx hl q2.1 q2.2;have h2:=MG hR hS hl;have h3:=UP hx hz hl;have lq:=BC hR hl;have oq:∀k∈Sh.lv x.S,k≠h->∃n,Sh.ob (gT x h).S k=Ak (Sh.ob x.S k) n:=λk hk hne=>by
   obtain⟨n,e⟩:=xb hR hl hk;rw[za hne] at e;exact⟨n,e⟩
  have ih:=FL l h1 h2 h3 hn.2 λk hk=>by
   obtain⟨a,b⟩:=hd k (zo _ hk);obtain⟨n,e⟩:=oq k a λe=>hn.1 (e▸hk);refine⟨by rw[lq];exact a,?_⟩;rw[e];exact b
  obtain⟨_,k1,k2,k3,k4⟩:=lP hR hl;refine⟨ih.rt,ih.sl,ih.zr,ih.lv.trans lq,λk hk=>?_,ih.ro.trans k1,ih.ce.trans k2,ih.t.trans k3,?_,ih.R9.trans (QC hR hl)⟩
  .obtain⟨n,e⟩:=ih.ob k (by rw[lq];exact hk);obtain⟨m,e2⟩:=xb hR hl hk;refine⟨n,?_⟩;show Sh.ob (l.foldl gT (gT x h)).S k=_;rw[e];by_cases c:k=h
   .subst c;rw[za hn.1,zb (zh ..),e2,zb rfl]
   .rw[za c] at e2;by_cases c2:k∈l
    .rw[zb c2,zb (zo _ c2),e2]
    .rw[za c2,za (λq=>by
      rcases zL.1 q with r | r
      .exact c r
      .exact c2 r),e2]
  .show (l.foldl gT (gT x h)).Q=_;rw[ih.q,k4];have:l.map (um (gT x h))=l.map (um x):=zO λk hk=>by
    obtain⟨a,_⟩:=hd k (zo _ hk);obtain⟨n,e⟩:=oq k a λe=>hn.1 (e▸hk);show (⟨1,k,(Sh.ob (gT x h).S k).Prog⟩:n0)=⟨1,k,(Sh.ob x.S k).Prog⟩;rw[e]
   rw[this];simp
noncomputable def nb(x:Hp):List Int:=(eE x).filter λh=>due (Sh.ob x.S h)
noncomputable def EM(x:Hp):Hp:=if nb x = [] then gk x (eE x) else (nb x).foldl gT x
theorem AF{x:Hp}:∀h∈nb x,h∈Sh.lv x.S/\due (Sh.ob x.S h)=true:=λh hh=>by
 obtain⟨a,b⟩:=zB.1 hh;exact⟨(aY.1 a).1,b⟩
theorem Km{x:Hp}(hx:O4 x):(nb x).Nodup:=zb2 _ (gI hx)
theorem Ko{x:Hp}(hx:O4 x)(hS:SL x)(hz:zr x = []):Qd x ((nb x).foldl gT x) (nb x):=FL _ hx hS hz (Km hx) AF
theorem EN{x:Hp}(hx:O4 x)(hS:SL x)(hz:zr x = []):O4 (EM x)/\SL (EM x)/\zr (EM x) = []:=by
 unfold EM;split;·exact⟨dW hx,Kp hx.sh.sr hS (gI hx) (gH hx),CJ (dW hx) (CT hx)⟩
 .have q:=Ko hx hS hz;exact⟨q.rt,q.sl,q.zr⟩
theorem Tj{y:Hp}(h:nb y = []):EM y=gk y (eE y):=by
 unfold EM;rw[zb h]
section
variable{x:Hp}(hx:O4 x)
include hx
end
structure Rs (x:Hp) (n:Nat):Prop where
 rt:O4 x
 sl:SL x
 zr:zr x = []
 R9:x.S.Serial<=n
section
variable{x:Hp}(hx:O4 x)(hS:SL x)
include hx hS
theorem Kt:S0 x=some (eE x):=by
 have hB:=Wo hx hS;unfold S0;rw[Ff (y6.2 hx.sh.sr) hx.sh.hr hB.tb hB.fb hB.sb];rfl
theorem AY:(eE x).length<=24:=rx (wt ..) (M7 (y6.2 hx.sh.sr))
theorem Td:ez x=some (nb x):=by
 have hR:=hx.sh.sr;have hl:=AY hx hS;unfold ez;rw[Kt hx hS,YK];unfold H6;simp only[jn];refine Cv (a:=nb x) ?_ rfl;refine Y2 (eE x).length (λk b=>b=((eE x).take k).filter λh=>due (Sh.ob x.S h)) (by omega) rfl (λk b hk hP=>?_) (λb hP=>?_)
 .subst hP;have hm:=gH hx _ (zl hk);have hle:(((eE x).take k).filter λh=>due (Sh.ob x.S h)).length<=24:=rx (wt ..) (by simp;omega);refine .inl ⟨_,?_,rfl⟩;rw[zb (by simpa using hk),u9 hk,YK,T0 hk,zas];unfold fw;rw[tf hR hm,YK,YK];have e:(decide ((ob x.S (eE x)[k],(0:Int)).1.Prog>=0) && !(ob x.S (eE x)[k],(0:Int)).1.Started)=due (ob x.S (eE x)[k]):=rfl;rw[e];cases hd:due (ob x.S (eE x)[k])
  .rw[za (by simp),o9];simp[hd]
  .rw[zb rfl,C4 (by omega) (by simp;omega),YK,o9];simp[hd]
 .subst hP;refine⟨_,za (by simp),?_⟩;rw[zY];rfl
noncomputable def Pg(x:Hp):Int:=if nb x = [] then ((lv x.S).length:Int)-((lv (EM x).S).length:Int) else 0
omit hx hS in
theorem Uc {l:List Int} (hn:l.Nodup) (hm:∀d∈l,d∈lv x.S):Wx x l=l:=by
 have key:∀(l b:List Int),(b++l).Nodup->(∀d∈l,d∈lv x.S)->l.foldl (λb h=>if h∈lv x.S/\h∉b then b ++ [h] else b) b=b++l:=by
  intro l;induction l with
  | nil=>intro b _ _;simp
  | cons a l ih=>
   intro b hn hm;rw[zat];have ha:a∉b:=λq=>by
    rw[zb5] at hn;exact hn.2.2 a q a (zh ..) rfl
   rw[zb ⟨hm a (zh ..),ha⟩,ih (b ++ [a]) (by simpa using hn) λd hd=>hm d (zo _ hd)];simp
 exact key l [] (by simpa using hn) hm
variable(hz:zr x = [])
include hz
theorem Rb{k:Nat}(hk:k<(nb x).length):(((nb x).take k).foldl gT x)=(((nb x).take k).foldl gT x)/\O4 (((nb x).take k).foldl gT x)/\SL (((nb x).take k).foldl gT x)/\(nb x)[k]∈lv (((nb x).take k).foldl gT x).S/\due (ob (((nb x).take k).foldl gT x).S (nb x)[k])=true:=by
 have hn:=Km hx;have q:=FL ((nb x).take k) hx hS hz ((List.take_sublist ..).nodup hn) λh hh=>AF h (mt hh);obtain⟨a,b⟩:=AF (nb x)[k] (zl hk);refine⟨rfl,q.rt,q.sl,by rw[q.lv];exact a,?_⟩;obtain⟨n,e⟩:=q.ob _ a;have hnot:(nb x)[k]∉(nb x).take k:=λh=>by
  have:=T0 hk;have hs:((nb x).take (k+1)).Nodup:=(List.take_sublist ..).nodup hn;rw[this,zb5] at hs;exact hs.2.2 _ h _ (List.mem_singleton_self _) rfl
 rw[e,za hnot];exact b
theorem GK:(nb x).length<=24:=rx (wt ..) (AY hx hS)
theorem Ti:Y9 x=some (EM x,((nb x).length:Int),Pg x):=by
 have hR:=hx.sh.sr;have hl:=GK hx hS hz;obtain⟨c1,c2,c3⟩:=EN hx hS hz;unfold Y9;rw[Td hx hS,YK];simp only[jn];refine Y2 (nb x).length (λk b=>b=((nb x).take k).foldl gT x) (by omega) rfl (λk b hk hP=>?_) (λb hP=>?_)
 .subst hP;obtain⟨_,r1,r2,r3,r4⟩:=Rb hx hS hz hk;refine .inl ⟨_,?_,rfl⟩;rw[zb (by simpa using hk),u9 hk,YK,yZ r1 r2 (gO r1.sh.sr r3),YK,o9,T0 hk,za5];unfold UN;rw[zb ⟨r3,r4⟩];rfl
 .subst hP;refine⟨_,za (by simp),?_⟩;rw[zY];by_cases hb:nb x = []
  .have e:EM x=gk x (eE x):=Tj hb;rw[za (by simp[hb])];unfold Pg;rw[zb hb,e,hb];have h1:=gI hx;have h2:=gH hx;have hlive:=df (y6.2 hR);have hlive2:=df (y6.2 (dW hx).sh.sr);have l1:=M7 (y6.2 hR);have l2:=M7 (y6.2 (dW hx).sh.sr);show (S0 x).bind _=_;rw[Kt hx hS,YK,List.foldl_nil,GL hx h1 h2 (QN hx) (by rw[rC hR _ (by have:=AY hx hS;omega) λh hh=>gO hR (h2 h hh),Uc h1 h2]),YK,gv (dW hx) (by rw[<-e];exact c2),YK,Fg hx,hlive,YK,hlive2,YK,F9 (by omega) (by omega)];rfl
  .have:0<(nb x).length:=List.length_pos_iff.2 hb;rw[zb (by simp;omega)];unfold Pg EM;rw[za hb,za hb]
end
theorem Pm{x:Hp}(hx:O4 x)(hS:SL x)(hz:zr x = []):(EM x).S.Serial=x.S.Serial:=by
 unfold EM;split
 .have g:=db (eE x) hx.sh.sr (gI hx) (gH hx);exact (hU ((eE x).flatMap (outs x.S)++(mA x.T (eE x)).2) (x:=iy x (eE x) (mA x.T (eE x)).1) g.sr).1.R9.trans g.R9
 .exact (Ko hx hS hz).R9
def Sv(s s':a7):Prop:=s'.S.a8.length=s.S.a8.length/\∀i,i<s.S.a8.length->(ce s i).Gen<=(ce s' i).Gen/\((ce s' i).Gen=(ce s i).Gen->((ce s i).State≠0->(ce s' i).State≠0)/\((ce s' i).State=1->(ce s i).State=0\/((ce s i).State=1/\((ce s i).Val.Started=true->(ce s' i).Val.Started=true))))
theorem Sv.refl(s:a7):Sv s s:=⟨rfl,λi _=>⟨n8 _,λ_=>⟨id,λh=>.inr ⟨h,id⟩⟩⟩⟩
theorem Sv.trans{a b c:a7}(h:Sv a b)(q:Sv b c):Sv a c:=by
 obtain⟨h1,h2⟩:=h;obtain⟨q1,q2⟩:=q;refine⟨q1.trans h1,λi hi=>?_⟩;obtain⟨a1,a2⟩:=h2 i hi;obtain⟨b1,b2⟩:=q2 i (by omega);refine⟨by omega,λe=>?_⟩;obtain⟨a3,a4⟩:=a2 (by omega);obtain⟨b3,b4⟩:=b2 (by omega);refine⟨λh=>b3 (a3 h),λh=>?_⟩;rcases b4 h with r | ⟨r,r'⟩
 .exact .inl (or λn=>a3 n r)
 .rcases a4 r with k | ⟨k,k'⟩
  .exact .inl k
  .exact .inr ⟨k,λs=>r' (k' s)⟩
def Gl(s:a7)(h:Int):Prop:=∃(i:Nat) (g:Int),i<s.S.a8.length/\h=1+(i:Int)+32*g/\(g<(ce s i).Gen\/(g=(ce s i).Gen/\(ce s i).State≠0/\((ce s i).State=1->(ce s i).Val.Started=true)))
theorem Sv.Xj{s s':a7}(h:Sv s s'){k:Int}(q:Gl s k):Gl s' k:=by
 obtain⟨i,g,hi,e,q⟩:=q;obtain⟨h1,h2⟩:=h;obtain⟨a,b⟩:=h2 i hi;refine⟨i,g,by omega,e,?_⟩;rcases q with q | ⟨q1,q2,q3⟩
 .exact .inl (by omega)
 .by_cases c:(ce s' i).Gen=(ce s i).Gen
  .obtain⟨b1,b2⟩:=b c;refine .inr ⟨by omega,b1 q2,λr=>?_⟩;rcases b2 r with k | ⟨k1,k2⟩
   .exact absurd k q2
   .exact k2 (q3 k1)
  .exact .inl (by omega)
theorem JA{s:a7}(hR:SR s){h:Int}(hh:h∈lv s)(hs:(ob s h).Started=false):¬Gl s h:=by
 rintro⟨i,g,hi,e,q⟩;obtain⟨j,hj⟩:=(fJ hR).1 hh;have hl:=hR.len;have hij:i=j:=by
  have:=hj.2.2;have:=hj.1;omega
 subst hij;have:=hj.2.2;rcases q with q | ⟨q1,q2,q3⟩
 .omega
 .rw[Q2 hR hj,q3 hj.2.1] at hs;cases hs
theorem uC.sv{s s':a7}(hR:SR s)(k:uC s s'):Sv s s':=⟨k.len,λi hi=>by
 obtain⟨a,b,_,_,_⟩:=k.ce i hi;refine⟨by omega,λ_=>⟨by omega,λh=>.inr ⟨by omega,λq=>?_⟩⟩⟩;have h1:At s (dF s i) i:=⟨hi,by omega,rfl⟩;have h2:At s' (dF s i) i:=⟨by rw[k.len];exact hi,h,by rw[b];rfl⟩;have hl:=I3 hR ((fJ hR).2 ⟨i,h1⟩);obtain⟨n,e⟩:=k.ob (dF s i) (by omega);rw[Q2 k.sr h2,Q2 hR h1] at e;rw[e];exact q⟩
theorem Nf{s:a7}(hR:SR s){h:Int}(hh:h∈lv s){o:p7}(hs:o.Serial=(ob s h).Serial)(ho:xQ s o)(hst:(ob s h).Started=true->o.Started=true):Sv s (cL s h o):=⟨HZ s h o,λi hi=>by
 have q:=A3 hR hh;rw[BX hR hh hs ho];split
 .rename_i e;subst e;refine⟨n8 _,λ_=>⟨id,λr=>.inr ⟨q.2.1,λk=>hst ?_⟩⟩⟩;rw[Q2 hR q];exact k
 .exact⟨n8 _,λ_=>⟨id,λr=>.inr ⟨r,id⟩⟩⟩⟩
theorem LQ{s:a7}(hR:SR s){i:Nat}(hi:i<s.S.a8.length)(ht:Th (ce s i))(d:Int):Sv s (oM s i d):=⟨N8 ..,λj hj=>by
 rw[fC hR hi ht];split
 .rename_i e;subst e;exact⟨n8 _,λ_=>⟨id,λr=>.inr ⟨r,id⟩⟩⟩
 .exact⟨n8 _,λ_=>⟨id,λr=>.inr ⟨r,id⟩⟩⟩⟩
theorem TK{s:a7}{i:Nat}(hi:i<s.S.a8.length):Sv s (yG s i):=⟨Z5 ..,λj hj=>by
 unfold yG;rw[L4 hi];by_cases e:j=i
 .subst e;rw[zb rfl];split;·exact⟨n8 _,λ_=>⟨λ_=>(by decide:(3:Int)≠0),λr=>absurd (show (3:Int)=1 from r) (by decide)⟩⟩
  .refine⟨by show _<=(ce s j).Gen+1;omega,λr=>?_⟩;have:(ce s j).Gen+1=(ce s j).Gen:=r;omega
 .rw[za e];exact⟨n8 _,λ_=>⟨id,λr=>.inr ⟨r,id⟩⟩⟩⟩
theorem Gn.sv{s s':a7}{ds:List Int}(g:Gn s s' ds):Sv s s':=⟨g.len,λj hj=>by
 rw[g.ce];split
 .unfold JN;split
  .split;·exact⟨n8 _,λ_=>⟨λ_=>(by decide:(3:Int)≠0),λr=>absurd (show (3:Int)=1 from r) (by decide)⟩⟩
   .refine⟨by show _<=(Sh.ce s j).Gen+1;omega,λr=>?_⟩;have:(Sh.ce s j).Gen+1=(Sh.ce s j).Gen:=r;omega
  .exact⟨n8 _,λ_=>⟨λ_=>(by decide:(2:Int)≠0),λr=>absurd (show (2:Int)=1 from r) (by decide)⟩⟩
 .exact⟨n8 _,λ_=>⟨id,λr=>.inr ⟨r,id⟩⟩⟩⟩
theorem WH{s:a7}(hR:SR s){i:Nat}(hi:i<s.S.a8.length)(h0:(ce s i).State=0){n:Nat}(hn:n<=4){p:Int}(hp : -1<=p/\p<=5):Sv s (eK s i n p):=⟨jy hR hi h0 hn hp,λj hj=>by
 rw[mJ hR hi h0 hn hp];split
 .rename_i e;subst e;exact⟨n8 _,λ_=>⟨λr=>absurd h0 r,λ_=>.inl h0⟩⟩
 .exact⟨n8 _,λ_=>⟨id,λr=>.inr ⟨r,id⟩⟩⟩⟩
theorem FU{x:Hp}(hR:SR x.S)(h:Int):Sv x.S (C7 x h).S:=(G3 hR h (f:=W5) λc=>E0).sv hR
theorem BS{x:Hp}(hR:SR x.S)(h:Int):Sv x.S (R8 x h).S:=(G3 hR h (f:=jI) λc=>P3).sv hR
theorem DL{x:Hp}(hR:SR x.S)(r:Nat)(h:Int):Sv x.S (H7 x r h).S:=
 (FU hR h).trans (BS (x:=wR (C7 x h) (x.Roots.set r h)) (ig hR h) _)
theorem IP{x:Hp}(hR:SR x.S){h:Int}(hh:h∈lv x.S){n:Nat}(hn:n<(ob x.S h).Fields.length)(v:Int):Sv x.S (bS x h n v).S:=by
 have k1:=BV hR v;have hh1:h∈lv (C7 x v).S:=by rw[k1.lv];exact hh
 have hof:(ob (C7 x v).S h).Fields=(ob x.S h).Fields:=by
  obtain⟨n,e⟩:=(G3 hR v (f:=W5) λc=>E0).ob h (by have:=I3 hR hh;omega);show (ob (sz x v W5).S h).Fields=_;rw[e]
 have ho:xQ (C7 x v).S (oG (ob (C7 x v).S h) ((ob x.S h).Fields.set n v)):=by
  have:=J5 k1.sr hh1;refine⟨this.s1,this.s2,this.st,this.wk,this.p1,this.p2,?_⟩;have h4:=this.fl;rw[hof] at h4;simpa using h4
 have k2:=Nf (o:=oG (ob (C7 x v).S h) ((ob x.S h).Fields.set n v)) k1.sr hh1 rfl ho id;exact ((FU hR v).trans k2).trans (BS (x:=wS (C7 x v) (cL (C7 x v).S h (oG (ob (C7 x v).S h) ((ob x.S h).Fields.set n v)))) (bw (o:=oG (ob (C7 x v).S h) ((ob x.S h).Fields.set n v)) k1.sr hh1 rfl ho) _)
theorem Mv{x:Hp}(hR:SR x.S)(v:Int)(t:Tb)(old:Int):Sv x.S (jX x v t old).S:=
 (FU hR v).trans (BS (x:=wT (C7 x v) t) (ig hR v) old)
theorem Uh{x:Hp}(hR:SR x.S)(h d:Int):Sv x.S (jV x h d).S:=by
 unfold jV;split
 .rename_i q;exact LQ hR q.1 q.2.1 d
 .exact Sv.refl _
theorem Ri{x:Hp}(hR:SR x.S)(h:Int):Sv x.S (od x h).S:=by
 unfold od;split
 .rename_i q;have k:=LQ hR q.1 q.2.1 (-1);split;·exact k.trans (TK (by rw[k.1];exact q.1))
  .exact k
 .exact Sv.refl _
theorem NG{x:Hp}(hx:O4 x)(n:Nat)(h call:Int):Sv x.S (dP x n h call).S:=by
 have hR:=hx.sh.sr;unfold dP;have s1:Sv x.S (jV (wC x (x.a8.set n (jf h call))) h 1).S:=Uh (x:=wC x (x.a8.set n (jf h call))) hR h 1;refine s1.trans (Ri ?_ _);unfold jV;split
 .rename_i q;have:=(hR.ok _ q.1 q.2.1).wk;exact wJ hR q.1 q.2.1 (by omega)
 .exact hR
theorem Te{x:Hp}(hR:SR x.S){ds:List Int}(hn:ds.Nodup)(hm:∀d∈ds,d∈lv x.S):Sv x.S (gk x ds).S:=by
 have g:=db ds hR hn hm;exact g.sv.trans ((hU (ds.flatMap (outs x.S)++(mA x.T ds).2) (x:=iy x ds (mA x.T ds).1) g.sr).1.sv g.sr)
theorem UO{x:Hp}(hR:SR x.S){h:Int}(hh:h∈lv x.S):Sv x.S (gT x h).S:=by
 have oko:=J5 hR hh;have ho:xQ x.S (dO (ob x.S h)):=⟨oko.s1,oko.s2,oko.st,oko.wk,oko.p1,oko.p2,oko.fl⟩;exact (Nf (o:=dO (ob x.S h)) hR hh rfl ho λ_=>rfl).trans ((lP hR hh).1.sv (bw (o:=dO (ob x.S h)) hR hh rfl ho))
theorem Vm{x:Hp}(hx:O4 x):Sv x.S (Ii x).S:=by
 cases h:zr x with
 | nil=>rw[pa h];exact Sv.refl _
 | cons z l=>
  have hz:z∈zr x:=by rw[h];exact zh ..
  have hzl:=(cg.1 hz).1;rw[il h];split;·exact UO hx.sh.sr hzl
  .exact Te hx.sh.sr (by simp) (by simpa using hzl)
theorem Vj{x:Hp}(hx:O4 x)(n:Nat):Sv x.S (uO n x).S:=by
 induction n with
 | zero=>exact Sv.refl _
 | succ n ih=>rw[dB];exact ih.trans (Vm (bj hx n))
theorem QV{x:Hp}(hx:O4 x):Sv x.S (dy x).S:=Vj hx 100
structure qF (x y:Hp):Prop where
 sv:Sv x.S y.S
 q:∃l,y.Q=⟨x.Q.L++l,x.Q.Cap⟩/\∀t∈l,t.Kind=1->¬Gl x.S t.At
theorem qF.of{x y:Hp}(h:Sv x.S y.S)(q:y.Q=x.Q):qF x y:=⟨h,[],by rw[q,pm],λt ht=>by cases ht⟩
theorem qF.refl(x:Hp):qF x x:=qF.of (Sv.refl _) rfl
theorem qF.trans{x y z:Hp}(a:qF x y)(b:qF y z):qF x z:=by
 obtain⟨l,q1,q2⟩:=a.q;obtain⟨m,r1,r2⟩:=b.q;refine⟨a.sv.trans b.sv,l++m,by rw[r1,q1,p0],λt ht hk=>?_⟩;rcases zy.1 ht with h | h
 .exact q2 t h hk
 .exact λs=>r2 t h hk (a.sv.Xj s)
theorem BZ{x:Hp}(hx:O4 x):qF x (dy x):=by
 obtain⟨l,q1,q2,_⟩:=(nT hx).q;exact⟨QV hx,l,q1,λt ht hk=>JA hx.sh.sr (q2 t ht hk).1 (q2 t ht hk).2⟩
theorem hZ{x:Hp}(hR:SR x.S)(r:Nat)(h:Int):qF x (H7 x r h):=qF.of (DL hR r h) (ic x r h).2.2.2
theorem We{x:Hp}(hx:O4 x)(hS:SL x)(hz:zr x = [])(hb:x.S.Serial<9223372036854775807)(o:e6):(∃e,Er x o e)\/∃z v,Dn x o z v/\qF x z:=by
 have hR:=hx.sh.sr;obtain⟨k,a,b,c⟩:=o;by_cases hc:B0 k a b c=0
 .have:=Bl hc;have hk:k=1\/k=2\/k=3\/k=4\/k=5\/k=6\/k=7\/k=8\/k=9\/k=10\/k=11\/k=12:=by omega
  rcases hk with rfl | rfl | rfl | rfl | rfl | rfl | rfl | rfl | rfl | rfl | rfl | rfl
  .rcases d1 hx hS hb hc with ⟨e,_,h⟩ | ⟨hn,hcc,i,hF,h⟩;·exact .inl ⟨e,h⟩
   .obtain⟨hi,h0,_⟩:=hF;have k1:qF x (wS x (eK x.S i b.toNat c)):=qF.of (WH hR hi h0 hn hcc) rfl;exact .inr ⟨_,_,h,k1.trans (hZ (x:=wS x (eK x.S i b.toNat c)) (Dm hR hi h0 hn hcc) _ _)⟩
  .exact .inr ⟨_,_,d2 hx hS hc,hZ hR _ _⟩
  .exact .inr ⟨_,_,d3 hx hS hc,hZ hR _ _⟩
  .rcases d4 hx hS hc with ⟨_,h⟩ | ⟨e,_,h⟩ | ⟨_,n,_,_,h⟩;·exact .inl ⟨_,h⟩
   .exact .inl ⟨_,h⟩
   .exact .inr ⟨_,_,h,hZ hR _ _⟩
  .rcases d5 hx hS hc with ⟨_,h⟩ | ⟨e,_,h⟩ | ⟨hl,n,_,hn,h⟩;·exact .inl ⟨_,h⟩
   .exact .inl ⟨_,h⟩
   .exact .inr ⟨_,_,h,qF.of (IP hR hl hn _) (nn _ _ _ _).2.2.2⟩
  .rcases d6 hx hS hc with ⟨_,h⟩ | ⟨e,_,h⟩ | ⟨_,h⟩;·exact .inl ⟨_,h⟩
   .exact .inl ⟨_,h⟩
   .exact .inr ⟨_,_,h,qF.of (NG hx _ _ _) (xG _ _ _ _).2.2.2⟩
  .obtain⟨_,⟨_,h⟩ | ⟨_,h⟩⟩:=d7 hx hS hc;·exact .inl ⟨_,h⟩
   .exact .inr ⟨_,_,h,hZ hR _ _⟩
  .rcases d8 hx hS hc with ⟨_,h⟩ | ⟨_,e,_,h⟩ | ⟨_,r,_,_,h⟩;·exact .inl ⟨_,h⟩
   .exact .inl ⟨_,h⟩
   .exact .inr ⟨_,_,h,qF.of (Mv hR _ _ _) (qv _ _ _ _).2.2.2⟩
  .rcases d9 hx hS hc with ⟨_,h⟩ | ⟨_,_,h⟩ | ⟨_,v,_,h⟩;·exact .inl ⟨_,h⟩
   .exact .inl ⟨_,h⟩
   .exact .inr ⟨_,_,h,hZ hR _ _⟩
  .exact .inr ⟨_,_,d10 hx hS hz hc,qF.refl x⟩
  .obtain⟨h1,h2⟩:=sV (x:=x) (a:=a) (b:=b) (c:=c) (.inl rfl) hc;exact .inl ⟨14,by decide,h1,h2⟩
  .obtain⟨h1,h2⟩:=sV (x:=x) (a:=a) (b:=b) (c:=c) (.inr rfl) hc;exact .inl ⟨14,by decide,h1,h2⟩
 .obtain⟨h1,h2⟩:=ES (x:=x) (o:=⟨k,a,b,c⟩) hc;exact .inl ⟨_,hc,h1,h2⟩
theorem Tq{x:Hp}(hx:O4 x)(hS:SL x)(hz:zr x = [])(hb:x.S.Serial<9223372036854775807)(o:e6):qF x (ub x o).1:=by
 rcases We hx hS hz hb o with ⟨e,_,h,_⟩ | ⟨z,v,d,f⟩
 .have:ub x o=(x,0,e):=by unfold ub;rw[h];rfl
  rw[this];exact qF.refl x
 .have:ub x o=(dy z,v,0):=by unfold ub;rw[d.mc];rfl
  rw[this];exact f.trans (BZ d.rt)
theorem Xf{x:Hp}(h1:mP x)(h2:Wk x){L:List Int}(h3:ck x L){r:Nat}(hr:r<6){h:Int}(hh:h=0\/h∈lv x.S):mP (H7 x r h)/\Wk (H7 x r h)/\ck (H7 x r h) L:=by
 have xZ:=G3 h1.sr h (f:=W5) λc=>E0;have l1:lv (C7 x h).S=lv x.S:=xZ.lv;have f1:ck (C7 x h) (h::L):=DM h1.sr h3 h;have s1:mP (C7 x h):=h1.st h (f:=W5) λc=>E0;have s2:mP (wR (C7 x h) (x.Roots.set r h)):=s1.roots (by rw[zao];exact h1.r6) λv hv=>by
  rw[l1];rcases zak hv with q | q
  .exact h1.rt v q
  .exact q▸hh
 have w1:Wk (C7 x h):=h2.st h1.sr h (f:=W5) λc=>E0;have one:∀v k,aE [v] k=if v=k/\k≠0 then 1 else 0:=λv k=>by rw[G7,R5,zag]
 have f2:ck (wR (C7 x h) (x.Roots.set r h)) (x.Roots.getD r 0::L):=f1.mv rfl (λ_ _=>rfl) λk hk=>by
  have:=vA (l:=x.Roots) (r:=r) (by rw[h1.r6];exact hr) h k;rw[one,one] at this;rw[tO x h];unfold po pq;dsimp only;rw[L1,L1,tW,tW,G7 h L,G7 (x.Roots.getD r 0) L];omega
 exact⟨s2.st _ λc=>P3,Wk.st (x:=wR (C7 x h) (x.Roots.set r h)) w1 s2.sr _ λc=>P3,sj (x:=wR (C7 x h) (x.Roots.set r h)) s2.sr f2⟩
abbrev xO(x:Hp)(ts:List n0):Hp:=wQ x ⟨ts,x.Q.Cap⟩
noncomputable def wa(x:Hp)(ts:List n0)(h:Int):Hp:=R8 (H7 (xO x ts) 5 h) h
section
variable{x:Hp}(hx:O4 x){t:n0}{ts:List n0}(hq:x.Q.L=t::ts)
include hx hq
theorem Ge:mP (xO x ts):=by
 have h:=hx.sh;refine⟨h.sr,h.hr,h.r6,h.c6,h.cap,?_,λu hu=>h.tk u (by rw[hq];exact zo _ hu),?_,h.rt,h.fl,h.pr,λi hi=>?_⟩
 .have:=h.q30;rw[hq,zj] at this;show ts.length<=30;omega
 .have:=h.td;rw[hq,t6] at this;exact this.2
 .obtain⟨a,b,c,d,e⟩:=h.cl i hi;refine⟨a,b,c,d,λq=>⟨(e q).1,?_⟩⟩;have:=(e q).2;rw[zbe] at this |-;intro r;obtain⟨u,hu,k1,k2⟩:=jg.1 r;exact this (jg.2 ⟨u,by rw[hq];exact zo _ hu,k1,k2⟩)
theorem Eh:ck (xO x ts) (if t.Kind=1 then [t.At] else []):=hx.fair.mv rfl (λ_ _=>rfl) λh _=>by
 unfold po pq xX;dsimp only;rw[hq,m7];by_cases k:t.Kind=1
 .rw[zb k,zb (by simpa using k),ww,L1,L1,G7 t.At (List.map _ _),G7 t.At [],R5];omega
 .rw[za k,za (by simpa using k),R5]
theorem EJ(hk:t.Kind≠1):O4 (xO x ts):=⟨Ge hx hq,hx.wk,by have:=Eh hx hq;rwa [za hk] at this⟩
theorem KS(hk:t.Kind=1):t.At∈lv x.S/\(ob x.S t.At).Started=true:=by
 rcases (hx.sh.tk t (by rw[hq];exact zh ..)).2.2 with ⟨_,b,c⟩ | ⟨b,_⟩;·exact⟨b,c⟩
 .omega
theorem oB(hk:t.Kind=1):O4 (wa x ts t.At):=by
 have f:=Eh hx hq;rw[zb hk] at f;obtain⟨a,b,c⟩:=Xf (Ge hx hq) (x:=xO x ts) hx.wk f (r:=5) (by decide) (.inr (KS hx hq hk).1);exact⟨a.st _ λc=>P3,b.st a.sr _ λc=>P3,sj a.sr c⟩
omit hq in
theorem KV (hS:SL x) (h:Int):SL (wa x ts h):=by
 have k:=km (x:=xO x ts) hx.sh.sr hS 5 h;exact BQ [h] (dx (x:=xO x ts) hx.sh.sr 5 h).sr k
omit hq in
theorem Tw (h:Int):Ks x.S (wa x ts h).S:=by
 have k:=dx (x:=xO x ts) hx.sh.sr 5 h;exact k.trans (BR k.sr h)
omit hq in
theorem KU (h:Int):(wa x ts h).Roots=x.Roots.set 5 h/\(wa x ts h).a8=x.a8/\(wa x ts h).T=x.T/\(wa x ts h).Q=⟨ts,x.Q.Cap⟩:=by
 obtain⟨a,b,c,d⟩:=xk (H7 (xO x ts) 5 h) h;obtain⟨a',b',c',d'⟩:=ic (xO x ts) 5 h;exact⟨a.trans a',b.trans b',c.trans c',d.trans d'⟩
omit hq in
theorem Tv (h:Int):qF (xO x ts) (wa x ts h):=qF.of ((DL (x:=xO x ts) hx.sh.sr 5 h).trans (BS (dx (x:=xO x ts) hx.sh.sr 5 h).sr h)) (KU hx h).2.2.2
end
def Jm(ps:List (List e6))(n:Int):List e6:=if n<0\/(ps.length:Int)<=n then [] else ps.getD n.toNat []
noncomputable def pre(x:Hp)(t:n0)(ts:List n0):Hp:=if t.Kind=1 then dy (wa x ts t.At) else xO x ts
noncomputable def VI(ps:List (List e6))(x:Hp)(t:n0)(ts:List n0):Hp:=(runs (pre x t ts) (Jm ps t.Prog)).1
noncomputable def NT(ps:List (List e6))(x:Hp)(t:n0)(ts:List n0):Hp:=if t.Kind=1 then dy (H7 (VI ps x t ts) 5 0) else VI ps x t ts
structure Oh (x:Hp):Prop where
 rt:O4 x
 sl:SL x
 zr:zr x = []
theorem VE.ok{x y:Hp}{o:e6}{v e:Int}(n:VE x o y v e):Oh y:=⟨n.rt,n.sl,n.zr⟩
theorem Ia{x:Hp}(h:O4 x)(s:SL x):Oh (dy x):=⟨en h,Ib h s,Ah h⟩
theorem MZ{x:Hp}(hx:Oh x)(l:List e6)(hb:x.S.Serial+l.length<9223372036854775807):Oh (runs x l).1/\qF x (runs x l).1/\(runs x l).1.S.Serial<=x.S.Serial+l.length/\(runs x l).2.length=l.length:=by
 have key:∀k,k<=l.length->Oh (runs x (l.take k)).1/\qF x (runs x (l.take k)).1/\(runs x (l.take k)).1.S.Serial<=x.S.Serial+k/\(runs x (l.take k)).2.length=k:=by
  intro k;induction k with
  | zero=>exact λ_=>⟨hx,qF.refl x,by show x.S.Serial<=_;omega,rfl⟩
  | succ k ih=>
   intro hk;obtain⟨a,b,c,d⟩:=ih (by omega);have hk':k<l.length:=by omega
   have n:=oN a.rt a.sl a.zr (by omega) l[k];rw[T0 hk',oX];exact⟨n.ok,b.trans (Tq a.rt a.sl a.zr (by omega) _),by have:=n.ev.s2;show (ub _ _).1.S.Serial<=_;omega,by simp[d]⟩
 have:=key l.length (zt _);rwa [zY] at this
section
variable{x:Hp}(hx:Oh x){t:n0}{ts:List n0}(hq:x.Q.L=t::ts)(ps:List (List e6))
include hx hq
theorem MD:Oh (pre x t ts):=by
 unfold pre;split
 .rename_i k;exact Ia (oB hx.rt hq k) (KV hx.rt hx.sl _)
 .rename_i k;exact⟨EJ hx.rt hq k,hx.sl,hx.zr⟩
theorem UF:qF (xO x ts) (pre x t ts):=by
 unfold pre;split
 .rename_i k;exact (Tv hx.rt _).trans (BZ (oB hx.rt hq k))
 .exact qF.refl _
theorem HC:(pre x t ts).S.Serial=x.S.Serial:=by
 unfold pre;split
 .rename_i k;rw[(nT (oB hx.rt hq k)).R9,(Tw hx.rt _).R9]
 .rfl
variable(hb:x.S.Serial+(Jm ps t.Prog).length<9223372036854775807)
include hb
theorem HJ:Oh (VI ps x t ts)/\qF (xO x ts) (VI ps x t ts)/\(VI ps x t ts).S.Serial<=x.S.Serial+(Jm ps t.Prog).length:=by
 have e:=HC hx hq;obtain⟨a,b,c,_⟩:=MZ (MD hx hq) (Jm ps t.Prog) (by rw[e];exact hb);exact⟨a,(UF hx hq).trans b,by rw[e] at c;exact c⟩
theorem Pq:Oh (NT ps x t ts)/\qF (xO x ts) (NT ps x t ts)/\(NT ps x t ts).S.Serial<=x.S.Serial+(Jm ps t.Prog).length/\(t.Kind=1->sd (NT ps x t ts) 5=0):=by
 obtain⟨a,b,c⟩:=HJ hx hq ps hb;unfold NT;split
 .have hz:=cH a.rt (r:=5) (by decide) (h:=0) (.inl rfl);have k:=dx a.rt.sh.sr 5 0;refine⟨Ia hz (km a.rt.sh.sr a.sl 5 0),(b.trans (hZ a.rt.sh.sr 5 0)).trans (BZ hz),?_,λ_=>(oV a.rt (a:=5) (by decide) (h:=0) (.inl rfl)).1⟩;rw[(nT hz).R9,k.R9];exact c
 .exact⟨a,b,c,λq=>absurd q (by assumption)⟩
end
def IJ(ps:List (List e6))(t:n0):Int:=1+((Jm ps t.Prog).length:Int)
def can(ps:List (List e6))(p:Hp × Int):Prop:=∃t ts,p.1.Q.L=t::ts/\IJ ps t<=p.2
noncomputable def Ul(ps:List (List e6))(p:Hp × Int):Hp × Int:=match p.1.Q.L with
 | []=>p
 | t::ts=>if IJ ps t<=p.2 then (NT ps p.1 t ts,p.2-IJ ps t) else p
noncomputable def dN(ps:List (List e6)):Nat->Hp × Int->Hp × Int
 | 0,p=>p
 | n+1,p=>dN ps n (Ul ps p)
section
variable(ps:List (List e6))
theorem AK(n:Nat)(p:Hp × Int):dN ps (n+1) p=Ul ps (dN ps n p):=by
 induction n generalizing p with
 | zero=>rfl
 | succ n ih=>exact ih (Ul ps p)
theorem Qc{p:Hp × Int}(h:p.1.Q.L = []):Ul ps p=p:=by unfold Ul;rw[h]
theorem wN{p:Hp × Int}{t:n0}{ts:List n0}(h:p.1.Q.L=t::ts):Ul ps p=if IJ ps t<=p.2 then (NT ps p.1 t ts,p.2-IJ ps t) else p:=by unfold Ul;rw[h]
theorem Kq{p:Hp × Int}{t:n0}{ts:List n0}(h:p.1.Q.L=t::ts):can ps p↔IJ ps t<=p.2:=by
 constructor
 .rintro⟨u,us,e,c⟩;rw[h] at e;injection e with e1 e2
  rw[e1];exact c
 .exact λc=>⟨t,ts,h,c⟩
theorem vc(t:n0):1<=IJ ps t:=by unfold IJ;omega
theorem GP{p:Hp × Int}(hb:0<=p.2):∃n:Nat,(n:Int)<=p.2/\¬can ps (dN ps n p)/\∀j,j<n->can ps (dN ps j p):=by
 have key:∀m:Nat,(∃n:Nat,n<=m/\¬can ps (dN ps n p))\/((dN ps m p).2+m<=p.2/\0<=(dN ps m p).2):=by
  intro m;induction m with
  | zero=>exact .inr ⟨by show p.2+((0:Nat):Int)<=_;omega,hb⟩
  | succ m ih=>
   rcases ih with ⟨n,h1,h2⟩ | ⟨h1,h2⟩;·exact .inl ⟨n,by omega,h2⟩
   .by_cases q:can ps (dN ps m p)
    .right;obtain⟨t,ts,e,c⟩:=q;have:=vc ps t;rw[AK,wN ps e,zb c];dsimp only;omega
    .exact .inl ⟨m,by omega,q⟩
 have hex:∃n:Nat,(n:Int)<=p.2/\¬can ps (dN ps n p):=by
  rcases key (p.2.toNat+1) with ⟨n,h1,h2⟩ | ⟨h1,h2⟩
  .rcases zD n (p.2.toNat+1) with q | q
   .exact⟨n,by omega,h2⟩
   .have hn:n=p.2.toNat+1:=by omega
    rcases key p.2.toNat with ⟨n,h1,h2⟩ | ⟨h1,h3⟩;·exact⟨n,by omega,h2⟩
    .refine⟨p.2.toNat,by omega,λ⟨t,ts,e,c⟩=>?_⟩;have:=vc ps t;omega
  .omega
 obtain⟨n,⟨hn,hz⟩,hmin⟩:=bR hex;refine⟨n,hn,hz,λj hj=>or λq=>?_⟩;have:=hmin j ⟨by omega,q⟩;omega
theorem EO{p:Hp × Int}(hx:Oh p.1)(hb:0<=p.2)(hs:p.1.S.Serial+p.2<9223372036854775807):∀n,Oh (dN ps n p).1/\0<=(dN ps n p).2/\(dN ps n p).2<=p.2/\(dN ps n p).1.S.Serial+(dN ps n p).2<=p.1.S.Serial+p.2
 | 0=>⟨hx,hb,n8 _,n8 _⟩
 | n+1=>by
  obtain⟨a,b,c,d⟩:=EO hx hb hs n;rw[AK];cases e:(dN ps n p).1.Q.L with
  | nil=>rw[Qc ps e];exact⟨a,b,c,d⟩
  | cons t ts=>
   rw[wN ps e];split
   .rename_i q;have q2:=q;unfold IJ at q2;obtain⟨r1,_,r3,_⟩:=Pq a e ps (by omega);refine⟨r1,?_,?_,?_⟩;·dsimp only;omega
    .have:=vc ps t;dsimp only;omega
    .dsimp only;unfold IJ;omega
   .exact⟨a,b,c,d⟩
end
noncomputable def dn(ps:List (List e6))(p:Hp × Int):Nat:=if h:0<=p.2 then Classical.choose (GP ps h) else 0
theorem GQ(ps:List (List e6)){p:Hp × Int}(h:0<=p.2):(dn ps p:Int)<=p.2/\¬can ps (dN ps (dn ps p) p)/\∀j,j<dn ps p->can ps (dN ps j p):=by
 unfold dn;rw[dif_pos h];exact zax (GP ps h)
noncomputable def dr(ps:List (List e6))(p:Hp × Int):Hp × Int:=dN ps (dn ps p) p
theorem Wf(ps:List (List e6)){x:Hp}{f:Int}(hx:Oh x)(hf:0<=f)(hs:x.S.Serial+f<9223372036854775807):Oh (dr ps (x,f)).1/\0<=(dr ps (x,f)).2/\(dr ps (x,f)).2<=f/\(dr ps (x,f)).1.S.Serial+(dr ps (x,f)).2<=x.S.Serial+f:=EO ps (p:=(x,f)) hx hf hs _
section
variable{x:Hp}(hx:mP x)(hS:∀k∈lv x.S,(ob x.S k).Strong<=9223372036854775807)
include hx hS
theorem Ub{h:Int}(hh:h=0\/h∈lv x.S):h<=9223372036854775807:=by
 rcases hh with q | q
 .omega
 .have:=I3 hx.sr q;omega
theorem MS(k:Int){h:Int}(hh:h<=9223372036854775807):ba x k h=some (if k<0\/5<k then (x,6) else if h=0\/h∈lv x.S then (H7 x k.toNat h,0) else (x,3)):=by
 have hR:=hx.sr;have r6:=hx.r6;unfold ba;by_cases hk:k<0\/5<k
 .rw[zb hk,zb (by rw[r6];simp;omega)]
 .rw[za hk,za (by rw[r6];simp;omega),dY hR hh,YK];by_cases hn:h=0\/h∈lv x.S
  .rw[zb hn,zA hn,za (by simp)];obtain⟨n,rfl⟩:∃n:Nat,k=n:=⟨k.toNat,by omega⟩;have hn6:n<6:=by omega
   have hnl:n<x.Roots.length:=by omega
   have old:x.Roots[n]<=9223372036854775807:=Ub hx hS (hx.rt _ (zl hnl));have e1:=nN x h;have hn2:n<(C7 x h).Roots.length:=by rw[e1.1];exact hnl
   rw[u9 hnl,YK];unfold F4 Q6 N2;rw[kl hR hh hS,YK];dsimp only;rw[V0 (by omega) (by rw[e1.1];omega),YK,u9 hn2,YK,YK];have hrel:=ee (x:=wR (C7 x h) (x.Roots.set n h)) (ig hR h) old;rw[zU,e1.1,show C9 ⟨(C7 x h).S,x.Roots.set n h,(C7 x h).a8,(C7 x h).T,(C7 x h).Q⟩ x.Roots[n]=_ from hrel];unfold H7;rw[zf,zc hnl];rfl
  .rw[za hn,zI hn,zb (by simp)]
end
theorem FI(ps:List (List e6))(n:Int):gD ps n=some (Jm ps n):=by
 unfold gD Jm;by_cases h:n<0\/(ps.length:Int)<=n
 .rw[zb (by simpa using h),zb h]
 .rw[za (by simpa using h),za h];obtain⟨k,rfl⟩:∃k:Nat,n=k:=⟨n.toNat,by omega⟩;have hk:k<ps.length:=by omega
  rw[u9 hk,YK,zU,zf,zc hk];rfl
abbrev XD(ps:List (List e6)):List (List au):=ps.map (List.map Sc)
def Mp(ps:List (List e6)):Prop:=∀p∈ps,p.length<=6
theorem HD{ps:List (List e6)}(h:Mp ps)(n:Int):(Jm ps n).length<=6:=by
 unfold Jm;split;·simp
 .rename_i q;have hk:n.toNat<ps.length:=by omega
  rw[zf,zc hk];exact h _ (zl hk)
theorem GO{ps:List (List e6)}(h:Mp ps)(t:n0):lj ps t=some (IJ ps t):=by
 have:=HD h t.Prog;unfold lj IJ;rw[FI,YK,F9 (by omega) (by omega)]
theorem ET(x:Hp):eU x=some (x.Q.L.isEmpty):=by
 unfold eU;rw[Cf,YK];unfold Rf;cases x.Q.L <;> rfl
section
variable{x:Hp}(hx:Oh x){t:n0}{ts:List n0}(hq:x.Q.L=t::ts){ps:List (List e6)}(hm:Mp ps)(hb:x.S.Serial<9000000000000000000)
include hx hq hm hb
theorem NA:lk x ps=some (NT ps x t ts,t,0):=by
 have S9:=HD hm t.Prog;have pok:=MD hx hq;have pser:=HC hx hq;obtain⟨rok,_,_⟩:=HJ hx hq ps (by omega);have hrun:=(run_eq pok.rt pok.sl pok.zr (Jm ps t.Prog) (by omega) (by rw[pser];omega)).1;have hrun':eY (pre x t ts) (Jm ps t.Prog)=some (VI ps x t ts,(runs (pre x t ts) (Jm ps t.Prog)).2):=hrun;have hz:=cH rok.rt (r:=5) (by decide) (h:=0) (.inl rfl);have zS:=km rok.rt.sh.sr rok.sl 5 0;unfold lk;rw[Cf,YK];have e:Rf x.Q=(⟨ts,x.Q.Cap⟩,t,0):=by unfold Rf;rw[hq]
 rw[e];dsimp only;rw[za (by simp)];simp only[jn];by_cases k:t.Kind=1
 .have hk:(t.Kind==1)=true:=by simpa using k
  have hat:=(KS hx.rt hq k).1;have ush:=Ge hx.rt hq;have hm1:=gO hx.rt.sh.sr hat;have e1:ba ⟨x.S,x.Roots,x.a8,x.T,⟨ts,x.Q.Cap⟩⟩ 5 t.At=some (H7 (xO x ts) 5 t.At,0):=by
   have:=MS (x:=xO x ts) ush hx.sl 5 hm1;rw[za (by omega),zb (.inr hat)] at this;exact this
  have e2:C9 (H7 (xO x ts) 5 t.At) t.At=some (wa x ts t.At):=ee (dx (x:=xO x ts) hx.rt.sh.sr 5 t.At).sr hm1;have e3:=gv (oB hx.rt hq k) (KV hx.rt hx.sl t.At);have e4:pre x t ts=dy (wa x ts t.At):=by unfold pre;rw[zb k]
  have e5:=HU rok.rt rok.sl 5 (h:=0) (by decide);rw[za (by omega),zb (.inl rfl)] at e5;rw[zb hk,e1,YK];dsimp only;rw[e2,YK,e3,YK,FI,YK,<-e4,hrun',YK,zb hk];dsimp only;rw[e5,YK];refine Cv (gv hz zS) ?_;unfold NT;rw[zb k];rfl
 .have hk:¬(t.Kind==1)=true:=by simpa using k
  have e4:pre x t ts=xO x ts:=by unfold pre;rw[za k]
  rw[za hk,FI,YK,show (⟨x.S,x.Roots,x.a8,x.T,⟨ts,x.Q.Cap⟩⟩:b6)=pre x t ts from e4.symm,hrun',YK,za hk];unfold NT;rw[za k]
end
section
variable{x:Hp}(hx:Oh x){ps:List (List e6)}(hm:Mp ps){f:Int}(hf:0<=f)(hf2:f<=1000000)(hb:x.S.Serial<8000000000000000000)
include hx hm hf hf2 hb
def Wg(p:Hp × Int):Int:=if p.1.Q.L.isEmpty then 0 else 12
theorem drain_eq:eT x ps f=some ((dr ps (x,f)).1,(dn ps (x,f):Int),(dr ps (x,f)).2,Wg (dr ps (x,f))):=by
 obtain⟨a1,a2,a3⟩:=GQ ps (p:=(x,f)) hf;have all:=EO ps (p:=(x,f)) hx hf (by show x.S.Serial+f<_;omega);unfold eT;simp only[jn];dsimp only at a1;refine jT (λk=>((dN ps k (x,f)).2,(dN ps k (x,f)).1,(k:Int),(dN ps k (x,f)).2,(dN ps k (x,f)).1)) rfl (dn ps (x,f)) (λ_=>True) (by omega) trivial (λk hk _=>.inl ⟨?_,trivial⟩) (λ_=>⟨((dn ps (x,f):Int),(dr ps (x,f)).2,(dr ps (x,f)).1),?_,?_⟩)
 .obtain⟨b1,b2,b3,b4⟩:=all k;obtain⟨t,ts,e,c⟩:=a3 k hk;dsimp only at b2 b3 b4;have hc:=vc ps t;rw[ET,e,YK];show (cJ _).bind _=_;rw[Cf,YK];have e2:Rf (dN ps k (x,f)).1.Q=(⟨ts,(dN ps k (x,f)).1.Q.Cap⟩,t,0):=by unfold Rf;rw[e]
  rw[e2];dsimp only;rw[GO hm,YK,za (by simp;omega),NA b1 e hm (by omega),YK,F9 (by omega) (by omega),o9,AK,wN ps e,zb c]
 .rw[ET,YK];cases e:(dN ps (dn ps (x,f)) (x,f)).1.Q.L with
  | nil=>rfl
  | cons t ts=>
   have hc:¬IJ ps t<=(dN ps (dn ps (x,f)) (x,f)).2:=λq=>a2 ((Kq ps e).2 q);show (cJ _).bind _=_;rw[Cf,YK];have e2:Rf (dN ps (dn ps (x,f)) (x,f)).1.Q=(⟨ts,(dN ps (dn ps (x,f)) (x,f)).1.Q.Cap⟩,t,0):=by unfold Rf;rw[e]
   rw[e2];dsimp only;rw[GO hm,YK,zb (by simp;omega)];rfl
 .dsimp only;rw[ET,YK];unfold Wg;cases (dr ps (x,f)).1.Q.L.isEmpty <;> rfl
end
theorem RW{l:List (List e6)}(h:bY l=true):Mp l/\l.length<=6:=by
 unfold bY at h;rw[zk,zK,zd] at h;refine⟨λp hp=>?_,h.1⟩;have:=h.2 p hp;unfold uj at this;rw[zk,zK] at this;exact this.1
noncomputable def eo(ps:List (List e6))(x:Hp)(o:e6):Hp × Int × Int:=
 if o.Kind=11 then (EM x,Pg x-((nb x).length:Int),0)
 else if o.Kind=12 then ((dr ps (x,o.A)).1,(dn ps (x,o.A):Int),Wg (dr ps (x,o.A)))
 else ub x o
noncomputable def er(ps:List (List e6))(x:Hp)(row:List Int):Hp × Int × Int:=if (cm row).2≠0 then (x,0,(cm row).2) else eo ps x (cm row).1
theorem AL{row:List Int}(h:(cm row).2=0):B0 (cm row).1.Kind (cm row).1.A (cm row).1.B (cm row).1.C=0:=by
 unfold cm at h |-;rcases four row with ⟨k,a,b,c,rfl⟩ | hl
 .rw[AN,zX] at h |-;by_cases q:B0 k a b c≠0
  .rw[zb q] at h;exact absurd h q
  .rw[za q];exact Classical.not_not.1 q
 .rw[(vd hl).1,zX] at h;exact absurd h (by decide)
theorem Kv{a b c:Int}(h:B0 12 a b c=0):0<=a/\a<=200:=yH (by decide) (show L7 a 0 200 12=0 from h)
section
variable{ps:List (List e6)}(hm:Mp ps){x:Hp}(hx:Oh x)(hb:x.S.Serial<7000000000000000000)
include hm hx hb
theorem Wh{o:e6}(ho:o.Kind=12->0<=o.A/\o.A<=200):Oh (eo ps x o).1/\(eo ps x o).1.S.Serial<=x.S.Serial+201:=by
 unfold eo;split
 .obtain⟨a,b,c⟩:=EN hx.rt hx.sl hx.zr;refine⟨⟨a,b,c⟩,?_⟩;show (EM x).S.Serial<=_;rw[Pm hx.rt hx.sl hx.zr];omega
 .split
  .rename_i h;obtain⟨h0,h2⟩:=ho h;obtain⟨a,b,c,d⟩:=Wf ps hx h0 (by omega);exact⟨a,by show (dr ps (x,o.A)).1.S.Serial<=_;omega⟩
  .have n:=oN hx.rt hx.sl hx.zr (by omega) o;have:=n.ev.s2;exact⟨n.ok,by omega⟩
theorem RG(row:List Int):Oh (er ps x row).1/\(er ps x row).1.S.Serial<=x.S.Serial+201:=by
 unfold er;split;·exact⟨hx,by show x.S.Serial<=_;omega⟩
 .rename_i h;have hc:=AL (Classical.not_not.1 h);refine Wh hm hx hb λhk=>?_;rw[hk] at hc;exact Kv hc
end
def yx(l:List b7)(k:Int):Nat:=l.countP λc=>c.State==k
theorem KE(l:List b7)(c:b7)(k:Int):yx (l ++ [c]) k=yx l k+if c.State=k then 1 else 0:=by
 unfold yx;rw[List.countP_append];simp[List.countP_cons]
noncomputable def Np(x:Hp):List Int:=(lv x.S).map λh=>R9 x h
theorem LK{s:a7}(hR:SR s){h:Int}(hh:h∈lv s):sk s.S.a8 h=(ob s h).Serial:=by
 obtain⟨i,hi⟩:=(fJ hR).1 hh;rw[Ki hR hi,Q2 hR hi]
theorem Vi{x:Hp}(hR:SR x.S):(Np x).Pairwise (· < ·):=by
 unfold Np;rw[List.pairwise_map];refine List.Pairwise.imp_of_mem (λ{a b} ha hb h=>?_) (iS (y6.2 hR)).2.2;rw[LK hR ha,LK hR hb] at h;exact h
theorem Nq{x:Hp}(hR:SR x.S):(Np x).mergeSort (λx y=>decide (x<=y))=Np x:=
 List.mergeSort_of_pairwise ((Vi hR).imp λh=>zA (by omega))
theorem Ih{x:Hp}(hR:SR x.S):(Np x).length<=24:=by
 unfold Np;rw[t7];exact M7 (y6.2 hR)
inductive Fm (x:Hp) (o:e6) (z:Hp) (v:Int):Prop
 | new (i:Nat) (hF:VN x.S i) (hk:o.Kind=1) (ha:0<=o.A/\o.A<=5) (hn:o.B.toNat<=4) (hc : -1<=o.C/\o.C<=5) (hv:v=x.S.Serial+1) (hz:z=H7 (wS x (eK x.S i o.B.toNat o.C)) o.A.toNat (dF x.S i)):Fm x o z v
 | root (h:Int) (hk:o.Kind≠1) (ha:0<=o.A/\o.A<=5) (hh:h=0\/h∈lv x.S) (hz:z=H7 x o.A.toNat h):Fm x o z v
 | field (h:Int) (n:Nat) (u:Int) (hk:o.Kind=5) (hl:h∈lv x.S) (hn:n<(ob x.S h).Fields.length) (hu:u=0\/u∈lv x.S) (hz:z=bS x h n u):Fm x o z v
 | weak (h:Int) (hk:o.Kind=6) (ha:0<=o.A/\o.A<=5) (hc : -1<=o.C/\o.C<=5) (hh:h=0\/h∈lv x.S) (hw:JL x.Q o.A=false) (hz:z=dP x o.A.toNat h o.C):Fm x o z v
 | pair (h u:Int) (r:Tb × Int × Int) (hk:o.Kind=8) (hl:h∈lv x.S) (hu:u=0\/u∈lv x.S) (hr:P9 x.T h u=some r) (h0:r.2.2=0) (hz:z=jX x u r.1 r.2.1):Fm x o z v
 | same (hk:o.Kind=10) (hz:z=x):Fm x o z v
theorem Fm.ks{x z:Hp}{o:e6}{v:Int}(hx:O4 x)(f:Fm x o z v)(hk:o.Kind≠1):Ks x.S z.S:=by
 have hR:=hx.sh.sr;cases f with
 | new i hF hk'=>exact absurd hk' hk
 | root h _ ha hh hz=>rw[hz];exact dx hR _ _
 | field h n u _ hl hn hu hz=>rw[hz];exact yA hR hl hn u
 | weak h _ ha hc hh hw hz=>rw[hz];exact Ek hx (by omega) h _
 | pair h u r _ hl hu hr h0 hz=>rw[hz];exact Dv hR u _ _
 | same _ hz=>rw[hz];exact Ks.refl hR
def XI(p:Int × Int):D5:=⟨p.1,p.2⟩
section
variable{ps:List (List e6)}(hm:Mp ps){x:Hp}(hx:Oh x)(hb:x.S.Serial<7000000000000000000)
include hm hx hb
theorem Ku : -24<=Pg x-((nb x).length:Int)/\Pg x-((nb x).length:Int)<=24:=by
 have h1:=GK hx.rt hx.sl hx.zr;have h2:(lv x.S).length<=24:=M7 (y6.2 hx.rt.sh.sr);obtain⟨c1,_,_⟩:=EN hx.rt hx.sl hx.zr;have h3:(lv (EM x).S).length<=24:=M7 (y6.2 c1.sh.sr);unfold Pg;split
 .rename_i e;rw[e];simp;omega
 .omega
theorem YA(row:List Int):jJ ⟨x,ps⟩ row=some (⟨(er ps x row).1,ps⟩,XI (er ps x row).2):=by
 unfold jJ;rw[(KF row).1,YK];unfold er;by_cases h:(cm row).2=0
 .rw[za (show ¬(((cm row).2 != 0)=true) by simp[h]),za (show ¬((cm row).2≠0) by simp[h])];have hc:=AL h;generalize (cm row).1=o at hc;unfold ll eo;by_cases k11:o.Kind=11
  .rw[zb (by simp[k11]),zb k11];refine zcj (b:=(Y9 x).bind λv4=>some (⟨v4.1,ps⟩,⟨z6 (v4.2.2-v4.2.1),0⟩)) rfl ?_;obtain⟨b1,b2⟩:=Ku hm hx hb;rw[Ti hx.rt hx.sl hx.zr,YK];dsimp only;rw[F9 (by omega) (by omega)];rfl
  .rw[za (by simp[k11]),za k11];by_cases k12:o.Kind=12
   .rw[zb (by simp[k12]),zb k12];refine zcj (b:=(eT x ps o.A).bind λv5=>some (⟨v5.1,ps⟩,⟨v5.2.1,v5.2.2.2⟩)) rfl ?_;rw[k12] at hc;obtain⟨a0,a2⟩:=Kv hc;rw[drain_eq hx hm a0 (by omega) (by omega),YK];rfl
   .rw[za (by simp[k12]),za k12];refine zcj (b:=(y2 x o).bind λv3=>some (⟨v3.1,ps⟩,⟨v3.2.1,v3.2.2⟩)) rfl ?_;rw[(oN hx.rt hx.sl hx.zr (by omega) o).mc,YK];rfl
 .rw[zb (by simpa using h),zb h];rfl
end
section
variable{ps:List (List e6)}(hm:Mp ps){x:Hp}(hx:Oh x)
include hm hx
end
def NZ(x:Hp):A4:=⟨yx x.S.S.a8 0,yx x.S.S.a8 1,yx x.S.S.a8 2,yx x.S.S.a8 3⟩
theorem Rc{s:a7}(hR:SR s):T6 s.S=some ⟨yx s.S.a8 0,yx s.S.a8 1,yx s.S.a8 2,yx s.S.a8 3⟩:=by
 unfold T6;simp only[jn];have hlen:=hR.len;refine Y2 s.S.a8.length (λk t=>t=⟨yx (s.S.a8.take k) 0,yx (s.S.a8.take k) 1,yx (s.S.a8.take k) 2,yx (s.S.a8.take k) 3⟩) (by omega) (by simp[yx]) (λk t hk ht=>.inl ?_) (λt ht=>⟨_,by simp;rfl,by rw[ht,zY]⟩);have hc:=hR.cell k hk;rw[F1 hk] at hc;subst ht;simp only[zQ,hk,zW,zR,u9 hk,YK];have hle:∀j,yx (s.S.a8.take k) j<=24:=λj=>rx zbi (by simp;omega);have h0:=hle 0;have h1:=hle 1;have h2:=hle 2;have h3:=hle 3;rw[zu hk];simp only[KE];refine⟨_,?_,rfl⟩;have hst:s.S.a8[k].State=0\/s.S.a8[k].State=1\/s.S.a8[k].State=2\/s.S.a8[k].State=3:=by omega
 rcases hst with e | e | e | e <;> rw[e] <;> simp[A4.ix,A4.l,A4.st,ix] <;> rw[o9,o9] <;> simp
section
variable{ps:List (List e6)}{x:Hp}(hx:O4 x)
include hx
theorem Yf:fT ⟨x,ps⟩=some (NZ x):=by
 unfold fT;dsimp only;rw[Rc hx.sh.sr,YK];rfl
theorem Ts:fS ⟨x,ps⟩=some (Np x):=by
 have hR:=hx.sh.sr;have l24:(lv x.S).length<=24:=M7 (y6.2 hR);unfold fS;simp only[jn];rw[df (y6.2 hR),YK];refine Y2 (lv x.S).length (λk l=>l=((lv x.S).take k).map λh=>R9 x h) (by omega) rfl (λk l hk hl=>.inl ⟨_,?_,rfl⟩) (λl hl=>⟨l,za (by simp),?_⟩)
 .subst hl;dsimp only;have:=I3 hR (zl hk);rw[zb (by simpa using hk),u9 hk,YK,Nh hx.sh (by omega),YK,C4 (by omega) (by simp;omega),YK,o9,zu hk,zaf];rfl
 .subst hl;rw[zY];show (oY (Np x)).bind _=_;have:=Ih (x:=x) hR;unfold oY;rw[zb (by omega),Ly,Nq hR];rfl
end
theorem Rs.oh{x:Hp}{n:Nat}(h:Rs x n):Oh x:=⟨h.rt,h.sl,h.zr⟩
theorem RX{n last places:Int}{ps:List (List e6)}(hl:ps.length<=12)(hp:∀p∈ps,p.length<=1000) :
  (∃e,H0 n last places ps=some (⟨PD,[]⟩,e)/\BL n last places (XD ps)=some (⟨hO PD,[]⟩,e)/\(e=13\/e=1/\¬((1<=n/\n<=24)/\(0<=last/\last<=9)/\1<=places/\places<=8))) \/
  (∃k p:Nat,n=k/\places=p/\(1<=k/\k<=24)/\Mp ps/\Rs (wM k last p) 0/\H0 n last places ps=some (⟨wM k last p,ps⟩,0)/\BL n last places (XD ps)=some (⟨hO (wM k last p),XD ps⟩,0)):=by
 have e1:dS ps=some (bY ps):=DB (by omega) hp;have e2:oT (XD ps)=some (bY ps):=FJ (by omega) hp;unfold H0 BL;rw[e1,e2,YK,YK];cases hq:bY ps;·exact .inl ⟨13,rfl,rfl,.inl rfl⟩
 .simp only[Bool.not_true,zm,zZ];by_cases h:(1<=n/\n<=24)/\(0<=last/\last<=9)/\1<=places/\places<=8
  .right;obtain⟨h1,h2,h3⟩:=h;obtain⟨k,rfl⟩:∃k:Nat,n=k:=⟨n.toNat,by omega⟩;obtain⟨p,rfl⟩:∃p:Nat,places=p:=⟨places.toNat,by omega⟩;obtain⟨a1,a2,hx,hS,hz⟩:=Lk (k:=k) (p:=p) (l:=last) (by omega) h2 (by omega);refine⟨k,p,rfl,rfl,by omega,(RW hq).1,⟨hx,hS,hz,n8 _⟩,?_,?_⟩
   .rw[a1,YK,hx.sh.r6];rfl
   .rw[a2,YK,show (hO (wM k last p)).Roots.length=6 from hx.sh.r6];rfl
  .left;have a1:jP n last places=some PD:=by
    unfold jP;rw[zb (by simp;omega)];rfl
   have a2:rV n last places=some (hO PD):=by
    unfold rV;rw[zb (by simp;omega)];rfl
   refine⟨1,?_,?_,.inr ⟨rfl,h⟩⟩;·rw[a1];rfl
   .rw[a2];rfl
theorem Fu:Mp []:=λ_ h=>by cases h
theorem LH{S E:Type}{f:S->Option (S ⊕ E)}(Q:E->Prop)(h:∀s e,f s=some (.inr e)->Q e):∀(N:Nat) (s:S) (e:E),LG f N s=some e->Q e:=by
 intro N;induction N with
 | zero=>intro s e q;rw[wG] at q;cases q
 | succ N ih=>
  intro s e q;rw[jS] at q;cases hf:f s with
  | none=>rw[hf] at q;cases q
  | some y=>
   rw[hf] at q;cases y with
   | inl s'=>exact ih s' e q
   | inr e'=>cases q;exact h s _ hf
theorem Hh{S E:Type}{f:S->Option (S ⊕ E)}{s0:S}{e:E}(Q:E->Prop)(h:∀s e,f s=some (.inr e)->Q e)(q:lp f s0=some e):Q e:=by
 rw[Dh] at q;exact LH Q h _ _ _ q
def EB(e:Int):Prop:=0<=e/\e<=40
theorem JJ{n:Int}{r:List Int × Int}(h:sH n=some r):EB r.2:=by
 unfold sH at h;split at h;·cases h;exact (by constructor <;> simp)
 .obtain⟨a,_,h⟩:=C6 h;cases h;exact (by constructor <;> simp)
theorem NC{l:List Int}{n:Int}{r:Int × Int}(h:oe l n=some r):EB r.2:=by
 unfold oe at h;obtain⟨a,_,h⟩:=C6 h;split at h;·cases h;exact (by constructor <;> simp)
 .obtain⟨b,_,h⟩:=C6 h;cases h;exact (by constructor <;> simp)
theorem Tx{s:c5}{n:Int}{r:Int × Int}(h:w7 s n=some r):EB r.2:=by
 unfold w7 at h;split at h;·cases h;exact (by constructor <;> simp)
 .obtain⟨_,_,h⟩:=C6 h;split at h;·cases h;exact (by constructor <;> simp)
  .obtain⟨_,_,h⟩:=C6 h;obtain⟨_,_,h⟩:=C6 h;split at h <;> cases h <;> exact (by constructor <;> simp)
theorem Wn{s:a7}{n:Int}{r:p7 × Int}(h:y4 s n=some r):EB r.2:=by
 unfold y4 C5 at h;obtain⟨a,h1,h⟩:=C6 h;cases h;obtain⟨b,h2,h1⟩:=C6 h1;split at h1;·cases h1;exact Tx h2
 .obtain⟨c,_,h1⟩:=C6 h1;split at h1 <;> cases h1 <;> exact (by constructor <;> simp)
theorem GR{s:a7}{n m:Int}{r:Int × Int}(h:T8 s n m=some r):EB r.2:=by
 unfold T8 at h;obtain⟨a,h1,h⟩:=C6 h;split at h;·cases h;exact Wn h1
 .obtain⟨b,h2,h⟩:=C6 h;cases h;exact NC h2
theorem Ll{x:b6}{a b c:Int}{r:b6 × Int}(h:aJ x a b c=some r):EB r.2:=by
 unfold aJ at h;obtain⟨u,h1,h⟩:=C6 h;split at h;·cases h;exact GR h1
 .obtain⟨v,h2,h⟩:=C6 h;split at h;·cases h;exact (by constructor <;> simp)
  .obtain⟨w,_,h⟩:=C6 h;cases h;exact (by constructor <;> simp)
theorem PC{x:b6}{a b c:Int}{r:b6 × Int}(h:W2 x a b c=some r):EB r.2:=by
 unfold W2 at h;obtain⟨u,h1,h⟩:=C6 h;split at h;·cases h;exact (by constructor <;> simp)
 .obtain⟨v,h2,h⟩:=C6 h;split at h;·cases h;exact (by constructor <;> simp)
  .obtain⟨w,_,h⟩:=C6 h;obtain⟨w,_,h⟩:=C6 h;obtain⟨w,_,h⟩:=C6 h;cases h;exact (by constructor <;> simp)
theorem WW{t:List b8}{a b:Int}{r:List b8 × Int}(h:gL t a b=some r):EB r.2:=by
 unfold gL at h;obtain⟨u,h1,h⟩:=C6 h;split at h
 .obtain⟨w,_,h⟩:=C6 h;cases h;exact (by constructor <;> simp)
 .simp only[jn] at h;obtain⟨v,_,h⟩:=C6 h;obtain⟨e,he,h⟩:=C6 h;have hq:=Hh (λ(e:(List b8 × Int) ⊕ Unit)=>match e with
   | .inl w=>EB w.2
   | .inr _=>True) (λs e q=>by
    split at q
    .obtain⟨_,_,q⟩:=C6 q;obtain⟨_,_,q⟩:=C6 q;obtain⟨_,_,q⟩:=C6 q;split at q
     .obtain⟨_,_,q⟩:=C6 q;cases q;exact (by constructor <;> simp)
     .cases q
    .cases q;trivial) he
  cases e with
  | inl w=>cases h;exact hq
  | inr w=>cases h;exact (by constructor <;> simp)
theorem Tu{t:List b8}{a b:Int}{r:List b8 × Int × Int}(h:P9 t a b=some r):EB r.2.2:=by
 unfold P9 at h;split at h;·cases h;exact (by constructor <;> simp)
 .obtain⟨u,_,h⟩:=C6 h;split at h
  .obtain⟨v,_,h⟩:=C6 h;cases h;exact (by constructor <;> simp)
  .obtain⟨v,h2,h⟩:=C6 h;split at h;·cases h;exact WW h2
   .cases h;exact (by constructor <;> simp)
theorem PB{x:b6}{a b:Int}{r:b6 × Int}(h:cv x a b=some r):EB r.2:=by
 unfold cv at h;split at h;·cases h;exact (by constructor <;> simp)
 .obtain⟨u,_,h⟩:=C6 h;obtain⟨v,_,h⟩:=C6 h;split at h;·cases h;exact (by constructor <;> simp)
  .obtain⟨w,hw,h⟩:=C6 h;split at h;·cases h;exact Tu hw
   .obtain⟨_,_,h⟩:=C6 h;cases h;exact (by constructor <;> simp)
theorem Vo{s:c5}{o:p7}{r:c5 × Int × Int}(h:E9 s o=some r):EB r.2.2:=by
 unfold E9 at h;simp only[jn] at h;obtain⟨v,_,h⟩:=C6 h;obtain⟨e,he,h⟩:=C6 h;have hq:=Hh (λ(e:(c5 × Int × Int) ⊕ Unit)=>match e with
  | .inl w=>EB w.2.2
  | .inr _=>True) (λs e q=>by
   split at q
   .obtain⟨_,_,q⟩:=C6 q;split at q
    .obtain⟨_,_,q⟩:=C6 q;obtain⟨_,_,q⟩:=C6 q;obtain⟨_,_,q⟩:=C6 q;cases q;exact (by constructor <;> simp)
    .cases q
   .cases q;trivial) he
 cases e with
 | inl w=>cases h;exact hq
 | inr w=>cases h;exact (by constructor <;> simp)
theorem Ud{s:a7}{a b:Int}{r:a7 × Int × Int}(h:O2 s a b=some r):EB r.2.2:=by
 unfold O2 at h;obtain⟨u,h1,h⟩:=C6 h;split at h;·cases h;exact JJ h1
 .obtain⟨v,_,h⟩:=C6 h;split at h;·cases h;exact (by constructor <;> simp)
  .obtain⟨w,hw,h⟩:=C6 h;split at h;·cases h;exact Vo hw
   .cases h;exact (by constructor <;> simp)
theorem th{n l m e:Int}(h:EB e):EB (L7 n l m e):=by
 unfold L7;split;·exact h
 .exact (by constructor <;> simp)
theorem GV{a b c:Int}(h1:EB a)(h2:EB b)(h3:EB c):EB (az a b c):=by
 unfold az;split;·exact h1
 split;·exact h2
 exact h3
theorem GN(k a b c:Int):EB (B0 k a b c):=by
 have d:∀ {n:Int},0<=n->n<=40->EB n:=λh1 h2=>⟨h1,h2⟩;unfold B0;repeat' split
 all_goals first
  | exact GV (th (d (by decide) (by decide))) (th (d (by decide) (by decide))) (th (d (by decide) (by decide)))
  | exact GV (th (d (by decide) (by decide))) (th (d (by decide) (by decide))) (d (by decide) (by decide))
  | exact th (d (by decide) (by decide))
  | exact d (by decide) (by decide)
section
variable{x:Hp}(hx:O4 x)(hS:SL x)(hz:zr x = [])(hb:x.S.Serial<9223372036854775807)
include hx
theorem Ng{h:Int}(hh:h=0\/h∈lv x.S):0<=R9 x h/\R9 x h<=x.S.Serial:=by
 have hR:=hx.sh.sr;rcases hh with rfl | hh
 .rw[DQ hx.sh];exact⟨n8 _,hR.R9⟩
 .have o:=(J5 hR hh);unfold R9;exact⟨by have:=o.s1;omega,o.s2⟩
include hS hz hb
theorem Wc(o:e6):(∃e,Er x o e/\EB e)\/∃z v,Dn x o z v/\0<=v/\v<=x.S.Serial+1:=by
 obtain⟨k,a,b,c⟩:=o;have sl:=pW hx.sh;have hR:=hx.sh.sr;have s0:=hR.R9;have sb:∀ {h:Int},(h=0\/h∈lv x.S)->0<=R9 x h/\R9 x h<=x.S.Serial+1:=λhh=>by have:=Ng hx hh;omega
 have e2:EB 2:=(by constructor <;> simp);have e9:EB 9:=(by constructor <;> simp);have e14:EB 14:=(by constructor <;> simp);by_cases hc:B0 k a b c=0
 .have:=Bl hc;have hk:k=1\/k=2\/k=3\/k=4\/k=5\/k=6\/k=7\/k=8\/k=9\/k=10\/k=11\/k=12:=by omega
  rcases hk with rfl | rfl | rfl | rfl | rfl | rfl | rfl | rfl | rfl | rfl | rfl | rfl
  .rcases d1 hx hS hb hc with ⟨e,q,h⟩ | ⟨hn,hcc,i,hF,h⟩;·exact .inl ⟨e,h,Ud q⟩
   .exact .inr ⟨_,_,h,by omega,by omega⟩
  .exact .inr ⟨_,_,d2 hx hS hc,sb (sl b)⟩
  .exact .inr ⟨_,_,d3 hx hS hc,by omega,by omega⟩
  .rcases d4 hx hS hc with ⟨_,h⟩ | ⟨e,q,h⟩ | ⟨hl,n,_,hn,h⟩;·exact .inl ⟨_,h,e2⟩
   .exact .inl ⟨_,h,GR q⟩
   .exact .inr ⟨_,_,h,sb (hx.sh.fl _ hl _ (zl hn))⟩
  .rcases d5 hx hS hc with ⟨_,h⟩ | ⟨e,q,h⟩ | ⟨hl,n,_,hn,h⟩;·exact .inl ⟨_,h,e2⟩
   .exact .inl ⟨_,h,Ll q⟩
   .exact .inr ⟨_,_,h,sb (sl c)⟩
  .rcases d6 hx hS hc with ⟨_,h⟩ | ⟨e,q,h⟩ | ⟨hw,h⟩;·exact .inl ⟨_,h,e2⟩
   .exact .inl ⟨_,h,PC q⟩
   .exact .inr ⟨_,_,h,sb (sl b)⟩
  .obtain⟨hl,⟨_,h⟩ | ⟨hI,h⟩⟩:=d7 hx hS hc;·exact .inl ⟨_,h,e9⟩
   .exact .inr ⟨_,_,h,sb (.inr ((hx.sh.cl _ hl).2.2.2.2 hI).1)⟩
  .rcases d8 hx hS hc with ⟨_,h⟩ | ⟨_,e,q,h⟩ | ⟨hl,r,h1,h2,h⟩;·exact .inl ⟨_,h,e2⟩
   .exact .inl ⟨_,h,PB q⟩
   .exact .inr ⟨_,_,h,sb (sl b)⟩
  .rcases d9 hx hS hc with ⟨_,h⟩ | ⟨_,_,h⟩ | ⟨_,v,hv,h⟩;·exact .inl ⟨_,h,e2⟩
   .exact .inl ⟨_,h,e9⟩
   .exact .inr ⟨_,_,h,sb (.inr (hx.sh.pr _ _ hv).2)⟩
  .refine .inr ⟨_,_,d10 hx hS hz hc,?_⟩;split <;> omega
  .obtain⟨h1,h2⟩:=sV (x:=x) (a:=a) (b:=b) (c:=c) (.inl rfl) hc;exact .inl ⟨14,⟨by decide,h1,h2⟩,e14⟩
  .obtain⟨h1,h2⟩:=sV (x:=x) (a:=a) (b:=b) (c:=c) (.inr rfl) hc;exact .inl ⟨14,⟨by decide,h1,h2⟩,e14⟩
 .obtain⟨h1,h2⟩:=ES (x:=x) (o:=⟨k,a,b,c⟩) hc;exact .inl ⟨_,⟨hc,h1,h2⟩,GN _ _ _ _⟩
theorem Tp(o:e6):(0<=(ub x o).2.1/\(ub x o).2.1<=x.S.Serial+1)/\EB (ub x o).2.2:=by
 have s0:=hx.sh.sr.R9;rcases Wc hx hS hz hb o with ⟨e,h,he⟩ | ⟨z,v,d,h0,h1⟩
 .unfold ub;rw[h.2.1,zX];exact⟨⟨n8 _,by show (0:Int)<=_;omega⟩,he⟩
 .unfold ub;rw[d.mc,zX];exact⟨⟨h0,h1⟩,(by constructor <;> simp)⟩
end
theorem RF{ps:List (List e6)}(hm:Mp ps){x:Hp}(hx:Oh x)(hb:x.S.Serial<7000000000000000000)(row:List Int):(-1000<=(er ps x row).2.1/\(er ps x row).2.1<=x.S.Serial+1000)/\EB (er ps x row).2.2:=by
 have s0:=hx.rt.sh.sr.R9;unfold er;split
 .refine⟨⟨by show (-1000:Int)<=0;omega,by show (0:Int)<=_;omega⟩,?_⟩;show EB (cm row).2;unfold cm;rcases four row with ⟨k,a,b,c,rfl⟩ | hl
  .rw[AN,zX];split;·exact GN _ _ _ _
   .exact (by constructor <;> simp)
  .rw[(vd hl).1,zX];exact (by constructor <;> simp)
 .rename_i h;have hc:=AL (Classical.not_not.1 h);generalize (cm row).1=o at hc;unfold eo;split
  .have:=Ku hm hx hb;exact⟨⟨by show (-1000:Int)<=Pg x-((nb x).length:Int);omega,by show Pg x-((nb x).length:Int)<=_;omega⟩,(by constructor <;> simp)⟩
  split
  .rename_i hk;rw[hk] at hc;have h12:=Kv hc;obtain⟨a1,_,_⟩:=GQ ps (p:=(x,o.A)) h12.1;refine⟨⟨by show (-1000:Int)<=(dn ps (x,o.A):Int);omega,by show (dn ps (x,o.A):Int)<=_;simp only at a1;omega⟩,?_⟩;show EB (Wg _);unfold Wg;split <;> exact (by constructor <;> simp)
  .have:=Tp hx.rt hx.sl hx.zr (by omega) o;exact⟨⟨by omega,by omega⟩,this.2⟩
def nm(ws:List ByteArray):List Int × Bool:=if ws.all (λw=>(qt (fR w)).2)=true then (ws.map (λw=>(qt (fR w)).1),true) else ([],false)
theorem PU(F:ByteArray->Option (Int × Bool))(ws:List ByteArray)(hF:∀w∈ws,F w=some (qt (fR w)))(hl:ws.length<=100000) :
  (lp (S:=Int × (List Int)) (E:=((List Int) × Bool) ⊕ (List Int)) (λ((s12,s13):Int × (List Int))=>
   if (decide (s12<(ws.length:Int))) then
    (ix ws s12).bind λv16=>
    (F v16).bind λv17=>
    if (!v17.2) then
     some (.inr (.inl ([],false)))
    else
    (app 8 s13 [v17.1]).bind λv18=>
    some (.inl (z6 (s12+1),v18))
   else
   some (.inr (.inr s13))) (0,[])).bind (λe11=>
  match e11 with
  | .inl w=>some w
  | .inr w=>some (w,true))=some (nm ws):=by
 refine Y2 ws.length (λk l=>l=(ws.take k).map (λw=>(qt (fR w)).1)/\(ws.take k).all (λw=>(qt (fR w)).2)=true) (by omega) ⟨rfl,rfl⟩ (λk l hk hl2=>?_) λl hl2=>⟨_,za (by simp),?_⟩
 .obtain⟨rfl,h2⟩:=hl2;dsimp only;rw[zb (by simpa using hk),u9 hk,YK,hF _ (zl hk),YK];cases hb:(qt (fR ws[k])).2
  .refine .inr ⟨_,zb rfl,?_⟩;unfold nm;rw[za λq=>by
    have:=zd.1 q _ (zl hk);rw[hb] at this;cases this]
  .refine .inl ⟨_,?_,rfl,?_⟩
   .rw[za (by decide),C4 (by decide) (by simp;omega),YK,o9,zu hk,zaf];rfl
   .rw[zu hk,List.all_append,h2,zap];simp[hb]
 .obtain⟨rfl,h2⟩:=hl2;rw[zY] at h2 |-;unfold nm;rw[zb h2]
def XH(ws:List ByteArray):Prop:=ws.length<=100000/\∀w∈ws,w.size<1000000000
theorem Qa{ws:List ByteArray}(h:XH ws):ay ws=some (nm ws):=by
 unfold ay;simp only[jn];exact PU aG ws (λw hw=>XT w (h.2 w hw)) h.1
theorem Uj(ws:List ByteArray):(nm ws).1.length<=ws.length:=by
 unfold nm;split;·simp
 .simp
def iX:List (ByteArray × Nat):=[(p8 [112,114,111,103],13),(p8 [104,101,97,112],14),(p8 [110,101,119],1),(p8 [99,111,112,121],2),(p8 [100,114,111,112],3),(p8 [108,111,97,100],4),(p8 [115,116,111,114,101],5),(p8 [119,101,97,107],6),(p8 [117,112],7),(p8 [112,97,105,114],8),(p8 [103,101,116],9),(p8 [115,97,109,101],10),(p8 [99,111,108,108,101,99,116],11),(p8 [100,114,97,105,110],12),(p8 [108,105,118,101,115],15),(p8 [114,111,111,116,115],16),(p8 [116,97,108,108,121],17)]
def sM(w:ByteArray):Nat:=(z7 iX w).getD 0
def vL(i:Nat):Int:=[0,3,2,1,3,3,3,2,2,2,2,0,1,0,3,0,0,0].getD i 0
def pK(i:Nat):c8:=
 if i=13 then ⟨some (75,none),some (76,none),true⟩
 else if i=14 then ⟨some (137,some 3),some (78,none),true⟩
 else if i=15 then ⟨some (137,some 0),some (80,none),false⟩
 else if i=16 then ⟨some (137,some 0),some (81,none),false⟩
 else if i=17 then ⟨some (137,some 0),some (82,none),false⟩
 else ⟨some (137,some (vL i)),some (138,some (i:Int)),false⟩
theorem Hl{K V W:Type}[BEq K](f:V->W)(k:K):∀l:List (K × V),z7 (l.map λp=>(p.1,f p.2)) k=(z7 l k).map f
 | []=>rfl
 | p::l=>by
  simp only[ww,z7];split;·rfl
  .exact Hl f k l
theorem tq{K V:Type}[BEq K]{k:K}{v:V}:∀ {l:List (K × V)},z7 l k=some v->∃p∈l,p.2=v/\(k==p.1)=true
 | [],h=>by cases h
 | p::l,h=>by
  simp only[z7] at h;split at h
  .rename_i q;cases h;exact⟨p,zh ..,rfl,q⟩
  .obtain⟨p',h1,h2⟩:=tq h;exact⟨p',zo _ h1,h2⟩
theorem Pk:dU=some (iX.map λp=>(p.1,pK p.2)):=by kernel_rfl
theorem NM{w:ByteArray}(h:sM w≠0):z7 iX w=some (sM w)/\1<=sM w/\sM w<=17:=by
 unfold sM at h |-;cases hm:z7 iX w with
 | none=>rw[hm] at h;exact absurd rfl h
 | some i=>
  rw[hm] at h;refine⟨rfl,by have:i≠0:=h;show 1<=i;omega,?_⟩;obtain⟨p,hp,rfl,_⟩:=tq hm;have:∀p∈iX,p.2<=17:=by decide
  exact this p hp
theorem NL{w:ByteArray}(h:sM w=0):z7 iX w=none:=by
 unfold sM at h;cases hm:z7 iX w with
 | none=>rfl
 | some i=>
  rw[hm] at h;have h0:i=0:=h;obtain⟨p,hp,e,_⟩:=tq hm;have:∀p∈iX,p.2≠0:=by decide
  exact absurd (e.trans h0) (this p hp)
def Oa(i n:Nat):Bool:=if i=13 then n % 4==1 else (n:Int)==vL i
theorem Nt{i n:Nat}(h1:1<=i)(h2:i<=17)(hn:n<=100000):oH (pK i).takes (n:Int)=some (Oa i n):=by
 have hi:i=1\/i=2\/i=3\/i=4\/i=5\/i=6\/i=7\/i=8\/i=9\/i=10\/i=11\/i=12\/i=13\/i=14\/i=15\/i=16\/i=17:=by omega
 have h13:oH (pK 13).takes (n:Int)=some (Oa 13 n):=by
  show (rem (n:Int) 4).bind (λv1=>some (v1==1))=some (n % 4==1);rw[lY (by omega) (by decide),YK];congr 1;rw[zbs,we,we];omega
 rcases hi with rfl | rfl | rfl | rfl | rfl | rfl | rfl | rfl | rfl | rfl | rfl | rfl | rfl | rfl | rfl | rfl | rfl
 all_goals first
  | exact h13
  | rfl
def pF(n:Int):List UInt8:=fR ((nV n).getD ByteArray.empty)
theorem AM{n:Int}(h0 : -9223372036854775808<=n)(h1:n<=9223372036854775807):nV n=some (p8 (pF n))/\(pF n).length<=21:=by
 obtain⟨l,e,h⟩:=Nk h0 h1;unfold pF;rw[e,zX,G1];exact⟨rfl,h⟩
def qm(e:Int):ByteArray:=p8 ([101,114,114,111,114,32]++pF e)
theorem qn{e:Int}(h:EB e):B8 e=some (qm e):=by
 obtain⟨h1,h2⟩:=AM (n:=e) (by have:=h.1;omega) (by have:=h.2;omega);unfold B8;rw[h1,YK,gh (by rw[G5,G5];simp only[zj,zV];omega),YK,G1,G1];rfl
def DP(p:Int × Int):ByteArray:=if p.2≠0 then qm p.2 else p8 (pF p.1)
theorem Nb{p:Int × Int}(hv : -9223372036854775808<=p.1/\p.1<=9223372036854775807)(he:EB p.2):cW (XI p)=some (DP p):=by
 unfold DP;show (if (p.2 != 0)=true then (B8 p.2).bind (λv1=>some v1) else (nV p.1).bind λv2=>some v2)=_;by_cases q:p.2=0
 .rw[za (by simp[q]),za (by simp[q]),(AM hv.1 hv.2).1];rfl
 .rw[zb (by simpa using q),zb q,qn he];rfl
def ny(w:List UInt8)(l:List Int):List UInt8:=l.foldl (λw n=>w++32::pF n) w
theorem Fq(w:List UInt8)(l:List Int)(n:Int):ny w (l ++ [n])=ny w l++32::pF n:=by
 unfold ny;rw[za5];rfl
def VO(n:Int):Prop:=-9223372036854775808<=n/\n<=9223372036854775807
theorem Jd(w:List UInt8)(l:List Int)(h:∀n∈l,VO n):(ny w l).length<=w.length+22*l.length:=by
 induction l generalizing w with
 | nil=>exact zt _
 | cons n l ih=>
  have h1:=ih (w++32::pF n) λm hm=>h m (zo _ hm);have h2:=(AM (h n (zh ..)).1 (h n (zh ..)).2).2;simp only[zx,zj] at h1 |-;show (ny (w++32::pF n) l).length<=_;omega
theorem tj{w:List UInt8}{l:List Int}(hw:w.length<=100)(hl:l.length<=100)(h:∀n∈l,VO n):W0 (p8 w) l=some (p8 (ny w l)):=by
 unfold W0;simp only[jn];refine vj (λ(x:ByteArray × Int)=>∃k:Nat,x.2=(k:Int)/\k<=l.length/\x.1=p8 (ny w (l.take k))) (λx=>l.length-x.2.toNat) ⟨0,rfl,ut _,rfl⟩ (by simp only;omega) ?_;rintro⟨s,kk⟩ ⟨k,h1,h2,h3⟩;simp only at h1 h3;subst h1;subst h3;by_cases hk:k<l.length
 .have hb:=h _ (zl hk);obtain⟨d1,d2⟩:=AM hb.1 hb.2;have hlen:=Jd w (l.take k) λn hn=>h n (mt hn);have htk:(l.take k).length<=100:=by rw[q9];omega
  refine .inl ⟨(p8 (ny w (l.take k)++32::pF l[k]),((k+1:Nat):Int)),?_,⟨k+1,rfl,hk,?_⟩,?_⟩
  .rw[zb (by simpa using hk),u9 hk,YK,d1,YK,gh (by rw[G5,G5];simp only[zj,zV];omega),YK,gh (by rw[G5,G5,zx,G1,G1];simp only[zj,zV];omega),YK,o9];simp only[G1];rfl
  .show p8 _=_;rw[zu hk,Fq]
  .simp only[zU];omega
 .rw[za (by simpa using hk)];refine .inr ⟨_,rfl,?_⟩;rw[za3 (by omega)]
structure Cn (c:c4) (n:Nat):Prop where
 pg:bY c.progs=true
 mp:Mp c.g.Progs
 rs:c.begun=true->Rs c.g.X n
theorem Cn.mono{c:c4}{n m:Nat}(h:Cn c n)(hm:n<=m):Cn c m:=
 ⟨h.pg,h.mp,λq=>⟨(h.rs q).rt,(h.rs q).sl,(h.rs q).zr,by have:=(h.rs q).R9;omega⟩⟩
theorem MA{l:List (List e6)}(h:bY l=true):l.length<=6/\∀p∈l,p.length<=6:=by
 refine⟨?_,(RW h).1⟩;unfold bY at h;rw[zk] at h;exact zbd h.1
def okB:ByteArray:=p8 [111,107]
def Yr:ByteArray:=p8 [110,111,32,104,101,97,112]
def Z4(k:Int)(l:List Int):List Int:=k::(l++List.replicate (3-l.length) 0)
noncomputable def Pf(c:c4)(k:Int)(l:List Int):c4 × ByteArray:=
 (⟨⟨(er c.g.Progs c.g.X (Z4 k l)).1,c.g.Progs⟩,c.begun,c.progs⟩,DP (er c.g.Progs c.g.X (Z4 k l)).2)
theorem Xh{x:Hp}{n:Nat}(h:Rs x n)(hn:n<=1000000):x.S.Serial<7000000000000000000:=by have:=h.R9;omega
theorem Ke{x:Hp}{n:Nat}(h:Rs x n)(hn:n<=1000000){p:Int × Int}(hp:(-1000<=p.1/\p.1<=x.S.Serial+1000)/\EB p.2):cW (XI p)=some (DP p):=
 Nb (by have:=h.R9;omega) hp.2
theorem UZ{c:c4}{n:Nat}(hc:Cn c n)(hb:c.begun=true)(hn:n<=1000000)(k:Int){l:List Int}(hl:l.length<=3) :
  O5 c l k=some (Pf c k l)/\Cn (Pf c k l).1 (n+201):=by
 have hr:=hc.rs hb;have h7:=Xh hr hn;obtain⟨⟨x,ps⟩,b,pg⟩:=c;have hm:Mp ps:=hc.mp;have hr:Rs x n:=hr;refine⟨?_,hc.pg,hm,λ_=>?_⟩
 .unfold O5 V1;have e1:mk 8 4 (0:Int)=some [0,0,0,0]:=rfl;have e2:CL ([0,0,0,0].set (0:Int).toNat k) 1 l=some (Z4 k l):=by
   unfold CL Z4;rw[zb ⟨by decide,by simp;omega⟩];match l,hl with
   | [],_=>rfl
   | [a],_=>rfl
   | [a,b],_=>rfl
   | [a,b,c],_=>rfl
  have e3:ix [(0:Int),0,0,0] 0=some 0:=rfl;rw[e1,YK,e3,YK,e2,YK,YA hm hr.oh h7 (Z4 k l),YK];dsimp only;rw[Ke hr hn (RF hm hr.oh h7 (Z4 k l))];rfl
 .obtain⟨o1,o2⟩:=RG hm hr.oh h7 (Z4 k l);exact⟨o1.rt,o1.sl,o1.zr,by have:=hr.R9;show (er ps x (Z4 k l)).1.S.Serial<=_;omega⟩
noncomputable def Wu(x:Hp):ByteArray:=p8 (ny [108,105,118,101,115] (Np x))
noncomputable def MX(x:Hp):List Int:=(List.range 6).map λ(r:Nat)=>R9 x (sd x (r:Int))
noncomputable def Xe(x:Hp):ByteArray:=p8 (ny [114,111,111,116,115] (MX x))
noncomputable def Xl(x:Hp):ByteArray:=p8 (ny [116,97,108,108,121] [(NZ x).a,(NZ x).b,(NZ x).c,(NZ x).d])
section
variable{x:Hp}{ps:List (List e6)}(hx:O4 x){n:Nat}(hn:x.S.Serial<=n)(h1:n<=1000000)
include hx hn h1
theorem Vh:∀m∈Np x,VO m:=λm hm=>by
 unfold Np at hm;obtain⟨h,hh,rfl⟩:=zE.1 hm;have:=Ng hx (.inr hh);exact⟨by omega,by omega⟩
theorem Va:∀m∈MX x,VO m:=λm hm=>by
 unfold MX at hm;obtain⟨r,_,rfl⟩:=zE.1 hm;have:=Ng hx (pW hx.sh (r:Int));exact⟨by omega,by omega⟩
theorem Vp:∀m ∈ [(NZ x).a,(NZ x).b,(NZ x).c,(NZ x).d],VO m:=λm hm=>by
 have hl:=hx.sh.sr.len;have key:∀k,0<=((yx x.S.S.a8 k:Nat):Int)/\((yx x.S.S.a8 k:Nat):Int)<=24:=λk=>by
  have:yx x.S.S.a8 k<=x.S.S.a8.length:=zbi;omega
 simp only[NZ,zL,zbk,or_false] at hm;rcases hm with rfl | rfl | rfl | rfl <;> exact⟨by have:=key 0;have:=key 1;have:=key 2;have:=key 3;omega,by have:=key 0;have:=key 1;have:=key 2;have:=key 3;omega⟩
theorem LF(b:Bool)(pg:List (List e6))(l:List Int):K1 ⟨⟨x,ps⟩,b,pg⟩ l=some (⟨⟨x,ps⟩,b,pg⟩,Wu x):=by
 unfold K1;rw[Ts hx,YK,tj (by decide) (by have:=Ih (x:=x) hx.sh.sr;omega) (Vh hx hn h1)];rfl
theorem Nu(b:Bool)(pg:List (List e6))(l:List Int):R3 ⟨⟨x,ps⟩,b,pg⟩ l=some (⟨⟨x,ps⟩,b,pg⟩,Xl x):=by
 unfold R3;rw[Yf hx,YK,tj (by decide) (by simp) (Vp hx hn h1)];rfl
theorem MT(b:Bool)(pg:List (List e6))(l:List Int):K2 ⟨⟨x,ps⟩,b,pg⟩ l=some (⟨⟨x,ps⟩,b,pg⟩,Xe x):=by
 unfold K2;have e1:mk 8 6 (0:Int)=some [0,0,0,0,0,0]:=rfl;rw[e1,YK];simp only[jn];refine Y2 6 (λk t=>t.length=6/\t.take k=(MX x).take k) (by decide) ⟨rfl,rfl⟩ (λk t hk ht=>.inl ⟨t.set k (R9 x (sd x (k:Int))),?_,by rw[zao];exact ht.1,?_⟩) λt ht=>⟨t,za (by simp),?_⟩
 .dsimp only;rw[zb (by simp;omega),CG hx.sh (k:Int),YK,u9 (by rw[ht.1];exact hk),YK,o9];rfl
 .have hk2:k<(MX x).length:=by unfold MX;rw[t7,List.length_range];exact hk
  have hk3:k<t.length:=by rw[ht.1];exact hk
  have e0:(MX x)[k]? = some (R9 x (sd x (k:Int))):=by
   unfold MX;rw[zG,List.getElem?_range hk];rfl
  have e:(MX x)[k]=R9 x (sd x (k:Int)):=(zw.1 e0).2;rw[zu (by rw[zao];exact hk3),List.getElem_set_self,List.take_set_of_le (zt _),ht.2,zu hk2,e]
 .have ht2:=ht.2;have hr:(MX x).length=6:=by unfold MX;rw[t7,List.length_range]
  rw[za3 (by omega),za3 (by omega)] at ht2;subst ht2;rw[tj (by decide) (by omega) (Va hx hn h1)];rfl
end
def gS:List Int->List e6
 | a::b::c::d::r=>⟨a,b,c,d⟩::gS r
 | _=>[]
theorem Hv:∀l:List Int,(gS l).length*4<=l.length
 | []=>zt _
 | [_]=>by simp[gS]
 | [_,_]=>by simp[gS]
 | [_,_,_]=>by simp[gS]
 | a::b::c::d::r=>by
  have:=Hv r;simp only[gS,zj];omega
def pR(p:List (List e6))(l:List Int):List (List e6):=(p++List.replicate ((l.headD 0).toNat+1-p.length) []).set (l.headD 0).toNat (gS (l.drop 1))
def Pe(c:c4)(l:List Int):c4 × ByteArray:=
 if l.headD 0<0\/l.headD 0 > 5 then (c,qm 13)
 else if bY (pR c.progs l)=true then (⟨c.g,c.begun,pR c.progs l⟩,okB) else (c,qm 13)
theorem Xz:EB 13:=by constructor <;> simp
theorem Qw{p:List (List e6)}{l:List Int}(h0:0<=l.headD 0)(h5:l.headD 0<=5)(hp:p.length<=6)(hq:∀q∈p,q.length<=6)(hl:l.length<=4000):(pR p l).length<=12/\∀q∈pR p l,q.length<=1000:=by
 unfold pR;refine⟨by rw[zao,zx,zby];omega,λq hm=>?_⟩;rcases zak hm with h | rfl
 .rcases zy.1 h with h | h
  .have:=hq q h;omega
  .rw[(zbl.1 h).2];simp
 .have:=Hv (l.drop 1);rw[zci] at this;omega
theorem UG{c:c4}{n:Nat}(hc:Cn c n){l:List Int}(hl:l.length % 4=1)(hm:l.length<=4000) :
  N6 c l=some (Pe c l)/\Cn (Pe c l).1 n:=by
 obtain⟨p6,q6⟩:=MA hc.pg;obtain⟨a,r,rfl⟩:∃a r,l=a::r:=by
  cases l with
  | nil=>simp at hl
  | cons a r=>exact⟨a,r,rfl⟩
 have e0:ix (a::r) 0=some a:=rfl;have hP:Pe c (a::r)=if a<0\/a > 5 then (c,qm 13) else if bY (pR c.progs (a::r))=true then (⟨c.g,c.begun,pR c.progs (a::r)⟩,okB) else (c,qm 13):=rfl
 unfold N6;rw[e0,YK,hP];by_cases h:a<0\/a > 5
 .rw[zb (by simp only[zae,t8];omega),qn Xz,zb h];exact⟨rfl,hc⟩
 .rw[za (by simp only[zae,t8];omega),za h];obtain⟨k,rfl⟩:∃k:Nat,a=k:=⟨a.toNat,by omega⟩;have hw:z6 ((k:Int)+1)=((k+1:Nat):Int):=o9 (by omega);have hmx:(if (c.progs.length:Int) > z6 ((k:Int)+1) then (c.progs.length:Int) else z6 ((k:Int)+1))=((max (k+1) c.progs.length:Nat):Int):=by
   rw[hw];split <;> omega
  have h12:max (k+1) c.progs.length<=12:=by omega
  rw[hmx,jU (by omega) (by omega),YK];have hcp:uG (List.replicate (max (k+1) c.progs.length) ([]:List e6)) c.progs=some (c.progs++List.replicate (k+1-c.progs.length) []):=by
   unfold uG;rw[zb (by rw[zby];omega),List.drop_replicate,show max (k+1) c.progs.length-c.progs.length=k+1-c.progs.length by omega]
  have hkl:k<(c.progs++List.replicate (k+1-c.progs.length) ([]:List e6)).length:=by simp;omega
  rw[hcp,YK,u9 hkl,YK];simp only[jn];have hct:cut ((k:Int)::r) 1 ((((k:Int)::r).length:Nat):Int)=some r:=by
   have:=lh (xs:=(k:Int)::r) (i:=1) (j:=((k:Int)::r).length) (by simp) (zt _);rw[zY] at this;exact this
  rw[hct,YK];have hr4:r.length % 4=0:=by simp only[zj] at hl;omega
  have hrl:r.length<=4000:=by simp only[zj] at hm;omega
  have S9:=Qw (p:=c.progs) (l:=(k:Int)::r) (by simp only[List.headD_cons];omega) (by simp only[List.headD_cons];omega) p6 q6 hm;have hpg:(c.progs++List.replicate (k+1-c.progs.length) ([]:List e6)).set (k:Int).toNat (gS r)=pR c.progs ((k:Int)::r):=by
   unfold pR;simp only[List.headD_cons,zU,List.drop_one,List.tail_cons]
  have key:∀K:List e6->Option (c4 × ByteArray),(lp (S:=(List Int) × (List e6)) (E:=(List e6)) (λ((s24,s25):(List Int) × (List e6))=>
   if (decide ((s24.length:Int) > 0)) then
    (ix s24 0).bind λv28=>
    (ix s24 1).bind λv29=>
    (ix s24 2).bind λv30=>
    (ix s24 3).bind λv31=>
    (app 32 s25 [(⟨v28,v29,v30,v31⟩:e6)]).bind λv32=>
    (cut s24 4 (s24.length:Int)).bind λv33=>
    some (.inl (v33,v32))
   else
   some (.inr s25)) (r,[])).bind K=K (gS r):=by
   intro K;have:(lp (S:=(List Int) × (List e6)) (E:=(List e6)) (λ((s24,s25):(List Int) × (List e6))=>
   if (decide ((s24.length:Int) > 0)) then
    (ix s24 0).bind λv28=>
    (ix s24 1).bind λv29=>
    (ix s24 2).bind λv30=>
    (ix s24 3).bind λv31=>
    (app 32 s25 [(⟨v28,v29,v30,v31⟩:e6)]).bind λv32=>
    (cut s24 4 (s24.length:Int)).bind λv33=>
    some (.inl (v33,v32))
   else
   some (.inr s25)) (r,[]))=some (gS r):=by
    refine eN (lG (λ(x:List Int × List e6)=>x.1.length % 4=0/\x.2.length+x.1.length<=4000/\x.2++gS x.1=gS r) (λe=>e=gS r) (λx=>x.1.length) ⟨hr4,by simp only[zV];omega,rfl⟩ (by simp only;omega) ?_);rintro⟨u,v⟩ ⟨h1,h2,h3⟩;simp only at h1 h2 h3;match u,h1,h2,h3 with
    | [],_,_,h3=>exact .inr ⟨_,rfl,by rw[<-h3];simp[gS]⟩
    | [_],h1,_,_=>simp at h1
    | [_,_],h1,_,_=>simp at h1
    | [_,_,_],h1,_,_=>simp at h1
    | a::b::c'::d::t,h1,h2,h3=>
     simp only[zj] at h1 h2;have ct:cut (a::b::c'::d::t) 4 (((a::b::c'::d::t).length:Nat):Int)=some t:=by
      have:=lh (xs:=a::b::c'::d::t) (i:=4) (j:=(a::b::c'::d::t).length) (by simp only[zj];omega) (zt _);rw[zY] at this;exact this
     refine .inl ⟨(t,v ++ [⟨a,b,c',d⟩]),?_,⟨by simp only;omega,by simp only[zx,wd];omega,?_⟩,by simp only[zj];omega⟩
     .refine (zb (by simp only[zj,t8];omega)).trans ?_;show (app 32 v [(⟨a,b,c',d⟩:e6)]).bind _=_;rw[C4 (by decide) (by simp only[wd];omega),YK,ct];rfl
     .rw[<-h3];simp[gS]
   rw[this];rfl
  rw[key,hpg,DB S9.1 S9.2,YK];cases hq:bY (pR c.progs ((k:Int)::r))
  .rw[zb (by rfl),qn Xz,za (by decide)];exact⟨rfl,hc⟩
  .rw[za (by decide),zb rfl];exact⟨rfl,hq,hc.mp,hc.rs⟩
noncomputable def CI(c:c4)(l:List Int):c4 × ByteArray:=
 let r:=(H0 (l.getD 0 0) (l.getD 1 0) (l.getD 2 0) c.progs).getD (c.g,0)
 if r.2≠0 then (c,qm r.2) else (⟨r.1,true,c.progs⟩,okB)
theorem TO{c:c4}{n:Nat}(hc:Cn c n){l:List Int}(hl:l.length=3) :
  M5 c l=some (CI c l)/\Cn (CI c l).1 n:=by
 obtain⟨a,b,d,rfl⟩:∃a b d,l = [a,b,d]:=by
  match l,hl with
  | [a,b,d],_=>exact⟨a,b,d,rfl⟩
 obtain⟨p6,q6⟩:=MA hc.pg;have e0:ix [a,b,d] 0=some a:=rfl;have e1:ix [a,b,d] 1=some b:=rfl;have e2:ix [a,b,d] 2=some d:=rfl;have hH:CI c [a,b,d]=if ((H0 a b d c.progs).getD (c.g,0)).2≠0 then (c,qm ((H0 a b d c.progs).getD (c.g,0)).2) else (⟨((H0 a b d c.progs).getD (c.g,0)).1,true,c.progs⟩,okB):=rfl
 unfold M5;rw[e0,YK,e1,YK,e2,YK];rcases RX (n:=a) (last:=b) (places:=d) (ps:=c.progs) (by omega) (λp hp=>by have:=q6 p hp;omega) with ⟨e,h1,_,h3⟩ | ⟨k,p,_,_,_,hm,hr,h1,_⟩
 .have he:e≠0:=by rcases h3 with rfl | ⟨rfl,_⟩ <;> decide
  have hb:EB e:=by rcases h3 with rfl | ⟨rfl,_⟩ <;> constructor <;> simp
  have hH2:CI c [a,b,d]=(c,qm e):=by
   rw[hH,h1,zX];exact zb he
  rw[hH2,h1,YK];refine⟨(zb (by simpa using he)).trans ?_,hc⟩;show (B8 e).bind _=_;rw[qn hb];rfl
 .have hH2:CI c [a,b,d]=(⟨⟨wM k b p,c.progs⟩,true,c.progs⟩,okB):=by
   rw[hH,h1,zX];exact za (λq=>q rfl)
  rw[hH2,h1,YK];exact⟨rfl,hc.pg,hm,λ_=>⟨hr.rt,hr.sl,hr.zr,by have:=hr.R9;show (wM k b p).S.Serial<=_;omega⟩⟩
noncomputable def vJ(c:c4)(i:Nat)(l:List Int):c4 × ByteArray:=
 if i=13 then Pe c l else if i=14 then CI c l else if i=15 then (c,Wu c.g.X) else if i=16 then (c,Xe c.g.X) else if i=17 then (c,Xl c.g.X) else Pf c i l
noncomputable def jb(c:c4)(w:ByteArray)(ws:List ByteArray):c4 × ByteArray:=
 if sM w=0\/(nm ws).2=false\/Oa (sM w) (nm ws).1.length=false then (c,qm 33)
 else if c.begun=false/\sM w≠13/\sM w≠14 then (c,Yr)
 else vJ c (sM w) (nm ws).1
theorem Ye:EB 33:=by constructor <;> simp
theorem KI{i:Nat}(h1:1<=i)(h2:i<=17):(pK i).early=decide (i=13\/i=14):=by
 have hi:i=1\/i=2\/i=3\/i=4\/i=5\/i=6\/i=7\/i=8\/i=9\/i=10\/i=11\/i=12\/i=13\/i=14\/i=15\/i=16\/i=17:=by omega
 rcases hi with rfl | rfl | rfl | rfl | rfl | rfl | rfl | rfl | rfl | rfl | rfl | rfl | rfl | rfl | rfl | rfl | rfl <;> rfl
theorem SX{c:c4}{n:Nat}(hc:Cn c n)(hn:n<=1000000){i:Nat}(h1:1<=i)(h2:i<=17){l:List Int}(ht:Oa i l.length=true)(hm:l.length<=4000)(hb:c.begun=true\/i=13\/i=14) :
  oI (pK i).run c l=some (vJ c i l)/\Cn (vJ c i l).1 (n+201):=by
 have hi:(1<=i/\i<=12)\/i=13\/i=14\/i=15\/i=16\/i=17:=by omega
 rcases hi with hi | rfl | rfl | rfl | rfl | rfl
 .have hbg:c.begun=true:=by
   rcases hb with q | q | q
   .exact q
   .omega
   .omega
  have hl:l.length<=3:=by
   unfold Oa at ht;rw[za (by omega),we] at ht;have:∀j:Nat,vL j<=3:=λj=>by
    unfold vL;rw[zf];rcases zD j 18 with q | q
    .have hj:∀j:Fin 18,(([0,3,2,1,3,3,3,2,2,2,2,0,1,0,3,0,0,0]:List Int)[j.1]?).getD 0<=3:=by decide
     exact hj ⟨j,q⟩
    .rw[qr (by simpa using q)];decide
   have:=this i;omega
  have hf:oI (pK i).run c l=O5 c l i:=by
   unfold pK;rw[za (by omega),za (by omega),za (by omega),za (by omega),za (by omega)];rfl
  have ha:vJ c i l=Pf c i l:=by
   unfold vJ;rw[za (by omega),za (by omega),za (by omega),za (by omega),za (by omega)]
  rw[hf,ha];exact UZ hc hbg hn i hl
 .have hl:l.length % 4=1:=by
   have ht:(l.length % 4==1)=true:=ht;exact we.1 ht
  obtain⟨a,b⟩:=UG hc hl hm;exact⟨a,b.mono (by omega)⟩
 .have hl:l.length=3:=by
   have ht:((l.length:Int)==3)=true:=ht;have:=we.1 ht;omega
  obtain⟨a,b⟩:=TO hc hl;exact⟨a,b.mono (by omega)⟩
 all_goals
  have hbg:c.begun=true:=by
   rcases hb with q | q | q
   .exact q
   .omega
   .omega
  have hr:=hc.rs hbg;refine⟨?_,hc.mono (by omega)⟩;obtain⟨⟨x,ps⟩,b,pg⟩:=c
 .exact LF hr.rt hr.R9 hn b pg l
 .exact MT hr.rt hr.R9 hn b pg l
 .exact Nu hr.rt hr.R9 hn b pg l
theorem FP{c:c4}{n:Nat}(hc:Cn c n)(hn:n<=1000000){w:ByteArray}{ws:List ByteArray}(hw:XH (w::ws))(hm:ws.length<=4000) :
  D2 c (w::ws)=some (jb c w ws)/\Cn (jb c w ws).1 (n+201):=by
 have hws:XH ws:=⟨by have:=hw.1;simp only[zj] at this;omega,λv hv=>hw.2 v (zo _ hv)⟩;have e0:ix (w::ws) 0=some w:=rfl;have hct:cut (w::ws) 1 (((w::ws).length:Nat):Int)=some ws:=by
  have:=lh (xs:=w::ws) (i:=1) (j:=(w::ws).length) (by simp) (zt _);rw[zY] at this;exact this
 have hnl:=Uj ws;have hE:∀ {q:Prop},jb c w ws=(c,qm 33)->Cn (jb c w ws).1 (n+201):=λh=>by rw[h];exact hc.mono (by omega)
 unfold D2;rw[Pk,YK,e0,YK,hct,YK,Qa hws,YK,Hl];by_cases h0:sM w=0
 .have hR:jb c w ws=(c,qm 33):=zb (.inl h0);refine⟨?_,hE (q:=True) hR⟩;rw[NL h0,hR];show (if (((!false)||(!(nm ws).2))==false)=true then _ else (B8 33).bind _)=_;rw[za (by simp),qn Ye];rfl
 obtain⟨hs,h1,h17⟩:=NM h0;rw[hs];cases h2:(nm ws).2
 .have hR:jb c w ws=(c,qm 33):=zb (.inr (.inl h2));refine⟨?_,hE (q:=True) hR⟩;rw[hR];show (if (((!true)||(!false))==false)=true then _ else (B8 33).bind _)=_;rw[za (by decide),qn Ye];rfl
 show (if (((!true)||(!true))==false)=true then ((oH (pK (sM w)).takes ((nm ws).1.length:Int)).bind λv5=>if (!v5)=true then (B8 33).bind (λv8=>some (c,v8)) else if ((!c.begun)&&(!(pK (sM w)).early))=true then some (c,Yr) else (oI (pK (sM w)).run c (nm ws).1).bind λv9=>some (v9.1,v9.2)) else _)=_/\_;rw[zb (by decide),Nt h1 h17 (by have:=hws.1;omega),YK];cases h3:Oa (sM w) (nm ws).1.length
 .have hR:jb c w ws=(c,qm 33):=zb (.inr (.inr h3));refine⟨?_,hE (q:=True) hR⟩;rw[hR,zb (by decide),qn Ye];rfl
 have hN:¬(sM w=0\/(nm ws).2=false\/Oa (sM w) (nm ws).1.length=false):=by rw[h2,h3];simp[h0]
 rw[za (by decide),KI h1 h17];by_cases h4:c.begun=false/\sM w≠13/\sM w≠14
 .have hR:jb c w ws=(c,Yr):=(za hN).trans (zb h4);refine⟨?_,by rw[hR];exact hc.mono (by omega)⟩;rw[hR,h4.1,zI (by omega),zb (by decide)]
 .have hb:c.begun=true\/sM w=13\/sM w=14:=by
   cases hq:c.begun
   .rw[hq] at h4;by_cases q1:sM w=13
    .exact .inr (.inl q1)
    by_cases q2:sM w=14
    .exact .inr (.inr q2)
    exact absurd ⟨rfl,q1,q2⟩ h4
   .exact .inl rfl
  obtain⟨a1,a2⟩:=SX hc hn h1 h17 (l:=(nm ws).1) h3 (by omega) hb;have hR:jb c w ws=vJ c (sM w) (nm ws).1:=(za hN).trans (za h4);rw[hR];refine⟨?_,a2⟩;rw[za (by
   rw[zk,za6,za6,decide_eq_false_iff_not];rintro⟨q1,q2⟩;rcases hb with q | q | q
   .rw[q1] at q;cases q
   .exact q2 (.inl q)
   .exact q2 (.inr q)),a1]
  rfl
def bb:List UInt8->List (List UInt8)->List UInt8->List (List (List UInt8))
 | w,r,[]=>if Q4 w r = [] then [] else [Q4 w r]
 | w,r,b::l=>if b=10 then (if Q4 w r = [] then bb [] [] l else Q4 w r::bb [] [] l) else if Eu b=true then bb [] (Q4 w r) l else bb (w ++ [b]) r l
def uT(xs:List (List UInt8)):List (List (List UInt8)):=(xs.map (ao [] [])).filter λr => !(r == [])
theorem sL(x:List UInt8)(xs:List (List UInt8)):uT (x::xs)=(if ao [] [] x = [] then [] else [ao [] [] x])++uT xs:=by
 unfold uT;rw[ww,m7];by_cases h:ao [] [] x = []
 .rw[za (by simp[h]),zb h];rfl
 .rw[zb (by simp[h]),za h];rfl
theorem rG:∀(l w:List UInt8) (r:List (List UInt8)),∃x xs,xN l=x::xs/\bb w r l=(if ao w r x = [] then [] else [ao w r x])++uT xs
 | [],w,r=>⟨[],[],rfl,by
  show (if Q4 w r = [] then [] else [Q4 w r])=(if Q4 w r = [] then [] else [Q4 w r]) ++ [];rw[pm]⟩
 | b::l,w,r=>by
  by_cases hb:b=10
  .obtain⟨x,xs,h1,h2⟩:=rG l [] [];refine⟨[],xN l,by rw[xN,zb hb],?_⟩;rw[bb,zb hb,h2,h1,sL];show _=(if Q4 w r = [] then [] else [Q4 w r])++_;split <;> rfl
  .by_cases hB:Eu b=true
   .obtain⟨x,xs,h1,h2⟩:=rG l [] (Q4 w r);refine⟨b::x,xs,by rw[xN,za hb,h1],?_⟩;rw[bb,za hb,zb hB,h2,ao,zb hB]
   .obtain⟨x,xs,h1,h2⟩:=rG l (w ++ [b]) r;refine⟨b::x,xs,by rw[xN,za hb,h1],?_⟩;rw[bb,za hb,za hB,h2,ao,za hB]
theorem LM(l:List UInt8):bb [] [] l=uT (xN l):=by
 obtain⟨x,xs,h1,h2⟩:=rG l [] [];rw[h2,h1,sL]
theorem rF(m:List UInt8):∀(l w:List UInt8) (r:List (List UInt8)),bb w r (l++10::m)=bb w r l++bb [] [] m
 | [],w,r=>by
  have e:bb w r (10::m)=if Q4 w r = [] then bb [] [] m else Q4 w r::bb [] [] m:=by
   rw[bb];exact zb rfl
  rw[zbr,e];show _=(if Q4 w r = [] then [] else [Q4 w r])++bb [] [] m;split <;> rfl
 | b::l,w,r=>by
  rw[zb6,bb,bb];split
  .split;·exact rF m l [] []
   .rw[rF m l [] []];rfl
  split;·exact rF m l [] (Q4 w r)
  .exact rF m l (w ++ [b]) r
theorem Ig:∀l:List UInt8,(xN l).length<=l.length+1/\∀x∈xN l,x.length<=l.length
 | []=>⟨zt _,λx hx=>by rw[xN,zJ] at hx;rw[hx];exact zt _⟩
 | b::l=>by
  obtain⟨h1,h2⟩:=Ig l;rw[xN];split
  .refine⟨by simp only[zj];omega,λx hx=>?_⟩;rcases zL.1 hx with rfl | hx
   .simp
   .have:=h2 x hx;simp only[zj];omega
  .split
   .rename_i y ys e;rw[e] at h1 h2;simp only[zj] at h1;refine⟨by simp only[zj];omega,λx hx=>?_⟩;rcases zL.1 hx with rfl | hx
    .have:=h2 y (zh ..);simp only[zj];omega
    .have:=h2 x (zo _ hx);simp only[zj];omega
   .refine⟨by simp,λx hx=>?_⟩;rw[zJ] at hx;rw[hx];simp
theorem yD(w:List UInt8)(r:List (List UInt8)){m:Nat}(hw:w.length<=m)(hr:∀x∈r,x.length<=m):(Q4 w r).length<=r.length+1/\∀x∈Q4 w r,x.length<=m:=by
 unfold Q4;split;·exact⟨Nat.le_succ _,hr⟩
 .refine⟨by simp,λx hx=>?_⟩;rcases zy.1 hx with h | h
  .exact hr x h
  .rw[zJ.1 h];exact hw
theorem wh{m:Nat}:∀(l w:List UInt8) (r:List (List UInt8)),w.length+l.length<=m->(∀x∈r,x.length<=m)->(ao w r l).length<=r.length+l.length+1/\∀x∈ao w r l,x.length<=m
 | [],w,r,hw,hr=>by
  have:=yD w r (m:=m) (by simpa using hw) hr;exact⟨by simp only[ao,zV];omega,this.2⟩
 | b::l,w,r,hw,hr=>by
  simp only[zj] at hw |-;rw[ao];split
  .have h1:=yD w r (m:=m) (by omega) hr;have:=wh l [] (Q4 w r) (by simp only[zV];omega) h1.2;exact⟨by omega,this.2⟩
  .have:=wh l (w ++ [b]) r (by simp only[zx,wd];omega) hr;exact⟨by omega,this.2⟩
noncomputable def tL(c:c4)(r:List (List UInt8)):c4 × ByteArray:=match r with
 | []=>(c,ByteArray.empty)
 | w::ws=>jb c (p8 w) (ws.map p8)
noncomputable def P6(c:c4)(rs:List (List (List UInt8))):c4 × List ByteArray:=rs.foldl (λp r=>((tL p.1 r).1,p.2 ++ [(tL p.1 r).2])) (c,[])
theorem xn:∀(rs:List (List (List UInt8))) (c:c4) (a:List ByteArray),rs.foldl (λp r=>((tL p.1 r).1,p.2 ++ [(tL p.1 r).2])) (c,a)=((P6 c rs).1,a++(P6 c rs).2)
 | [],c,a=>by simp[P6]
 | r::rs,c,a=>by
  unfold P6;rw[zat,zat,xn rs,xn rs,p0];rfl
theorem ss(c:c4)(a b:List (List (List UInt8))):P6 c (a++b)=((P6 (P6 c a).1 b).1,(P6 c a).2++(P6 (P6 c a).1 b).2):=by
 have:P6 c (a++b)=b.foldl (λp r=>((tL p.1 r).1,p.2 ++ [(tL p.1 r).2])) (P6 c a):=by
  unfold P6;rw[za5]
 rw[this];exact xn b _ _
theorem nR(c:c4)(r:List (List UInt8)):P6 c [r]=((tL c r).1,[(tL c r).2]):=rfl
theorem Na(c:c4)(a:List (List (List UInt8))):(P6 c a).2.length=a.length:=by
 induction a generalizing c with
 | nil=>rfl
 | cons r a ih=>
  have:=ss c [r] a;rw[List.singleton_append] at this;rw[this,nR];simp only[zx,zj,zV,ih];omega
def c0:c4:=⟨⟨⟨⟨⟨[],0⟩,0⟩,[],[],[],⟨[],0⟩⟩,[]⟩,false,[]⟩
theorem RA:Cn c0 0:=⟨rfl,(λp hp=>absurd (show p∈([]:List (List e6)) from hp) zbk),(λq=>absurd (show false=true from q) (by decide))⟩
theorem LD{s:ByteArray}(hs:s.size<=2000):Z7 s=some (P6 c0 (bb [] [] (fR s))).2/\Cn (P6 c0 (bb [] [] (fR s))).1 500000:=by
 have hl:=qO s;obtain⟨s1,s2⟩:=Ig (fR s);rw[LM];generalize hX:xN (fR s)=xs at s1 s2;have hC:∀k,k<=xs.length->Cn (P6 c0 (uT (xs.take k))).1 (201*k)/\∀h:k<xs.length,ao [] [] xs[k] ≠ []->D2 (P6 c0 (uT (xs.take k))).1 ((ao [] [] xs[k]).map p8)=some (tL (P6 c0 (uT (xs.take k))).1 (ao [] [] xs[k])):=by
  have one:∀ {c:c4} {k:Nat},Cn c (201*k)->∀h:k<xs.length,ao [] [] xs[k] ≠ []->D2 c ((ao [] [] xs[k]).map p8)=some (tL c (ao [] [] xs[k]))/\Cn (tL c (ao [] [] xs[k])).1 (201*(k+1)):=by
   intro c k hc h hne;have hx:=s2 _ (zl h);obtain⟨f1,f2⟩:=wh (m:=(fR s).length) xs[k] [] [] (by simp only[zV];omega) (λx hx=>by cases hx);generalize ao [] [] xs[k]=ws at hne f1 f2;cases ws with
   | nil=>exact absurd rfl hne
   | cons w ws=>
    simp only[zj,zV] at f1;rw[ww];refine FP hc (by omega) ⟨by simp only[zj,t7];omega,λv hv=>?_⟩ (by rw[t7];omega);rw[<-ww] at hv;obtain⟨u,hu,rfl⟩:=zE.1 hv;rw[G5];have:=f2 u hu;omega
  intro k;induction k with
  | zero=>intro _;exact⟨RA,λh hne=>(one RA h hne).1⟩
  | succ k ih=>
   intro hk;have hk':k<xs.length:=hk;obtain⟨i1,_⟩:=ih (by omega);have e:Cn (P6 c0 (uT (xs.take (k+1)))).1 (201*(k+1)):=by
    rw[zu hk'];have ew:uT (xs.take k ++ [xs[k]])=uT (xs.take k)++uT [xs[k]]:=by unfold uT;rw[zaf,zas]
    rw[ew,sL,ss];have wn:uT [] = []:=rfl;rw[wn,pm];split;·exact i1.mono (by omega)
    .rename_i hne;rw[nR];exact (one i1 hk' hne).2
   exact⟨e,λh hne=>(one e h hne).1⟩
 refine⟨?_,?_⟩
 .unfold Z7;simp only[jn];rw[JC (by omega),YK,hX];refine Y2 xs.length (λk (t:c4 × List ByteArray)=>t=P6 c0 (uT (xs.take k))) (by omega) rfl (λk t hk ht=>.inl ?_) λt ht=>⟨_,za (by simp),by rw[ht,zY]⟩;subst ht;obtain⟨h1,h2⟩:=hC k (by omega);have hx:=s2 _ (zl hk);have hrl:=Na c0 (uT (xs.take k));have hwl:(uT (xs.take k)).length<=k:=by
   unfold uT;refine rx (wt _ _) ?_;rw[t7,q9];omega
  have ew:uT (xs.take (k+1))=uT (xs.take k)++(if ao [] [] xs[k] = [] then [] else [ao [] [] xs[k]]):=by
   rw[zu hk];have:uT (xs.take k ++ [xs[k]])=uT (xs.take k)++uT [xs[k]]:=by unfold uT;rw[zaf,zas]
   rw[this,sL];have wn:uT [] = []:=rfl;rw[wn,pm]
  have hkm:k<(xs.map p8).length:=by rw[t7];exact hk
  have hix:ix (xs.map p8) (k:Int)=some (p8 xs[k]):=by rw[u9 hkm,sm]
  refine⟨_,?_,rfl⟩;dsimp only;rw[zb (by simpa using hk),hix,YK,IQ _ (by rw[G5];omega),YK,G1,ew];by_cases hne:ao [] [] xs[k] = []
  .rw[hne,zb (by rfl),zb rfl,pm,o9]
  .rw[za (by simpa using hne),za hne,h2 hk hne,YK,C4 (by decide) (by rw[hrl];simp only[wd];omega),YK,o9,ss,nR]
 .have:=(hC xs.length (zt _)).1;rw[zY] at this;exact this.mono (by omega)
theorem Nw(l:List ByteArray)(hl:l.length<=100000):ph l l=some true:=by
 unfold ph;rw[za (by simp)];simp only[jn];refine dX l.length (λ_=>True) (by omega) trivial (λk hk _=>.inl ⟨?_,trivial⟩) λ_=>⟨_,za (by simp),rfl⟩;rw[zb (by simpa using hk),u9 hk,YK,YK,za (by simp),o9]
theorem PQ{b:UInt8}(hb:b≠10)(hB:Eu b=true)(w:List UInt8)(r:List (List UInt8))(l:List UInt8):bb w r (b::l)=bb [] (Q4 w r) l:=by
 rw[bb,za hb,zb hB]
def U4(n:Int):List UInt8:=fR ((aT n).getD ByteArray.empty)
def Wd(x:List UInt8):Bool := !x.isEmpty&&x.all λb => !(Eu b) && !(b==10)
theorem Tm:∀i:Fin 34,aT ((i.1:Int)-9)=some (p8 (U4 ((i.1:Int)-9)))/\qt (U4 ((i.1:Int)-9))=((i.1:Int)-9,true)/\Wd (U4 ((i.1:Int)-9))=true/\(U4 ((i.1:Int)-9)).length<=3:=by decide +kernel
theorem yz{n:Int}(h0 : -9<=n)(h1:n<=24):aT n=some (p8 (U4 n))/\qt (U4 n)=(n,true)/\Wd (U4 n)=true/\(U4 n).length<=3:=by
 have:=Tm ⟨(n+9).toNat,by omega⟩;simp only[show (((n+9).toNat:Nat):Int)-9=n by omega] at this;exact this
theorem Sr{x:List UInt8}(h:Wd x=true):x ≠ []:=by
 rintro rfl;cases h
theorem Bp:∀(x w:List UInt8) (r:List (List UInt8)) (l:List UInt8),(x.all λb => !(Eu b) && !(b==10))=true->bb w r (x++l)=bb (w++x) r l
 | [],w,r,l,_=>by rw[pm];rfl
 | b::x,w,r,l,h=>by
  rw[List.all_cons,zk,zk,za6,za6,beq_eq_false_iff_ne] at h;rw[zb6,bb,za h.1.2,h.1.1,za (by decide),Bp x _ _ _ h.2,p0];rfl
def fy(w:List UInt8)(ws:List (List UInt8)):List UInt8:=w++ws.flatMap λx=>32::x
theorem Hj:∀(ws:List (List UInt8)) (w:List UInt8) (r:List (List UInt8)),w ≠ []->(∀x∈ws,Wd x=true)->bb w r (ws.flatMap λx=>32::x) = [(r ++ [w])++ws]
 | [],w,r,hw,_=>by
  show (if Q4 w r = [] then [] else [Q4 w r])=_;unfold Q4;rw[za hw,za (by simp),pm]
 | y::ws,w,r,hw,h=>by
  have hy:=h y (zh ..);rw[zaz,zb6,PQ (by decide) (by decide),Bp y _ _ _ (by
   unfold Wd at hy;rw[zk] at hy;exact hy.2),zbr,Hj ws y _ (Sr hy) λx hx=>h x (zo _ hx)]
  unfold Q4;rw[za hw,p0];rfl
theorem yP{w:List UInt8}{ws:List (List UInt8)}(hw:Wd w=true)(h:∀x∈ws,Wd x=true):bb [] [] (fy w ws) = [w::ws]:=by
 unfold fy;rw[Bp w [] [] _ (by
  unfold Wd at hw;rw[zk] at hw;exact hw.2),zbr,Hj ws w [] (Sr hw) h]
 rfl
theorem WM(ms:List Int)(h:∀m∈ms,-9<=m/\m<=24):nm (ms.map λm=>p8 (U4 m))=(ms,true):=by
 unfold nm;rw[zb,zcm]
 .congr 1;conv=>rhs;rw[<-List.map_id ms]
  refine zO λm hm=>?_;show (qt (fR (p8 (U4 m)))).1=m;rw[G1,(yz (h m hm).1 (h m hm).2).2.1]
 .rw[zd];intro w hw;obtain⟨m,hm,rfl⟩:=zE.1 hw;rw[G1,(yz (h m hm).1 (h m hm).2).2.1]
def Ej:List (List UInt8):=[[],[110,101,119],[99,111,112,121],[100,114,111,112],[108,111,97,100],[115,116,111,114,101],[119,101,97,107],[117,112],[112,97,105,114],[103,101,116],[115,97,109,101]]
def CF:List Int:=[0,3,2,1,3,3,3,2,2,2,2]
theorem Vs:∀i:Fin 10,sM (p8 (Ej.getD (i.1+1) []))=i.1+1/\Wd (Ej.getD (i.1+1) [])=true/\(Ej.getD (i.1+1) []).length<=5/\1<=CF.getD (i.1+1) 0/\CF.getD (i.1+1) 0<=3/\vL (i.1+1)=CF.getD (i.1+1) 0:=by decide +kernel
theorem Xm(n:Int) : -9<=n.tmod 10/\n.tmod 10<=24:=by
 have:(n.tmod 10).natAbs=n.natAbs % 10:=Int.natAbs_tmod n 10;omega
theorem MU(n:Nat)(h1:1<=n)(h24:n<=24):H0 (n:Int) 3 8 []=some (⟨wM n 3 8,[]⟩,0)/\Rs (wM n 3 8) 0:=by
 have key:∀i:Fin 24,(H0 ((i.1+1:Nat):Int) 3 8 []).map (·.2)=some 0:=by decide +kernel
 have hk:=key ⟨n-1,by omega⟩;simp only[show n-1+1=n by omega] at hk;rcases RX (n:=(n:Int)) (last:=3) (places:=8) (ps:=[]) (by decide) (λp h=>by cases h) with ⟨e,h1',_,h3⟩ | ⟨k,p,e1,e2,_,_,hr,h1',_⟩
 .rw[h1'] at hk;have hk:e=0:=rg hk;rcases h3 with q | ⟨q,_⟩ <;> omega
 .obtain rfl:n=k:=by omega
  obtain rfl:p=8:=by omega
  exact⟨h1',hr⟩
theorem consoleRows{a:Int}(ha:0<=a/\a<256)(rows:List (List Int)):bN a rows=some true:=by
 unfold bN;by_cases h:decide ((rows.length:Int) > 20)=true
 .rw[h,Ic];rfl
 have h':decide ((rows.length:Int) > 20)=false:=by simpa using h
 rw[h',Ic];simp only[pi,fM,YK,Bool.not_true,Bool.or_self,zm,zZ];have hrl:rows.length<=20:=by rw[t8] at h;omega
 rw[F9 (n:=a) (by omega) (by omega),lY ha.1 (by decide),YK];obtain⟨k,hk⟩:∃k:Nat,z6 (1+a % 24)=k/\1<=k/\k<=24:=⟨(1+a % 24).toNat,by rw[F9 (by omega) (by omega)];omega,by omega,by omega⟩;obtain⟨hk,k1,k24⟩:=hk;rw[hk];obtain⟨f1,f2⟩:=MU k k1 k24;obtain⟨d1,d2,d3,d4⟩:=yz (n:=(k:Int)) (by omega) (by omega);have z1:=G5 (U4 k);have z2:=G5 [104,101,97,112,32];have z3:=G5 [32,51,32,56];simp only[zj,zV] at z2 z3;rw[f1,YK,d1,YK,gh (by omega),YK,G1,G1];have z4:=G5 ([104,101,97,112,32]++U4 k);rw[zx] at z4;simp only[zj,zV] at z4;rw[gh (by omega),YK,G1,G1];have hline : [104,101,97,112,32]++U4 k ++ [32,51,32,56]=fy [104,101,97,112] [U4 k,[51],[56]]:=by
  unfold fy;simp
 rw[hline];have hz0:(fy [104,101,97,112] [U4 k,[51],[56]]).length<=20:=by rw[<-hline];simp only[zx,zj,zV];omega
 have hm0:bb [] [] (fy [104,101,97,112] [U4 k,[51],[56]]) = [[104,101,97,112] :: [U4 k,[51],[56]]]:=yP (by decide) (λx hx=>by
  simp only[zL,zbk,or_false] at hx;rcases hx with rfl | rfl | rfl
  .exact d3
  .decide
  .decide)
 have hr0:tL c0 ([104,101,97,112] :: [U4 k,[51],[56]])=(⟨⟨wM k 3 8,[]⟩,true,[]⟩,okB):=by
  have hn:nm [p8 (U4 k),p8 [51],p8 [56]]=([(k:Int),3,8],true):=by
   have e3:qt [51]=(3,true):=by decide +kernel
   have e8:qt [56]=(8,true):=by decide +kernel
   unfold nm;rw[zb (by simp[G1,d2,e3,e8])];simp only[ww,List.map_nil,G1,d2,e3,e8]
  have hw:sM (p8 [104,101,97,112])=14:=by decide +kernel
  show jb c0 (p8 [104,101,97,112]) [p8 (U4 k),p8 [51],p8 [56]]=_;unfold jb;rw[hw,hn,za (by
   rintro (q | q | q);·exact absurd q (by decide)
   .exact Bool.noConfusion q
   .exact absurd (show Oa 14 3=false from q) (by decide)),za (λq=>q.2.2 rfl)]
  show CI c0 [(k:Int),3,8]=_;have hH:CI c0 [(k:Int),3,8]=if ((H0 (k:Int) 3 8 c0.progs).getD (c0.g,0)).2≠0 then (c0,qm ((H0 (k:Int) 3 8 c0.progs).getD (c0.g,0)).2) else (⟨((H0 (k:Int) 3 8 c0.progs).getD (c0.g,0)).1,true,c0.progs⟩,okB):=rfl
  rw[hH,show c0.progs = [] from rfl,f1,zX,za (λq=>q rfl)]
 simp only[jn];refine vj (λ(x:ByteArray × Int × s6 × List ByteArray)=>∃(j:Nat) (hp:Hp) (T:List UInt8),x.1=p8 T/\x.2.1=(j:Int)/\j<=rows.length/\x.2.2.1=⟨hp,[]⟩/\Rs hp (201*j)/\T.length<=20+30*j/\P6 c0 (bb [] [] T)=(⟨⟨hp,[]⟩,true,[]⟩,x.2.2.2)/\x.2.2.2.length<=1+j) (λx=>rows.length-x.2.1.toNat) ⟨0,wM k 3 8,_,rfl,rfl,ut _,rfl,f2,hz0,by rw[hm0,nR,hr0];rfl,zt _⟩ (by simp only;omega) ?_;rintro⟨tx,jj,g,want⟩ ⟨j,hp,T,h1,h2,h3,h4,h5,h6,h7,h8⟩;simp only at h1 h2 h4 h7 h8;subst h1;subst h2;subst h4;by_cases hj:j<rows.length
 .simp only[zQ,hj,zW,zR,u9 hj,YK];generalize rows[j]=r;have stay:∀ {y},y=some (Sum.inl (p8 T,z6 ((j:Int)+1),(⟨hp,[]⟩:s6),want))->∃s',y=some (Sum.inl (β:=ByteArray × List ByteArray) s')/\(∃(j:Nat) (hp:Hp) (T:List UInt8),s'.1=p8 T/\s'.2.1=(j:Int)/\j<=rows.length/\s'.2.2.1=⟨hp,[]⟩/\Rs hp (201*j)/\T.length<=20+30*j/\P6 c0 (bb [] [] T)=(⟨⟨hp,[]⟩,true,[]⟩,s'.2.2.2)/\s'.2.2.2.length<=1+j)/\rows.length-s'.2.1.toNat<rows.length-((j:Int)).toNat:=λ{y} e=>⟨_,e,⟨j+1,hp,T,rfl,by simp only;rw[o9],hj,rfl,⟨h5.rt,h5.sl,h5.zr,by have:=h5.R9;omega⟩,by omega,h7,by simp only;omega⟩,by simp only;rw[o9];simp only[zU];omega⟩;left;by_cases hr4:r.length=4
  case neg=>
   have c1:(((r.length:Int) != 4))=true:=by simp;omega
   refine stay ?_;simp only[c1,Bool.true_or,we,Bool.true_eq_false,Dt,zan,zR,YK];rfl
  have c1:(((r.length:Int) != 4))=false:=by simp;omega
  obtain⟨r0,r1,r2,r3,rfl⟩:∃a b c d,r = [a,b,c,d]:=by
   match r,hr4 with
   | [a,b,c,d],_=>exact⟨a,b,c,d,rfl⟩
  have i0:ix [r0,r1,r2,r3] 0=some r0:=rfl;simp only[c1,pi,fM,i0,YK,zbq];by_cases hr0:1<=r0/\r0<=10
  case neg=>
   refine stay ?_;by_cases q:r0<1
   .simp only[zA q,Bool.true_eq_false,we,zan,Dt,YK,Bool.true_or,zR];rfl
   .have q2:r0 > 10:=by omega
    simp only[zI q,pi,fM,YK,zbq,zA q2,zR]
  obtain⟨i,rfl⟩:∃i:Nat,r0=((i+1:Nat):Int):=⟨(r0-1).toNat,by omega⟩;have hi:i<10:=by omega
  have q1:¬((i+1:Nat):Int)<1:=by omega
  have q2:¬((i+1:Nat):Int) > 10:=by omega
  simp only[zI q1,pi,fM,YK,zbq,zI q2,zm,zZ];obtain⟨w1,w2,w3,w4,w5,w6⟩:=Vs ⟨i,hi⟩;simp only at w1 w2 w3 w4 w5 w6;have ew:ix [ByteArray.empty,(p8 [110,101,119]),(p8 [99,111,112,121]),(p8 [100,114,111,112]),(p8 [108,111,97,100]),(p8 [115,116,111,114,101]),(p8 [119,101,97,107]),(p8 [117,112]),(p8 [112,97,105,114]),(p8 [103,101,116]),(p8 [115,97,109,101])] ((i+1:Nat):Int)=some (p8 (Ej.getD (i+1) [])):=by
   have:i=0\/i=1\/i=2\/i=3\/i=4\/i=5\/i=6\/i=7\/i=8\/i=9:=by omega
   rcases this with rfl | rfl | rfl | rfl | rfl | rfl | rfl | rfl | rfl | rfl <;> rfl
  have ea:ix [(0:Int),3,2,1,3,3,3,2,2,2,2] ((i+1:Nat):Int)=some (CF.getD (i+1) 0):=by
   have:i=0\/i=1\/i=2\/i=3\/i=4\/i=5\/i=6\/i=7\/i=8\/i=9:=by omega
   rcases this with rfl | rfl | rfl | rfl | rfl | rfl | rfl | rfl | rfl | rfl <;> rfl
  rw[ew,YK];generalize hW:Ej.getD (i+1) []=W at w1 w2 w3;generalize hA:CF.getD (i+1) 0=A at w4 w5 w6 ea;obtain⟨m,rfl⟩:∃m:Nat,A=m:=⟨A.toNat,by omega⟩;have hms:∀n:Int,-9<=n.tmod 10/\n.tmod 10<=24:=Xm;generalize hM : [r1.tmod 10,r2.tmod 10,r3.tmod 10]=M;have hMl:M.length=3:=by rw[<-hM];rfl
  have hMb:∀x∈M,-9<=x/\x<=24:=λx hx=>by
   rw[<-hM] at hx;simp only[zL,zbk,or_false] at hx;rcases hx with rfl | rfl | rfl <;> exact Xm _
  have hfl:∀q:Nat,q<=3->(((M.take q).map U4).flatMap λx=>32::x).length<=4*q:=by
   intro q hq;have gen:∀l:List Int,(∀x∈l,-9<=x/\x<=24)->((l.map U4).flatMap λx=>32::x).length<=4*l.length:=by
    intro l;induction l with
    | nil=>intro _;simp
    | cons y l ih=>
     intro hl;have:=ih λx hx=>hl x (zo _ hx);have hy:=(yz (hl y (zh ..)).1 (hl y (zh ..)).2).2.2.2;rw[ww,zaz,zx,zj,zj];omega
   have:=gen (M.take q) λx hx=>hMb x (mt hx);rw[q9] at this;omega
  have inner:∀K:(ByteArray × List Int)->Option ((ByteArray × Int × s6 × List ByteArray) ⊕ (ByteArray × List ByteArray)),
    (lp (S:=ByteArray × Int × (List Int)) (E:=(ByteArray × (List Int))) (λ((s193,s194,s195):ByteArray × Int × (List Int))=>
       (ix [0,3,2,1,3,3,3,2,2,2,2] ((i+1:Nat):Int)).bind λv198=>
       if (decide (s194<=v198)) then
        (ix [((i+1:Nat):Int),r1,r2,r3] s194).bind λv199=>
        (rem v199 10).bind λv200=>
        (ix s195 s194).bind λv201=>
        (kq s193 (p8 [32])).bind λv202=>
        (ix (s195.set (s194).toNat v200) s194).bind λv203=>
        (aT v203).bind λv204=>
        (kq v202 v204).bind λv205=>
        some (.inl (v205,z6 (s194+1),(s195.set (s194).toNat v200)))
       else
       some (.inr (s193,s195))) (p8 W,1,[((i+1:Nat):Int),0,0,0])).bind K=K (p8 (fy W ((M.take m).map U4)),Z4 ((i+1:Nat):Int) (M.take m)):=by
   intro K;have:(lp (S:=ByteArray × Int × (List Int)) (E:=(ByteArray × (List Int))) (λ((s193,s194,s195):ByteArray × Int × (List Int))=>
       (ix [0,3,2,1,3,3,3,2,2,2,2] ((i+1:Nat):Int)).bind λv198=>
       if (decide (s194<=v198)) then
        (ix [((i+1:Nat):Int),r1,r2,r3] s194).bind λv199=>
        (rem v199 10).bind λv200=>
        (ix s195 s194).bind λv201=>
        (kq s193 (p8 [32])).bind λv202=>
        (ix (s195.set (s194).toNat v200) s194).bind λv203=>
        (aT v203).bind λv204=>
        (kq v202 v204).bind λv205=>
        some (.inl (v205,z6 (s194+1),(s195.set (s194).toNat v200)))
       else
       some (.inr (s193,s195))) (p8 W,1,[((i+1:Nat):Int),0,0,0]))=some (p8 (fy W ((M.take m).map U4)),Z4 ((i+1:Nat):Int) (M.take m)):=by
    refine eN (lG (λ(x:ByteArray × Int × List Int)=>∃q:Nat,q<=m/\x=(p8 (fy W ((M.take q).map U4)),((q+1:Nat):Int),Z4 ((i+1:Nat):Int) (M.take q))) (λe=>e=(p8 (fy W ((M.take m).map U4)),Z4 ((i+1:Nat):Int) (M.take m))) (λx=>5-x.2.1.toNat) ⟨0,ut _,by simp[fy,Z4]⟩ (by simp only;omega) ?_);rintro _ ⟨q,hq,rfl⟩;dsimp only;rw[ea,YK];by_cases hqm:q<m
    .have hq3:q<3:=by omega
     have hqM:q<M.length:=by rw[hMl];exact hq3
     have ir:∃u,ix [((i+1:Nat):Int),r1,r2,r3] ((q+1:Nat):Int)=some u/\u.tmod 10=M[q]:=by
      subst hM;have:q=0\/q=1\/q=2:=by omega
      rcases this with rfl | rfl | rfl
      .exact⟨r1,rfl,rfl⟩
      .exact⟨r2,rfl,rfl⟩
      .exact⟨r3,rfl,rfl⟩
     obtain⟨u,e1,e2⟩:=ir;have hset:(Z4 ((i+1:Nat):Int) (M.take q)).set (q+1) M[q]=Z4 ((i+1:Nat):Int) (M.take (q+1)):=by
      subst hM;have:q=0\/q=1\/q=2:=by omega
      rcases this with rfl | rfl | rfl <;> rfl
     have hl4:(Z4 ((i+1:Nat):Int) (M.take q)).length=4:=by
      unfold Z4;rw[zj,zx,zby,q9];omega
     have hl4':(Z4 ((i+1:Nat):Int) (M.take (q+1))).length=4:=by
      unfold Z4;rw[zj,zx,zby,q9];omega
     have hgt:ix (Z4 ((i+1:Nat):Int) (M.take (q+1))) ((q+1:Nat):Int)=some M[q]:=by
      subst hM;have:q=0\/q=1\/q=2:=by omega
      rcases this with rfl | rfl | rfl <;> rfl
     obtain⟨d1,d2,d3,d4⟩:=yz (hMb _ (zl hqM)).1 (hMb _ (zl hqM)).2;have hf:=hfl q (by omega);have hll:(fy W ((M.take q).map U4)).length<=5+4*q:=by unfold fy;rw[zx];omega
     have zz:=G5 (fy W ((M.take q).map U4));have zz2:=G5 (fy W ((M.take q).map U4) ++ [32]);rw[zx,wd] at zz2;have z3:=G5 [32];rw[wd] at z3;have z5:=G5 (U4 M[q]);refine .inl ⟨(p8 (fy W ((M.take (q+1)).map U4)),((q+1+1:Nat):Int),Z4 ((i+1:Nat):Int) (M.take (q+1))),?_,⟨q+1,hqm,rfl⟩,by simp only[zU];omega⟩;rw[zb (by rw[t8];omega),e1,YK,Xd,YK,e2,u9 (by rw[hl4];omega),YK,gh (by omega),YK,zU,hset,hgt,YK,d1,YK,G1,G1,gh (by omega),YK,o9,G1,G1];have hln:fy W ((M.take q).map U4) ++ [32]++U4 M[q]=fy W ((M.take (q+1)).map U4):=by
      unfold fy;rw[zu hqM,zaf,List.flatMap_append];simp
     rw[hln]
    .have:q=m:=by omega
     subst this;rw[za (by rw[t8];omega)];exact .inr ⟨_,rfl,rfl⟩
   rw[this];rfl
  rw[inner];dsimp only;have h7b:=Xh h5 (by omega);have hm3:(M.take m).length<=3:=by rw[q9];omega
  obtain⟨o1,o2⟩:=RG (ps:=[]) Fu h5.oh h7b (Z4 ((i+1:Nat):Int) (M.take m));have hab:=Ke h5 (by omega) (RF (ps:=[]) Fu h5.oh h7b (Z4 ((i+1:Nat):Int) (M.take m)));have hf:=hfl m (by omega);have hll:(fy W ((M.take m).map U4)).length<=5+4*m:=by unfold fy;rw[zx];omega
  have zz:=G5 (fy W ((M.take m).map U4));have zT:=G5 T;have zT2:=G5 (T ++ [10]);rw[zx,wd] at zT2;have z10:=G5 [10];rw[wd] at z10;rw[YA (ps:=[]) Fu h5.oh h7b,YK,gh (by omega),YK,G1,G1,gh (by omega),YK,G1,G1];dsimp only;rw[hab,YK,C4 (by decide) (by simp only[wd];omega),YK,o9];have hT:T ++ [10]++fy W ((M.take m).map U4)=T++10::fy W ((M.take m).map U4):=by rw[p0];rfl
  rw[hT];have hmach:bb [] [] (T++10::fy W ((M.take m).map U4))=bb [] [] T ++ [W::(M.take m).map U4]:=by
   rw[rF,yP w2 λx hx=>by
    obtain⟨y,hy,rfl⟩:=zE.1 hx;have hb:=hMb y (mt hy);exact (yz hb.1 hb.2).2.2.1]
  have hrep:tL ⟨⟨hp,[]⟩,true,[]⟩ (W::(M.take m).map U4)=(⟨⟨(er [] hp (Z4 ((i+1:Nat):Int) (M.take m))).1,[]⟩,true,[]⟩,DP (er [] hp (Z4 ((i+1:Nat):Int) (M.take m))).2):=by
   have hn:nm (((M.take m).map U4).map p8)=(M.take m,true):=by
    rw[zcm];exact WM (M.take m) λx hx=>hMb x (mt hx)
   show jb _ (p8 W) (((M.take m).map U4).map p8)=_;unfold jb;have htk:Oa (i+1) (M.take m).length=true:=by
    unfold Oa;rw[za (by omega),w6,q9,hMl,we];omega
   rw[w1,hn,za (by
    rintro (q | q | q);·omega
    .exact Bool.noConfusion q
    .rw[htk] at q;cases q),za (λq=>Bool.noConfusion q.1)]
   unfold vJ;rw[za (by omega),za (by omega),za (by omega),za (by omega),za (by omega)];rfl
  refine⟨_,rfl,⟨j+1,_,_,rfl,rfl,hj,rfl,⟨o1.rt,o1.sl,o1.zr,by have:=h5.R9;omega⟩,?_,?_,?_⟩,by simp only[zU];omega⟩;·rw[zx,zj];omega
  .rw[hmach,ss,h7,nR,hrep]
  .simp only[zx,wd];omega
 .have hje:j=rows.length:=by omega
  simp only[zQ,hj,zan,zm,zZ];refine .inr ⟨_,rfl,?_⟩;dsimp only;have z:=G5 T;have hL:Z7 (p8 T)=some want:=by
   rw[(LD (by omega)).1,G1,h7]
  simp only[pi,fM,hL,YK,Nw want (by omega),Bool.and_self]
end Go.Sh
