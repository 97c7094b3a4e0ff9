/- A part. -/
import Derived.Test.YtppgkaeodaaidaaGreatDoorU3hT2
set_option linter.unusedVariables false
set_option linter.unusedSimpArgs false
set_option linter.unusedSectionVars false
namespace Go.Sh
theorem Lk{c:Int}(h:0<=c):1<=W5 c:=by unfold W5;split <;> (try split) <;> omega
theorem FC{x:Hp}(hR:SR x.S){h:Int}(hh:h∈lv x.S){k:Int}(hk:k∈lv x.S):(ob (gR x h).S k).Strong=if k=h then W5 (ob x.S k).Strong else (ob x.S k).Strong:=by
 have oko:=J3 hR hh;have ho:xK x.S (dO (ob x.S h)):=⟨oko.s1,oko.s2,oko.st,oko.wk,oko.p1,oko.p2,oko.fl⟩;have r1:=bx (o:=dO (ob x.S h)) hR hh rfl ho;have l1:lv (cK x.S h (dO (ob x.S h)))=lv x.S:=fD (o:=dO (ob x.S h)) hR hh rfl ho;have hr:=I1 hR hk;have e1:(ob (cK x.S h (dO (ob x.S h))) k).Strong=(ob x.S k).Strong:=by
  rw[en (o:=dO (ob x.S h)) hR hh rfl ho (by omega)];split;·rename_i e;subst e;rfl
  .rfl
 have:=tO (x:=⟨cK x.S h (dO (ob x.S h)),x.Roots,x.a8,x.T,⟨x.Q.L ++ [ue x h],x.Q.Cap⟩⟩) r1 (h:=h) (f:=W5) (λc=>D7) (k:=k) (by
  show k∈lv (cK x.S h (dO (ob x.S h)));rw[l1];exact hk)
 rw[show (ob (gR x h).S k).Strong=_ from this];show (if k=h then W5 (ob (cK x.S h (dO (ob x.S h))) k).Strong else (ob (cK x.S h (dO (ob x.S h))) k).Strong)=_;rw[e1]
theorem UH{x:Hp}(hx:O2 x)(hz:zr x = []){h:Int}(hh:h∈lv x.S):zr (gR x h) = []:=zaz.2 λk hk=>by
 obtain⟨a,b⟩:=cd.1 hk;rw[Bv hx.sh.sr hh] at a;rw[FC hx.sh.sr hh a] at b;have h0:=(J3 hx.sh.sr a).st;have hn:(ob x.S k).Strong≠0:=λq=>by
  have:k∈zr x:=cd.2 ⟨a,q⟩;rw[hz] at this;cases this
 split at b;·have:=Lk h0;omega
 .exact hn b
structure Qd (x y:Hp) (l:List Int):Prop where
 rt:O2 y
 sl:SL y
 zr:zr y = []
 lv:lv y.S=lv x.S
 ob:∀k∈Sh.lv x.S,∃n,Sh.ob y.S k=Ad (if k∈l then dO (Sh.ob x.S k) else Sh.ob x.S k) n
 ro:y.Roots=x.Roots
 ce:y.a8=x.a8
 t:y.T=x.T
 q:y.Q=⟨x.Q.L++l.map (ue x),x.Q.Cap⟩
 T5:y.S.Serial=x.S.Serial
theorem Qu{x:Hp}(hR:SR x.S){h:Int}(hh:h∈lv x.S):(gR x h).S.Serial=x.S.Serial:=(lH hR hh).1.T5
theorem FD:∀(l:List Int) {x:Hp},O2 x->SL x->Sh.zr x = []->l.Nodup->(∀h∈l,h∈Sh.lv x.S/\due (Sh.ob x.S h)=true)->Qd x (l.foldl gR x) l
 | [],x,hx,hS,hz,_,_=>⟨hx,hS,hz,rfl,λk hk=>⟨(Sh.ob x.S k).Strong,by rw[za (by simp)];rfl⟩,rfl,rfl,rfl,by simp,rfl⟩
 | h::l,x,hx,hS,hz,hn,hd=>by
  obtain⟨hl,hdu⟩:=hd h (zi ..);have hR:=hx.sh.sr;rw[zaq] at hn;have q2:=hdu;unfold due at q2;rw[zk,zF,zbk] at q2;have h1:=tx hx hl q2.1 q2.2;have h2:=MA hR hS hl;have h3:=UH hx hz hl;have lq:=Bv hR hl;have oq:∀k∈Sh.lv x.S,k≠h->∃n,Sh.ob (gR x h).S k=Ad (Sh.ob x.S k) n:=λk hk hne=>by
   obtain⟨n,e⟩:=wV hR hl hk;rw[za hne] at e;exact⟨n,e⟩
  have ih:=FD l h1 h2 h3 hn.2 λk hk=>by
   obtain⟨a,b⟩:=hd k (zt _ hk);obtain⟨n,e⟩:=oq k a λe=>hn.1 (e▸hk);refine⟨by rw[lq];exact a,?_⟩;rw[e];exact b
  obtain⟨_,k1,k2,k3,k4⟩:=lH hR hl;refine⟨ih.rt,ih.sl,ih.zr,ih.lv.trans lq,λk hk=>?_,ih.ro.trans k1,ih.ce.trans k2,ih.t.trans k3,?_,ih.T5.trans (Qu hR hl)⟩
  .obtain⟨n,e⟩:=ih.ob k (by rw[lq];exact hk);obtain⟨m,e2⟩:=wV hR hl hk;refine⟨n,?_⟩;show Sh.ob (l.foldl gR (gR x h)).S k=_;rw[e];by_cases c:k=h
   .subst c;rw[za hn.1,zb (zi ..),e2,zb rfl]
   .rw[za c] at e2;by_cases c2:k∈l
    .rw[zb c2,zb (zt _ c2),e2]
    .rw[za c2,za (λq=>by
      rcases zJ.1 q with r | r
      .exact c r
      .exact c2 r),e2]
  .show (l.foldl gR (gR x h)).Q=_;rw[ih.q,k4];have:l.map (ue (gR x h))=l.map (ue x):=zP λk hk=>by
    obtain⟨a,_⟩:=hd k (zt _ hk);obtain⟨n,e⟩:=oq k a λe=>hn.1 (e▸hk);show (⟨1,k,(Sh.ob (gR x h).S k).Prog⟩:l7)=⟨1,k,(Sh.ob x.S k).Prog⟩;rw[e]
   rw[this];simp
noncomputable def mV(x:Hp):List Int:=(eF x).filter λh=>due (Sh.ob x.S h)
noncomputable def EE(x:Hp):Hp:=if mV x = [] then gg x (eF x) else (mV x).foldl gR x
theorem Ay{x:Hp}:∀h∈mV x,h∈Sh.lv x.S/\due (Sh.ob x.S h)=true:=λh hh=>by
 obtain⟨a,b⟩:=zy.1 hh;exact⟨(ba.1 a).1,b⟩
theorem Kf{x:Hp}(hx:O2 x):(mV x).Nodup:=zbv _ (gG hx)
theorem Kg{x:Hp}(hx:O2 x)(hS:SL x)(hz:zr x = []):Qd x ((mV x).foldl gR x) (mV x):=FD _ hx hS hz (Kf hx) Ay
theorem EF{x:Hp}(hx:O2 x)(hS:SL x)(hz:zr x = []):O2 (EE x)/\SL (EE x)/\zr (EE x) = []:=by
 unfold EE;split;·exact⟨dW hx,Kh hx.sh.sr hS (gG hx) (gD hx),CC (dW hx) (CM hx)⟩
 .have q:=Kg hx hS hz;exact⟨q.rt,q.sl,q.zr⟩
theorem SY{y:Hp}(h:mV y = []):EE y=gg y (eF y):=by
 unfold EE;rw[zb h]
section
variable{x:Hp}(hx:O2 x)
include hx
end
structure Rs (x:Hp) (n:Nat):Prop where
 rt:O2 x
 sl:SL x
 zr:zr x = []
 T5:x.S.Serial<=n
section
variable{x:Hp}(hx:O2 x)(hS:SL x)
include hx hS
theorem Km:R7 x=some (eF x):=by
 have hB:=We hx hS;unfold R7;rw[EX (y4.2 hx.sh.sr) hx.sh.hr hB.tb hB.fb hB.sb];rfl
theorem AT:(eF x).length<=24:=un (zZ ..) (M5 (y4.2 hx.sh.sr))
theorem SQ:eC x=some (mV x):=by
 have hR:=hx.sh.sr;have hl:=AT hx hS;unfold eC;rw[Km hx hS,Yx];unfold H4;simp only[jn];refine Cp (a:=mV x) ?_ rfl;refine Y1 (eF x).length (λk b=>b=((eF x).take k).filter λh=>due (Sh.ob x.S h)) (by omega) rfl (λk b hk hP=>?_) (λb hP=>?_)
 .subst hP;have hm:=gD hx _ (zj hk);have hle:(((eF x).take k).filter λh=>due (Sh.ob x.S h)).length<=24:=un (zZ ..) (by simp;omega);refine .inl ⟨_,?_,rfl⟩;rw[zb (by simpa using hk),u6 hk,Yx,R9 hk,zan];unfold fu;rw[sV hR hm,Yx,Yx];have e:(decide ((ob x.S (eF x)[k],(0:Int)).1.Prog>=0) && !(ob x.S (eF x)[k],(0:Int)).1.Started)=due (ob x.S (eF x)[k]):=rfl;rw[e];cases hd:due (ob x.S (eF x)[k])
  .rw[za (by simp),p8];simp[hd]
  .rw[zb rfl,C3 (by omega) (by simp;omega),Yx,p8];simp[hd]
 .subst hP;refine⟨_,za (by simp),?_⟩;rw[zT];rfl
noncomputable def OW(x:Hp):Int:=if mV x = [] then ((lv x.S).length:Int)-((lv (EE x).S).length:Int) else 0
omit hx hS in
theorem TT {l:List Int} (hn:l.Nodup) (hm:∀d∈l,d∈lv x.S):Wo x l=l:=by
 have key:∀(l b:List Int),(b++l).Nodup->(∀d∈l,d∈lv x.S)->l.foldl (λb h=>if h∈lv x.S/\h∉b then b ++ [h] else b) b=b++l:=by
  intro l;induction l with
  | nil=>intro b _ _;simp
  | cons a l ih=>
   intro b hn hm;rw[zap];have ha:a∉b:=λq=>by
    rw[zby] at hn;exact hn.2.2 a q a (zi ..) rfl
   rw[zb ⟨hm a (zi ..),ha⟩,ih (b ++ [a]) (by simpa using hn) λd hd=>hm d (zt _ hd)];simp
 exact key l [] (by simpa using hn) hm
variable(hz:zr x = [])
include hz
theorem QU{k:Nat}(hk:k<(mV x).length):(((mV x).take k).foldl gR x)=(((mV x).take k).foldl gR x)/\O2 (((mV x).take k).foldl gR x)/\SL (((mV x).take k).foldl gR x)/\(mV x)[k]∈lv (((mV x).take k).foldl gR x).S/\due (ob (((mV x).take k).foldl gR x).S (mV x)[k])=true:=by
 have hn:=Kf hx;have q:=FD ((mV x).take k) hx hS hz ((List.take_sublist ..).nodup hn) λh hh=>Ay h (zah hh);obtain⟨a,b⟩:=Ay (mV x)[k] (zj hk);refine⟨rfl,q.rt,q.sl,by rw[q.lv];exact a,?_⟩;obtain⟨n,e⟩:=q.ob _ a;have hnot:(mV x)[k]∉(mV x).take k:=λh=>by
  have:=R9 hk;have hs:((mV x).take (k+1)).Nodup:=(List.take_sublist ..).nodup hn;rw[this,zby] at hs;exact hs.2.2 _ h _ (List.mem_singleton_self _) rfl
 rw[e,za hnot];exact b
theorem GD:(mV x).length<=24:=un (zZ ..) (AT hx hS)
theorem SX:Z1 x=some (EE x,((mV x).length:Int),OW x):=by
 have hR:=hx.sh.sr;have hl:=GD hx hS hz;obtain⟨c1,c2,c3⟩:=EF hx hS hz;unfold Z1;rw[SQ hx hS,Yx];simp only[jn];refine Y1 (mV x).length (λk b=>b=((mV x).take k).foldl gR x) (by omega) rfl (λk b hk hP=>?_) (λb hP=>?_)
 .subst hP;obtain⟨_,r1,r2,r3,r4⟩:=QU hx hS hz hk;refine .inl ⟨_,?_,rfl⟩;rw[zb (by simpa using hk),u6 hk,Yx,yU r1 r2 (gM r1.sh.sr r3),Yx,p8,R9 hk,za0];unfold UF;rw[zb ⟨r3,r4⟩];rfl
 .subst hP;refine⟨_,za (by simp),?_⟩;rw[zT];by_cases hb:mV x = []
  .have e:EE x=gg x (eF x):=SY hb;rw[za (by simp[hb])];unfold OW;rw[zb hb,e,hb];have h1:=gG hx;have h2:=gD hx;have hlive:=dd (y4.2 hR);have hlive2:=dd (y4.2 (dW hx).sh.sr);have l1:=M5 (y4.2 hR);have l2:=M5 (y4.2 (dW hx).sh.sr);show (R7 x).bind _=_;rw[Km hx hS,Yx,List.foldl_nil,GF hx h1 h2 (QG hx) (by rw[rp hR _ (by have:=AT hx hS;omega) λh hh=>gM hR (h2 h hh),TT h1 h2]),Yx,gp (dW hx) (by rw[<-e];exact c2),Yx,EY hx,hlive,Yx,hlive2,Yx,F7 (by omega) (by omega)];rfl
  .have:0<(mV x).length:=List.length_pos_iff.2 hb;rw[zb (by simp;omega)];unfold OW EE;rw[za hb,za hb]
end
theorem Pa{x:Hp}(hx:O2 x)(hS:SL x)(hz:zr x = []):(EE x).S.Serial=x.S.Serial:=by
 unfold EE;split
 .have g:=cZ (eF x) hx.sh.sr (gG hx) (gD hx);exact (gY ((eF x).flatMap (outs x.S)++(mi x.T (eF x)).2) (x:=iv x (eF x) (mi x.T (eF x)).1) g.sr).1.T5.trans g.T5
 .exact (Kg hx hS hz).T5
def Sv(s s':a7):Prop:=s'.S.a8.length=s.S.a8.length/\∀i,i<s.S.a8.length->(ce s i).Gen<=(ce s' i).Gen/\((ce s' i).Gen=(ce s i).Gen->((ce s i).State≠0->(ce s' i).State≠0)/\((ce s' i).State=1->(ce s i).State=0\/((ce s i).State=1/\((ce s i).Val.Started=true->(ce s' i).Val.Started=true))))
theorem Sv.refl(s:a7):Sv s s:=⟨rfl,λi _=>⟨q9 _,λ_=>⟨id,λh=>.inr ⟨h,id⟩⟩⟩⟩
theorem Sv.trans{a b c:a7}(h:Sv a b)(q:Sv b c):Sv a c:=by
 obtain⟨h1,h2⟩:=h;obtain⟨q1,q2⟩:=q;refine⟨q1.trans h1,λi hi=>?_⟩;obtain⟨a1,a2⟩:=h2 i hi;obtain⟨b1,b2⟩:=q2 i (by omega);refine⟨by omega,λe=>?_⟩;obtain⟨a3,a4⟩:=a2 (by omega);obtain⟨b3,b4⟩:=b2 (by omega);refine⟨λh=>b3 (a3 h),λh=>?_⟩;rcases b4 h with r | ⟨r,r'⟩
 .exact .inl (rg λn=>a3 n r)
 .rcases a4 r with k | ⟨k,k'⟩
  .exact .inl k
  .exact .inr ⟨k,λs=>r' (k' s)⟩
def Ge(s:a7)(h:Int):Prop:=∃(i:Nat) (g:Int),i<s.S.a8.length/\h=1+(i:Int)+32*g/\(g<(ce s i).Gen\/(g=(ce s i).Gen/\(ce s i).State≠0/\((ce s i).State=1->(ce s i).Val.Started=true)))
theorem Sv.WY{s s':a7}(h:Sv s s'){k:Int}(q:Ge s k):Ge s' k:=by
 obtain⟨i,g,hi,e,q⟩:=q;obtain⟨h1,h2⟩:=h;obtain⟨a,b⟩:=h2 i hi;refine⟨i,g,by omega,e,?_⟩;rcases q with q | ⟨q1,q2,q3⟩
 .exact .inl (by omega)
 .by_cases c:(ce s' i).Gen=(ce s i).Gen
  .obtain⟨b1,b2⟩:=b c;refine .inr ⟨by omega,b1 q2,λr=>?_⟩;rcases b2 r with k | ⟨k1,k2⟩
   .exact absurd k q2
   .exact k2 (q3 k1)
  .exact .inl (by omega)
theorem Jv{s:a7}(hR:SR s){h:Int}(hh:h∈lv s)(hs:(ob s h).Started=false):¬Ge s h:=by
 rintro⟨i,g,hi,e,q⟩;obtain⟨j,hj⟩:=(fF hR).1 hh;have hl:=hR.len;have hij:i=j:=by
  have:=hj.2.2;have:=hj.1;omega
 subst hij;have:=hj.2.2;rcases q with q | ⟨q1,q2,q3⟩
 .omega
 .rw[Q0 hR hj,q3 hj.2.1] at hs;cases hs
theorem ux.sv{s s':a7}(hR:SR s)(k:ux s s'):Sv s s':=⟨k.len,λi hi=>by
 obtain⟨a,b,_,_,_⟩:=k.ce i hi;refine⟨by omega,λ_=>⟨by omega,λh=>.inr ⟨by omega,λq=>?_⟩⟩⟩;have h1:At s (dE s i) i:=⟨hi,by omega,rfl⟩;have h2:At s' (dE s i) i:=⟨by rw[k.len];exact hi,h,by rw[b];rfl⟩;have hl:=I1 hR ((fF hR).2 ⟨i,h1⟩);obtain⟨n,e⟩:=k.ob (dE s i) (by omega);rw[Q0 k.sr h2,Q0 hR h1] at e;rw[e];exact q⟩
theorem Na{s:a7}(hR:SR s){h:Int}(hh:h∈lv s){o:o9}(hs:o.Serial=(ob s h).Serial)(ho:xK s o)(hst:(ob s h).Started=true->o.Started=true):Sv s (cK s h o):=⟨HS s h o,λi hi=>by
 have q:=A0 hR hh;rw[BR hR hh hs ho];split
 .rename_i e;subst e;refine⟨q9 _,λ_=>⟨id,λr=>.inr ⟨q.2.1,λk=>hst ?_⟩⟩⟩;rw[Q0 hR q];exact k
 .exact⟨q9 _,λ_=>⟨id,λr=>.inr ⟨r,id⟩⟩⟩⟩
theorem LK{s:a7}(hR:SR s){i:Nat}(hi:i<s.S.a8.length)(ht:Th (ce s i))(d:Int):Sv s (oH s i d):=⟨N6 ..,λj hj=>by
 rw[fz hR hi ht];split
 .rename_i e;subst e;exact⟨q9 _,λ_=>⟨id,λr=>.inr ⟨r,id⟩⟩⟩
 .exact⟨q9 _,λ_=>⟨id,λr=>.inr ⟨r,id⟩⟩⟩⟩
theorem TA{s:a7}{i:Nat}(hi:i<s.S.a8.length):Sv s (yC s i):=⟨Z6 ..,λj hj=>by
 unfold yC;rw[L2 hi];by_cases e:j=i
 .subst e;rw[zb rfl];split;·exact⟨q9 _,λ_=>⟨λ_=>(by decide:(3:Int)≠0),λr=>absurd (show (3:Int)=1 from r) (by decide)⟩⟩
  .refine⟨by show _<=(ce s j).Gen+1;omega,λr=>?_⟩;have:(ce s j).Gen+1=(ce s j).Gen:=r;omega
 .rw[za e];exact⟨q9 _,λ_=>⟨id,λr=>.inr ⟨r,id⟩⟩⟩⟩
theorem Gn.sv{s s':a7}{ds:List Int}(g:Gn s s' ds):Sv s s':=⟨g.len,λj hj=>by
 rw[g.ce];split
 .unfold JI;split
  .split;·exact⟨q9 _,λ_=>⟨λ_=>(by decide:(3:Int)≠0),λr=>absurd (show (3:Int)=1 from r) (by decide)⟩⟩
   .refine⟨by show _<=(Sh.ce s j).Gen+1;omega,λr=>?_⟩;have:(Sh.ce s j).Gen+1=(Sh.ce s j).Gen:=r;omega
  .exact⟨q9 _,λ_=>⟨λ_=>(by decide:(2:Int)≠0),λr=>absurd (show (2:Int)=1 from r) (by decide)⟩⟩
 .exact⟨q9 _,λ_=>⟨id,λr=>.inr ⟨r,id⟩⟩⟩⟩
theorem Wv{s:a7}(hR:SR s){i:Nat}(hi:i<s.S.a8.length)(h0:(ce s i).State=0){n:Nat}(hn:n<=4){p:Int}(hp : -1<=p/\p<=5):Sv s (eK s i n p):=⟨jv hR hi h0 hn hp,λj hj=>by
 rw[mz hR hi h0 hn hp];split
 .rename_i e;subst e;exact⟨q9 _,λ_=>⟨λr=>absurd h0 r,λ_=>.inl h0⟩⟩
 .exact⟨q9 _,λ_=>⟨id,λr=>.inr ⟨r,id⟩⟩⟩⟩
theorem FM{x:Hp}(hR:SR x.S)(h:Int):Sv x.S (C5 x h).S:=(G3 hR h (f:=W5) λc=>D7).sv hR
theorem BM{x:Hp}(hR:SR x.S)(h:Int):Sv x.S (R6 x h).S:=(G3 hR h (f:=jE) λc=>P1).sv hR
theorem DF{x:Hp}(hR:SR x.S)(r:Nat)(h:Int):Sv x.S (H5 x r h).S:=
 (FM hR h).trans (BM (x:=wR (C5 x h) (x.Roots.set r h)) (hZ hR h) _)
theorem IH{x:Hp}(hR:SR x.S){h:Int}(hh:h∈lv x.S){n:Nat}(hn:n<(ob x.S h).Fields.length)(v:Int):Sv x.S (bS x h n v).S:=by
 have k1:=BP hR v;have hh1:h∈lv (C5 x v).S:=by rw[k1.lv];exact hh
 have hof:(ob (C5 x v).S h).Fields=(ob x.S h).Fields:=by
  obtain⟨n,e⟩:=(G3 hR v (f:=W5) λc=>D7).ob h (by have:=I1 hR hh;omega);show (ob (sf x v W5).S h).Fields=_;rw[e]
 have ho:xK (C5 x v).S (oB (ob (C5 x v).S h) ((ob x.S h).Fields.set n v)):=by
  have:=J3 k1.sr hh1;refine⟨this.s1,this.s2,this.st,this.wk,this.p1,this.p2,?_⟩;have h4:=this.fl;rw[hof] at h4;simpa using h4
 have k2:=Na (o:=oB (ob (C5 x v).S h) ((ob x.S h).Fields.set n v)) k1.sr hh1 rfl ho id;exact ((FM hR v).trans k2).trans (BM (x:=wS (C5 x v) (cK (C5 x v).S h (oB (ob (C5 x v).S h) ((ob x.S h).Fields.set n v)))) (bx (o:=oB (ob (C5 x v).S h) ((ob x.S h).Fields.set n v)) k1.sr hh1 rfl ho) _)
theorem Mo{x:Hp}(hR:SR x.S)(v:Int)(t:Tb)(old:Int):Sv x.S (jS x v t old).S:=
 (FM hR v).trans (BM (x:=wT (C5 x v) t) (hZ hR v) old)
theorem TY{x:Hp}(hR:SR x.S)(h d:Int):Sv x.S (jP x h d).S:=by
 unfold jP;split
 .rename_i q;exact LK hR q.1 q.2.1 d
 .exact Sv.refl _
theorem Ra{x:Hp}(hR:SR x.S)(h:Int):Sv x.S (nY x h).S:=by
 unfold nY;split
 .rename_i q;have k:=LK hR q.1 q.2.1 (-1);split;·exact k.trans (TA (by rw[k.1];exact q.1))
  .exact k
 .exact Sv.refl _
theorem NA{x:Hp}(hx:O2 x)(n:Nat)(h call:Int):Sv x.S (dP x n h call).S:=by
 have hR:=hx.sh.sr;unfold dP;have s1:Sv x.S (jP (wC x (x.a8.set n (jd h call))) h 1).S:=TY (x:=wC x (x.a8.set n (jd h call))) hR h 1;refine s1.trans (Ra ?_ _);unfold jP;split
 .rename_i q;have:=(hR.ok _ q.1 q.2.1).wk;exact wB hR q.1 q.2.1 (by omega)
 .exact hR
theorem SS{x:Hp}(hR:SR x.S){ds:List Int}(hn:ds.Nodup)(hm:∀d∈ds,d∈lv x.S):Sv x.S (gg x ds).S:=by
 have g:=cZ ds hR hn hm;exact g.sv.trans ((gY (ds.flatMap (outs x.S)++(mi x.T ds).2) (x:=iv x ds (mi x.T ds).1) g.sr).1.sv g.sr)
theorem UG{x:Hp}(hR:SR x.S){h:Int}(hh:h∈lv x.S):Sv x.S (gR x h).S:=by
 have oko:=J3 hR hh;have ho:xK x.S (dO (ob x.S h)):=⟨oko.s1,oko.s2,oko.st,oko.wk,oko.p1,oko.p2,oko.fl⟩;exact (Na (o:=dO (ob x.S h)) hR hh rfl ho λ_=>rfl).trans ((lH hR hh).1.sv (bx (o:=dO (ob x.S h)) hR hh rfl ho))
theorem Ve{x:Hp}(hx:O2 x):Sv x.S (HY x).S:=by
 cases h:zr x with
 | nil=>rw[oY h];exact Sv.refl _
 | cons z l=>
  have hz:z∈zr x:=by rw[h];exact zi ..
  have hzl:=(cd.1 hz).1;rw[ij h];split;·exact UG hx.sh.sr hzl
  .exact SS hx.sh.sr (by simp) (by simpa using hzl)
theorem Vb{x:Hp}(hx:O2 x)(n:Nat):Sv x.S (uJ n x).S:=by
 induction n with
 | zero=>exact Sv.refl _
 | succ n ih=>rw[dA];exact ih.trans (Ve (bk hx n))
theorem QO{x:Hp}(hx:O2 x):Sv x.S (dw x).S:=Vb hx 100
structure qy (x y:Hp):Prop where
 sv:Sv x.S y.S
 q:∃l,y.Q=⟨x.Q.L++l,x.Q.Cap⟩/\∀t∈l,t.Kind=1->¬Ge x.S t.At
theorem qy.of{x y:Hp}(h:Sv x.S y.S)(q:y.Q=x.Q):qy x y:=⟨h,[],by rw[q,p0],λt ht=>by cases ht⟩
theorem qy.refl(x:Hp):qy x x:=qy.of (Sv.refl _) rfl
theorem qy.trans{x y z:Hp}(a:qy x y)(b:qy y z):qy x z:=by
 obtain⟨l,q1,q2⟩:=a.q;obtain⟨m,r1,r2⟩:=b.q;refine⟨a.sv.trans b.sv,l++m,by rw[r1,q1,pm],λt ht hk=>?_⟩;rcases zw.1 ht with h | h
 .exact q2 t h hk
 .exact λs=>r2 t h hk (a.sv.WY s)
theorem BT{x:Hp}(hx:O2 x):qy x (dw x):=by
 obtain⟨l,q1,q2,_⟩:=(nO hx).q;exact⟨QO hx,l,q1,λt ht hk=>Jv hx.sh.sr (q2 t ht hk).1 (q2 t ht hk).2⟩
theorem gZ{x:Hp}(hR:SR x.S)(r:Nat)(h:Int):qy x (H5 x r h):=qy.of (DF hR r h) (hU x r h).2.2.2
theorem VR{x:Hp}(hx:O2 x)(hS:SL x)(hz:zr x = [])(hb:x.S.Serial<9223372036854775807)(o:c8):(∃e,Er x o e)\/∃z v,Dn x o z v/\qy x z:=by
 have hR:=hx.sh.sr;obtain⟨k,a,b,c⟩:=o;by_cases hc:A8 k a b c=0
 .have:=Bg hc;have hk:k=1\/k=2\/k=3\/k=4\/k=5\/k=6\/k=7\/k=8\/k=9\/k=10\/k=11\/k=12:=by omega
  rcases hk with rfl | rfl | rfl | rfl | rfl | rfl | rfl | rfl | rfl | rfl | rfl | rfl
  .rcases d1 hx hS hb hc with ⟨e,_,h⟩ | ⟨hn,hcc,i,hF,h⟩;·exact .inl ⟨e,h⟩
   .obtain⟨hi,h0,_⟩:=hF;have k1:qy x (wS x (eK x.S i b.toNat c)):=qy.of (Wv hR hi h0 hn hcc) rfl;exact .inr ⟨_,_,h,k1.trans (gZ (x:=wS x (eK x.S i b.toNat c)) (Dh hR hi h0 hn hcc) _ _)⟩
  .exact .inr ⟨_,_,d2 hx hS hc,gZ hR _ _⟩
  .exact .inr ⟨_,_,d3 hx hS hc,gZ hR _ _⟩
  .rcases d4 hx hS hc with ⟨_,h⟩ | ⟨e,_,h⟩ | ⟨_,n,_,_,h⟩;·exact .inl ⟨_,h⟩
   .exact .inl ⟨_,h⟩
   .exact .inr ⟨_,_,h,gZ hR _ _⟩
  .rcases d5 hx hS hc with ⟨_,h⟩ | ⟨e,_,h⟩ | ⟨hl,n,_,hn,h⟩;·exact .inl ⟨_,h⟩
   .exact .inl ⟨_,h⟩
   .exact .inr ⟨_,_,h,qy.of (IH hR hl hn _) (ng _ _ _ _).2.2.2⟩
  .rcases d6 hx hS hc with ⟨_,h⟩ | ⟨e,_,h⟩ | ⟨_,h⟩;·exact .inl ⟨_,h⟩
   .exact .inl ⟨_,h⟩
   .exact .inr ⟨_,_,h,qy.of (NA hx _ _ _) (xB _ _ _ _).2.2.2⟩
  .obtain⟨_,⟨_,h⟩ | ⟨_,h⟩⟩:=d7 hx hS hc;·exact .inl ⟨_,h⟩
   .exact .inr ⟨_,_,h,gZ hR _ _⟩
  .rcases d8 hx hS hc with ⟨_,h⟩ | ⟨_,e,_,h⟩ | ⟨_,r,_,_,h⟩;·exact .inl ⟨_,h⟩
   .exact .inl ⟨_,h⟩
   .exact .inr ⟨_,_,h,qy.of (Mo hR _ _ _) (qn _ _ _ _).2.2.2⟩
  .rcases d9 hx hS hc with ⟨_,h⟩ | ⟨_,_,h⟩ | ⟨_,v,_,h⟩;·exact .inl ⟨_,h⟩
   .exact .inl ⟨_,h⟩
   .exact .inr ⟨_,_,h,gZ hR _ _⟩
  .exact .inr ⟨_,_,d10 hx hS hz hc,qy.refl x⟩
  .obtain⟨h1,h2⟩:=sL (x:=x) (a:=a) (b:=b) (c:=c) (.inl rfl) hc;exact .inl ⟨14,by decide,h1,h2⟩
  .obtain⟨h1,h2⟩:=sL (x:=x) (a:=a) (b:=b) (c:=c) (.inr rfl) hc;exact .inl ⟨14,by decide,h1,h2⟩
 .obtain⟨h1,h2⟩:=EJ (x:=x) (o:=⟨k,a,b,c⟩) hc;exact .inl ⟨_,hc,h1,h2⟩
theorem Tf{x:Hp}(hx:O2 x)(hS:SL x)(hz:zr x = [])(hb:x.S.Serial<9223372036854775807)(o:c8):qy x (tV x o).1:=by
 rcases VR hx hS hz hb o with ⟨e,_,h,_⟩ | ⟨z,v,d,f⟩
 .have:tV x o=(x,0,e):=by unfold tV;rw[h];rfl
  rw[this];exact qy.refl x
 .have:tV x o=(dw z,v,0):=by unfold tV;rw[d.mc];rfl
  rw[this];exact f.trans (BT d.rt)
theorem WV{x:Hp}(h1:mH x)(h2:Wk x){L:List Int}(h3:cg x L){r:Nat}(hr:r<6){h:Int}(hh:h=0\/h∈lv x.S):mH (H5 x r h)/\Wk (H5 x r h)/\cg (H5 x r h) L:=by
 have xV:=G3 h1.sr h (f:=W5) λc=>D7;have l1:lv (C5 x h).S=lv x.S:=xV.lv;have f1:cg (C5 x h) (h::L):=DG h1.sr h3 h;have s1:mH (C5 x h):=h1.st h (f:=W5) λc=>D7;have s2:mH (wR (C5 x h) (x.Roots.set r h)):=s1.roots (by rw[zae];exact h1.r6) λv hv=>by
  rw[l1];rcases zaa hv with q | q
  .exact h1.rt v q
  .exact q▸hh
 have w1:Wk (C5 x h):=h2.st h1.sr h (f:=W5) λc=>D7;have one:∀v k,aE [v] k=if v=k/\k≠0 then 1 else 0:=λv k=>by rw[G6,R3,zab]
 have f2:cg (wR (C5 x h) (x.Roots.set r h)) (x.Roots.getD r 0::L):=f1.mv rfl (λ_ _=>rfl) λk hk=>by
  have:=vr (l:=x.Roots) (r:=r) (by rw[h1.r6];exact hr) h k;rw[one,one] at this;rw[tH x h];unfold pj pk;dsimp only;rw[K9,K9,tQ,tQ,G6 h L,G6 (x.Roots.getD r 0) L];omega
 exact⟨s2.st _ λc=>P1,Wk.st (x:=wR (C5 x h) (x.Roots.set r h)) w1 s2.sr _ λc=>P1,rV (x:=wR (C5 x h) (x.Roots.set r h)) s2.sr f2⟩
abbrev xI(x:Hp)(ts:List l7):Hp:=wQ x ⟨ts,x.Q.Cap⟩
noncomputable def vQ(x:Hp)(ts:List l7)(h:Int):Hp:=R6 (H5 (xI x ts) 5 h) h
section
variable{x:Hp}(hx:O2 x){t:l7}{ts:List l7}(hq:x.Q.L=t::ts)
include hx hq
theorem FY:mH (xI x ts):=by
 have h:=hx.sh;refine⟨h.sr,h.hr,h.r6,h.c6,h.cap,?_,λu hu=>h.tk u (by rw[hq];exact zt _ hu),?_,h.rt,h.fl,h.pr,λi hi=>?_⟩
 .have:=h.q30;rw[hq,zl] at this;show ts.length<=30;omega
 .have:=h.td;rw[hq,ul] at this;exact this.2
 .obtain⟨a,b,c,d,e⟩:=h.cl i hi;refine⟨a,b,c,d,λq=>⟨(e q).1,?_⟩⟩;have:=(e q).2;rw[zbb] at this |-;intro r;obtain⟨u,hu,k1,k2⟩:=je.1 r;exact this (je.2 ⟨u,by rw[hq];exact zt _ hu,k1,k2⟩)
theorem Eb:cg (xI x ts) (if t.Kind=1 then [t.At] else []):=hx.fair.mv rfl (λ_ _=>rfl) λh _=>by
 unfold pj pk xS;dsimp only;rw[hq,n9];by_cases k:t.Kind=1
 .rw[zb k,zb (by simpa using k),ww,K9,K9,G6 t.At (List.map _ _),G6 t.At [],R3];omega
 .rw[za k,za (by simpa using k),R3]
theorem EC(hk:t.Kind≠1):O2 (xI x ts):=⟨FY hx hq,hx.wk,by have:=Eb hx hq;rwa [za hk] at this⟩
theorem KN(hk:t.Kind=1):t.At∈lv x.S/\(ob x.S t.At).Started=true:=by
 rcases (hx.sh.tk t (by rw[hq];exact zi ..)).2.2 with ⟨_,b,c⟩ | ⟨b,_⟩;·exact⟨b,c⟩
 .omega
theorem ow(hk:t.Kind=1):O2 (vQ x ts t.At):=by
 have f:=Eb hx hq;rw[zb hk] at f;obtain⟨a,b,c⟩:=WV (FY hx hq) (x:=xI x ts) hx.wk f (r:=5) (by decide) (.inr (KN hx hq hk).1);exact⟨a.st _ λc=>P1,b.st a.sr _ λc=>P1,rV a.sr c⟩
omit hq in
theorem KP (hS:SL x) (h:Int):SL (vQ x ts h):=by
 have k:=kf (x:=xI x ts) hx.sh.sr hS 5 h;exact BK [h] (dv (x:=xI x ts) hx.sh.sr 5 h).sr k
omit hq in
theorem Tn (h:Int):Ks x.S (vQ x ts h).S:=by
 have k:=dv (x:=xI x ts) hx.sh.sr 5 h;exact k.trans (BL k.sr h)
omit hq in
theorem KO (h:Int):(vQ x ts h).Roots=x.Roots.set 5 h/\(vQ x ts h).a8=x.a8/\(vQ x ts h).T=x.T/\(vQ x ts h).Q=⟨ts,x.Q.Cap⟩:=by
 obtain⟨a,b,c,d⟩:=xe (H5 (xI x ts) 5 h) h;obtain⟨a',b',c',d'⟩:=hU (xI x ts) 5 h;exact⟨a.trans a',b.trans b',c.trans c',d.trans d'⟩
omit hq in
theorem Tm (h:Int):qy (xI x ts) (vQ x ts h):=qy.of ((DF (x:=xI x ts) hx.sh.sr 5 h).trans (BM (dv (x:=xI x ts) hx.sh.sr 5 h).sr h)) (KO hx h).2.2.2
end
def Jh(ps:List (List c8))(n:Int):List c8:=if n<0\/(ps.length:Int)<=n then [] else ps.getD n.toNat []
noncomputable def pre(x:Hp)(t:l7)(ts:List l7):Hp:=if t.Kind=1 then dw (vQ x ts t.At) else xI x ts
noncomputable def Vx(ps:List (List c8))(x:Hp)(t:l7)(ts:List l7):Hp:=(runs (pre x t ts) (Jh ps t.Prog)).1
noncomputable def NN(ps:List (List c8))(x:Hp)(t:l7)(ts:List l7):Hp:=if t.Kind=1 then dw (H5 (Vx ps x t ts) 5 0) else Vx ps x t ts
structure Oh (x:Hp):Prop where
 rt:O2 x
 sl:SL x
 zr:zr x = []
theorem Vu.ok{x y:Hp}{o:c8}{v e:Int}(n:Vu x o y v e):Oh y:=⟨n.rt,n.sl,n.zr⟩
theorem HT{x:Hp}(h:O2 x)(s:SL x):Oh (dw x):=⟨ep h,HU h s,Aa h⟩
theorem MV{x:Hp}(hx:Oh x)(l:List c8)(hb:x.S.Serial+l.length<9223372036854775807):Oh (runs x l).1/\qy x (runs x l).1/\(runs x l).1.S.Serial<=x.S.Serial+l.length/\(runs x l).2.length=l.length:=by
 have key:∀k,k<=l.length->Oh (runs x (l.take k)).1/\qy x (runs x (l.take k)).1/\(runs x (l.take k)).1.S.Serial<=x.S.Serial+k/\(runs x (l.take k)).2.length=k:=by
  intro k;induction k with
  | zero=>exact λ_=>⟨hx,qy.refl x,by show x.S.Serial<=_;omega,rfl⟩
  | succ k ih=>
   intro hk;obtain⟨a,b,c,d⟩:=ih (by omega);have hk':k<l.length:=by omega
   have n:=oI a.rt a.sl a.zr (by omega) l[k];rw[R9 hk',oU];exact⟨n.ok,b.trans (Tf a.rt a.sl a.zr (by omega) _),by have:=n.ev.s2;show (tV _ _).1.S.Serial<=_;omega,by simp[d]⟩
 have:=key l.length (zq _);rwa [zT] at this
section
variable{x:Hp}(hx:Oh x){t:l7}{ts:List l7}(hq:x.Q.L=t::ts)(ps:List (List c8))
include hx hq
theorem Mx:Oh (pre x t ts):=by
 unfold pre;split
 .rename_i k;exact HT (ow hx.rt hq k) (KP hx.rt hx.sl _)
 .rename_i k;exact⟨EC hx.rt hq k,hx.sl,hx.zr⟩
theorem Ux:qy (xI x ts) (pre x t ts):=by
 unfold pre;split
 .rename_i k;exact (Tm hx.rt _).trans (BT (ow hx.rt hq k))
 .exact qy.refl _
theorem Hu:(pre x t ts).S.Serial=x.S.Serial:=by
 unfold pre;split
 .rename_i k;rw[(nO (ow hx.rt hq k)).T5,(Tn hx.rt _).T5]
 .rfl
variable(hb:x.S.Serial+(Jh ps t.Prog).length<9223372036854775807)
include hb
theorem HC:Oh (Vx ps x t ts)/\qy (xI x ts) (Vx ps x t ts)/\(Vx ps x t ts).S.Serial<=x.S.Serial+(Jh ps t.Prog).length:=by
 have e:=Hu hx hq;obtain⟨a,b,c,_⟩:=MV (Mx hx hq) (Jh ps t.Prog) (by rw[e];exact hb);exact⟨a,(Ux hx hq).trans b,by rw[e] at c;exact c⟩
theorem Ph:Oh (NN ps x t ts)/\qy (xI x ts) (NN ps x t ts)/\(NN ps x t ts).S.Serial<=x.S.Serial+(Jh ps t.Prog).length/\(t.Kind=1->sd (NN ps x t ts) 5=0):=by
 obtain⟨a,b,c⟩:=HC hx hq ps hb;unfold NN;split
 .have hz:=cG a.rt (r:=5) (by decide) (h:=0) (.inl rfl);have k:=dv a.rt.sh.sr 5 0;refine⟨HT hz (kf a.rt.sh.sr a.sl 5 0),(b.trans (gZ a.rt.sh.sr 5 0)).trans (BT hz),?_,λ_=>(oR a.rt (a:=5) (by decide) (h:=0) (.inl rfl)).1⟩;rw[(nO hz).T5,k.T5];exact c
 .exact⟨a,b,c,λq=>absurd q (by assumption)⟩
end
def IC(ps:List (List c8))(t:l7):Int:=1+((Jh ps t.Prog).length:Int)
def can(ps:List (List c8))(p:Hp × Int):Prop:=∃t ts,p.1.Q.L=t::ts/\IC ps t<=p.2
noncomputable def Uc(ps:List (List c8))(p:Hp × Int):Hp × Int:=match p.1.Q.L with
 | []=>p
 | t::ts=>if IC ps t<=p.2 then (NN ps p.1 t ts,p.2-IC ps t) else p
noncomputable def dN(ps:List (List c8)):Nat->Hp × Int->Hp × Int
 | 0,p=>p
 | n+1,p=>dN ps n (Uc ps p)
section
variable(ps:List (List c8))
theorem AE(n:Nat)(p:Hp × Int):dN ps (n+1) p=Uc ps (dN ps n p):=by
 induction n generalizing p with
 | zero=>rfl
 | succ n ih=>exact ih (Uc ps p)
theorem PQ{p:Hp × Int}(h:p.1.Q.L = []):Uc ps p=p:=by unfold Uc;rw[h]
theorem wF{p:Hp × Int}{t:l7}{ts:List l7}(h:p.1.Q.L=t::ts):Uc ps p=if IC ps t<=p.2 then (NN ps p.1 t ts,p.2-IC ps t) else p:=by unfold Uc;rw[h]
theorem Kk{p:Hp × Int}{t:l7}{ts:List l7}(h:p.1.Q.L=t::ts):can ps p↔IC ps t<=p.2:=by
 constructor
 .rintro⟨u,us,e,c⟩;rw[h] at e;injection e with e1 e2
  rw[e1];exact c
 .exact λc=>⟨t,ts,h,c⟩
theorem uW(t:l7):1<=IC ps t:=by unfold IC;omega
theorem GJ{p:Hp × Int}(hb:0<=p.2):∃n:Nat,(n:Int)<=p.2/\¬can ps (dN ps n p)/\∀j,j<n->can ps (dN ps j p):=by
 have key:∀m:Nat,(∃n:Nat,n<=m/\¬can ps (dN ps n p))\/((dN ps m p).2+m<=p.2/\0<=(dN ps m p).2):=by
  intro m;induction m with
  | zero=>exact .inr ⟨by show p.2+((0:Nat):Int)<=_;omega,hb⟩
  | succ m ih=>
   rcases ih with ⟨n,h1,h2⟩ | ⟨h1,h2⟩;·exact .inl ⟨n,by omega,h2⟩
   .by_cases q:can ps (dN ps m p)
    .right;obtain⟨t,ts,e,c⟩:=q;have:=uW ps t;rw[AE,wF ps e,zb c];dsimp only;omega
    .exact .inl ⟨m,by omega,q⟩
 have hex:∃n:Nat,(n:Int)<=p.2/\¬can ps (dN ps n p):=by
  rcases key (p.2.toNat+1) with ⟨n,h1,h2⟩ | ⟨h1,h2⟩
  .rcases zB n (p.2.toNat+1) with q | q
   .exact⟨n,by omega,h2⟩
   .have hn:n=p.2.toNat+1:=by omega
    rcases key p.2.toNat with ⟨n,h1,h2⟩ | ⟨h1,h3⟩;·exact⟨n,by omega,h2⟩
    .refine⟨p.2.toNat,by omega,λ⟨t,ts,e,c⟩=>?_⟩;have:=uW ps t;omega
  .omega
 obtain⟨n,⟨hn,hz⟩,hmin⟩:=bR hex;refine⟨n,hn,hz,λj hj=>rg λq=>?_⟩;have:=hmin j ⟨by omega,q⟩;omega
theorem EG{p:Hp × Int}(hx:Oh p.1)(hb:0<=p.2)(hs:p.1.S.Serial+p.2<9223372036854775807):∀n,Oh (dN ps n p).1/\0<=(dN ps n p).2/\(dN ps n p).2<=p.2/\(dN ps n p).1.S.Serial+(dN ps n p).2<=p.1.S.Serial+p.2
 | 0=>⟨hx,hb,q9 _,q9 _⟩
 | n+1=>by
  obtain⟨a,b,c,d⟩:=EG hx hb hs n;rw[AE];cases e:(dN ps n p).1.Q.L with
  | nil=>rw[PQ ps e];exact⟨a,b,c,d⟩
  | cons t ts=>
   rw[wF ps e];split
   .rename_i q;have q2:=q;unfold IC at q2;obtain⟨r1,_,r3,_⟩:=Ph a e ps (by omega);refine⟨r1,?_,?_,?_⟩;·dsimp only;omega
    .have:=uW ps t;dsimp only;omega
    .dsimp only;unfold IC;omega
   .exact⟨a,b,c,d⟩
end
noncomputable def dn(ps:List (List c8))(p:Hp × Int):Nat:=if h:0<=p.2 then Classical.choose (GJ ps h) else 0
theorem GK(ps:List (List c8)){p:Hp × Int}(h:0<=p.2):(dn ps p:Int)<=p.2/\¬can ps (dN ps (dn ps p) p)/\∀j,j<dn ps p->can ps (dN ps j p):=by
 unfold dn;rw[dif_pos h];exact zat (GJ ps h)
noncomputable def dr(ps:List (List c8))(p:Hp × Int):Hp × Int:=dN ps (dn ps p) p
theorem VS(ps:List (List c8)){x:Hp}{f:Int}(hx:Oh x)(hf:0<=f)(hs:x.S.Serial+f<9223372036854775807):Oh (dr ps (x,f)).1/\0<=(dr ps (x,f)).2/\(dr ps (x,f)).2<=f/\(dr ps (x,f)).1.S.Serial+(dr ps (x,f)).2<=x.S.Serial+f:=EG ps (p:=(x,f)) hx hf hs _
section
variable{x:Hp}(hx:mH x)(hS:∀k∈lv x.S,(ob x.S k).Strong<=9223372036854775807)
include hx hS
theorem TS{h:Int}(hh:h=0\/h∈lv x.S):h<=9223372036854775807:=by
 rcases hh with q | q
 .omega
 .have:=I1 hx.sr q;omega
theorem MP(k:Int){h:Int}(hh:h<=9223372036854775807):bc x k h=some (if k<0\/5<k then (x,6) else if h=0\/h∈lv x.S then (H5 x k.toNat h,0) else (x,3)):=by
 have hR:=hx.sr;have r6:=hx.r6;unfold bc;by_cases hk:k<0\/5<k
 .rw[zb hk,zb (by rw[r6];simp;omega)]
 .rw[za hk,za (by rw[r6];simp;omega),dY hR hh,Yx];by_cases hn:h=0\/h∈lv x.S
  .rw[zb hn,zA hn,za (by simp)];obtain⟨n,rfl⟩:∃n:Nat,k=n:=⟨k.toNat,by omega⟩;have hn6:n<6:=by omega
   have hnl:n<x.Roots.length:=by omega
   have old:x.Roots[n]<=9223372036854775807:=TS hx hS (hx.rt _ (zj hnl));have e1:=nJ x h;have hn2:n<(C5 x h).Roots.length:=by rw[e1.1];exact hnl
   rw[u6 hnl,Yx];unfold F2 Q3 M8;rw[ke hR hh hS,Yx];dsimp only;rw[U9 (by omega) (by rw[e1.1];omega),Yx,u6 hn2,Yx,Yx];have hrel:=ee (x:=wR (C5 x h) (x.Roots.set n h)) (hZ hR h) old;rw[zX,e1.1,show C8 ⟨(C5 x h).S,x.Roots.set n h,(C5 x h).a8,(C5 x h).T,(C5 x h).Q⟩ x.Roots[n]=_ from hrel];unfold H5;rw[zf,zc hnl];rfl
  .rw[za hn,zK hn,zb (by simp)]
end
theorem Fz(ps:List (List c8))(n:Int):gA ps n=some (Jh ps n):=by
 unfold gA Jh;by_cases h:n<0\/(ps.length:Int)<=n
 .rw[zb (by simpa using h),zb h]
 .rw[za (by simpa using h),za h];obtain⟨k,rfl⟩:∃k:Nat,n=k:=⟨n.toNat,by omega⟩;have hk:k<ps.length:=by omega
  rw[u6 hk,Yx,zX,zf,zc hk];rfl
abbrev Xp(ps:List (List c8)):List (List au):=ps.map (List.map RR)
def Mp(ps:List (List c8)):Prop:=∀p∈ps,p.length<=6
theorem Hv{ps:List (List c8)}(h:Mp ps)(n:Int):(Jh ps n).length<=6:=by
 unfold Jh;split;·simp
 .rename_i q;have hk:n.toNat<ps.length:=by omega
  rw[zf,zc hk];exact h _ (zj hk)
theorem GI{ps:List (List c8)}(h:Mp ps)(t:l7):kY ps t=some (IC ps t):=by
 have:=Hv h t.Prog;unfold kY IC;rw[Fz,Yx,F7 (by omega) (by omega)]
theorem EL(x:Hp):eR x=some (x.Q.L.isEmpty):=by
 unfold eR;rw[Ca,Yx];unfold QX;cases x.Q.L <;> rfl
section
variable{x:Hp}(hx:Oh x){t:l7}{ts:List l7}(hq:x.Q.L=t::ts){ps:List (List c8)}(hm:Mp ps)(hb:x.S.Serial<9000000000000000000)
include hx hq hm hb
theorem Nv:kZ x ps=some (NN ps x t ts,t,0):=by
 have R8:=Hv hm t.Prog;have pok:=Mx hx hq;have pser:=Hu hx hq;obtain⟨rok,_,_⟩:=HC hx hq ps (by omega);have hrun:=(run_eq pok.rt pok.sl pok.zr (Jh ps t.Prog) (by omega) (by rw[pser];omega)).1;have hrun':eW (pre x t ts) (Jh ps t.Prog)=some (Vx ps x t ts,(runs (pre x t ts) (Jh ps t.Prog)).2):=hrun;have hz:=cG rok.rt (r:=5) (by decide) (h:=0) (.inl rfl);have zS:=kf rok.rt.sh.sr rok.sl 5 0;unfold kZ;rw[Ca,Yx];have e:QX x.Q=(⟨ts,x.Q.Cap⟩,t,0):=by unfold QX;rw[hq]
 rw[e];dsimp only;rw[za (by simp)];simp only[jn];by_cases k:t.Kind=1
 .have hk:(t.Kind==1)=true:=by simpa using k
  have hat:=(KN hx.rt hq k).1;have ush:=FY hx.rt hq;have hm1:=gM hx.rt.sh.sr hat;have e1:bc ⟨x.S,x.Roots,x.a8,x.T,⟨ts,x.Q.Cap⟩⟩ 5 t.At=some (H5 (xI x ts) 5 t.At,0):=by
   have:=MP (x:=xI x ts) ush hx.sl 5 hm1;rw[za (by omega),zb (.inr hat)] at this;exact this
  have e2:C8 (H5 (xI x ts) 5 t.At) t.At=some (vQ x ts t.At):=ee (dv (x:=xI x ts) hx.rt.sh.sr 5 t.At).sr hm1;have e3:=gp (ow hx.rt hq k) (KP hx.rt hx.sl t.At);have e4:pre x t ts=dw (vQ x ts t.At):=by unfold pre;rw[zb k]
  have e5:=HL rok.rt rok.sl 5 (h:=0) (by decide);rw[za (by omega),zb (.inl rfl)] at e5;rw[zb hk,e1,Yx];dsimp only;rw[e2,Yx,e3,Yx,Fz,Yx,<-e4,hrun',Yx,zb hk];dsimp only;rw[e5,Yx];refine Cp (gp hz zS) ?_;unfold NN;rw[zb k];rfl
 .have hk:¬(t.Kind==1)=true:=by simpa using k
  have e4:pre x t ts=xI x ts:=by unfold pre;rw[za k]
  rw[za hk,Fz,Yx,show (⟨x.S,x.Roots,x.a8,x.T,⟨ts,x.Q.Cap⟩⟩:b6)=pre x t ts from e4.symm,hrun',Yx,za hk];unfold NN;rw[za k]
end
section
variable{x:Hp}(hx:Oh x){ps:List (List c8)}(hm:Mp ps){f:Int}(hf:0<=f)(hf2:f<=1000000)(hb:x.S.Serial<8000000000000000000)
include hx hm hf hf2 hb
def VU(p:Hp × Int):Int:=if p.1.Q.L.isEmpty then 0 else 12
theorem drain_eq:eQ x ps f=some ((dr ps (x,f)).1,(dn ps (x,f):Int),(dr ps (x,f)).2,VU (dr ps (x,f))):=by
 obtain⟨a1,a2,a3⟩:=GK ps (p:=(x,f)) hf;have all:=EG ps (p:=(x,f)) hx hf (by show x.S.Serial+f<_;omega);unfold eQ;simp only[jn];dsimp only at a1;refine jN (λk=>((dN ps k (x,f)).2,(dN ps k (x,f)).1,(k:Int),(dN ps k (x,f)).2,(dN ps k (x,f)).1)) rfl (dn ps (x,f)) (λ_=>True) (by omega) trivial (λk hk _=>.inl ⟨?_,trivial⟩) (λ_=>⟨((dn ps (x,f):Int),(dr ps (x,f)).2,(dr ps (x,f)).1),?_,?_⟩)
 .obtain⟨b1,b2,b3,b4⟩:=all k;obtain⟨t,ts,e,c⟩:=a3 k hk;dsimp only at b2 b3 b4;have hc:=uW ps t;rw[EL,e,Yx];show (cI _).bind _=_;rw[Ca,Yx];have e2:QX (dN ps k (x,f)).1.Q=(⟨ts,(dN ps k (x,f)).1.Q.Cap⟩,t,0):=by unfold QX;rw[e]
  rw[e2];dsimp only;rw[GI hm,Yx,za (by simp;omega),Nv b1 e hm (by omega),Yx,F7 (by omega) (by omega),p8,AE,wF ps e,zb c]
 .rw[EL,Yx];cases e:(dN ps (dn ps (x,f)) (x,f)).1.Q.L with
  | nil=>rfl
  | cons t ts=>
   have hc:¬IC ps t<=(dN ps (dn ps (x,f)) (x,f)).2:=λq=>a2 ((Kk ps e).2 q);show (cI _).bind _=_;rw[Ca,Yx];have e2:QX (dN ps (dn ps (x,f)) (x,f)).1.Q=(⟨ts,(dN ps (dn ps (x,f)) (x,f)).1.Q.Cap⟩,t,0):=by unfold QX;rw[e]
   rw[e2];dsimp only;rw[GI hm,Yx,zb (by simp;omega)];rfl
 .dsimp only;rw[EL,Yx];unfold VU;cases (dr ps (x,f)).1.Q.L.isEmpty <;> rfl
end
theorem RM{l:List (List c8)}(h:Y3 l=true):Mp l/\l.length<=6:=by
 unfold Y3 at h;rw[zk,zF,zd] at h;refine⟨λp hp=>?_,h.1⟩;have:=h.2 p hp;unfold rF at this;rw[zk,zF] at this;exact this.1
noncomputable def eo(ps:List (List c8))(x:Hp)(o:c8):Hp × Int × Int:=
 if o.Kind=11 then (EE x,OW x-((mV x).length:Int),0)
 else if o.Kind=12 then ((dr ps (x,o.A)).1,(dn ps (x,o.A):Int),VU (dr ps (x,o.A)))
 else tV x o
noncomputable def er(ps:List (List c8))(x:Hp)(row:List Int):Hp × Int × Int:=if (ck row).2≠0 then (x,0,(ck row).2) else eo ps x (ck row).1
theorem AF{row:List Int}(h:(ck row).2=0):A8 (ck row).1.Kind (ck row).1.A (ck row).1.B (ck row).1.C=0:=by
 unfold ck at h |-;rcases four row with ⟨k,a,b,c,rfl⟩ | hl
 .rw[AH,zR] at h |-;by_cases q:A8 k a b c≠0
  .rw[zb q] at h;exact absurd h q
  .rw[za q];exact Classical.not_not.1 q
 .rw[(uX hl).1,zR] at h;exact absurd h (by decide)
theorem Kp{a b c:Int}(h:A8 12 a b c=0):0<=a/\a<=200:=yD (by decide) (show L6 a 0 200 12=0 from h)
section
variable{ps:List (List c8)}(hm:Mp ps){x:Hp}(hx:Oh x)(hb:x.S.Serial<7000000000000000000)
include hm hx hb
theorem VV{o:c8}(ho:o.Kind=12->0<=o.A/\o.A<=200):Oh (eo ps x o).1/\(eo ps x o).1.S.Serial<=x.S.Serial+201:=by
 unfold eo;split
 .obtain⟨a,b,c⟩:=EF hx.rt hx.sl hx.zr;refine⟨⟨a,b,c⟩,?_⟩;show (EE x).S.Serial<=_;rw[Pa hx.rt hx.sl hx.zr];omega
 .split
  .rename_i h;obtain⟨h0,h2⟩:=ho h;obtain⟨a,b,c,d⟩:=VS ps hx h0 (by omega);exact⟨a,by show (dr ps (x,o.A)).1.S.Serial<=_;omega⟩
  .have n:=oI hx.rt hx.sl hx.zr (by omega) o;have:=n.ev.s2;exact⟨n.ok,by omega⟩
theorem VX(row:List Int):Oh (er ps x row).1/\(er ps x row).1.S.Serial<=x.S.Serial+201:=by
 unfold er;split;·exact⟨hx,by show x.S.Serial<=_;omega⟩
 .rename_i h;have hc:=AF (Classical.not_not.1 h);refine VV hm hx hb λhk=>?_;rw[hk] at hc;exact Kp hc
end
def yu(l:List b7)(k:Int):Nat:=l.countP λc=>c.State==k
theorem Ky(l:List b7)(c:b7)(k:Int):yu (l ++ [c]) k=yu l k+if c.State=k then 1 else 0:=by
 unfold yu;rw[List.countP_append];simp[List.countP_cons]
noncomputable def Nk(x:Hp):List Int:=(lv x.S).map λh=>T5 x h
theorem LF{s:a7}(hR:SR s){h:Int}(hh:h∈lv s):sk s.S.a8 h=(ob s h).Serial:=by
 obtain⟨i,hi⟩:=(fF hR).1 hh;rw[Kc hR hi,Q0 hR hi]
theorem Va{x:Hp}(hR:SR x.S):(Nk x).Pairwise (· < ·):=by
 unfold Nk;rw[List.pairwise_map];refine List.Pairwise.imp_of_mem (λ{a b} ha hb h=>?_) (iQ (y4.2 hR)).2.2;rw[LF hR ha,LF hR hb] at h;exact h
theorem Nl{x:Hp}(hR:SR x.S):(Nk x).mergeSort (λx y=>decide (x<=y))=Nk x:=
 List.mergeSort_of_pairwise ((Va hR).imp λh=>zA (by omega))
theorem HX{x:Hp}(hR:SR x.S):(Nk x).length<=24:=by
 unfold Nk;rw[wt];exact M5 (y4.2 hR)
inductive Fm (x:Hp) (o:c8) (z:Hp) (v:Int):Prop
 | new (i:Nat) (hF:VD x.S i) (hk:o.Kind=1) (ha:0<=o.A/\o.A<=5) (hn:o.B.toNat<=4) (hc : -1<=o.C/\o.C<=5) (hv:v=x.S.Serial+1) (hz:z=H5 (wS x (eK x.S i o.B.toNat o.C)) o.A.toNat (dE x.S i)):Fm x o z v
 | root (h:Int) (hk:o.Kind≠1) (ha:0<=o.A/\o.A<=5) (hh:h=0\/h∈lv x.S) (hz:z=H5 x o.A.toNat h):Fm x o z v
 | field (h:Int) (n:Nat) (u:Int) (hk:o.Kind=5) (hl:h∈lv x.S) (hn:n<(ob x.S h).Fields.length) (hu:u=0\/u∈lv x.S) (hz:z=bS x h n u):Fm x o z v
 | weak (h:Int) (hk:o.Kind=6) (ha:0<=o.A/\o.A<=5) (hc : -1<=o.C/\o.C<=5) (hh:h=0\/h∈lv x.S) (hw:JG x.Q o.A=false) (hz:z=dP x o.A.toNat h o.C):Fm x o z v
 | pair (h u:Int) (r:Tb × Int × Int) (hk:o.Kind=8) (hl:h∈lv x.S) (hu:u=0\/u∈lv x.S) (hr:P7 x.T h u=some r) (h0:r.2.2=0) (hz:z=jS x u r.1 r.2.1):Fm x o z v
 | same (hk:o.Kind=10) (hz:z=x):Fm x o z v
theorem Fm.ks{x z:Hp}{o:c8}{v:Int}(hx:O2 x)(f:Fm x o z v)(hk:o.Kind≠1):Ks x.S z.S:=by
 have hR:=hx.sh.sr;cases f with
 | new i hF hk'=>exact absurd hk' hk
 | root h _ ha hh hz=>rw[hz];exact dv hR _ _
 | field h n u _ hl hn hu hz=>rw[hz];exact yw hR hl hn u
 | weak h _ ha hc hh hw hz=>rw[hz];exact Ed hx (by omega) h _
 | pair h u r _ hl hu hr h0 hz=>rw[hz];exact Dp hR u _ _
 | same _ hz=>rw[hz];exact Ks.refl hR
def Xv(p:Int × Int):D4:=⟨p.1,p.2⟩
section
variable{ps:List (List c8)}(hm:Mp ps){x:Hp}(hx:Oh x)(hb:x.S.Serial<7000000000000000000)
include hm hx hb
theorem Ko : -24<=OW x-((mV x).length:Int)/\OW x-((mV x).length:Int)<=24:=by
 have h1:=GD hx.rt hx.sl hx.zr;have h2:(lv x.S).length<=24:=M5 (y4.2 hx.rt.sh.sr);obtain⟨c1,_,_⟩:=EF hx.rt hx.sl hx.zr;have h3:(lv (EE x).S).length<=24:=M5 (y4.2 c1.sh.sr);unfold OW;split
 .rename_i e;rw[e];simp;omega
 .omega
theorem Yr(row:List Int):ov ⟨x,ps⟩ row=some (⟨(er ps x row).1,ps⟩,Xv (er ps x row).2):=by
 unfold ov;rw[(Kz row).1,Yx];unfold er;by_cases h:(ck row).2=0
 .rw[za (show ¬(((ck row).2 != 0)=true) by simp[h]),za (show ¬((ck row).2≠0) by simp[h])];have hc:=AF h;generalize (ck row).1=o at hc;unfold la eo;by_cases k11:o.Kind=11
  .rw[zb (by simp[k11]),zb k11];refine zcg (b:=(Z1 x).bind λv4=>some (⟨v4.1,ps⟩,⟨z8 (v4.2.2-v4.2.1),0⟩)) rfl ?_;obtain⟨b1,b2⟩:=Ko hm hx hb;rw[SX hx.rt hx.sl hx.zr,Yx];dsimp only;rw[F7 (by omega) (by omega)];rfl
  .rw[za (by simp[k11]),za k11];by_cases k12:o.Kind=12
   .rw[zb (by simp[k12]),zb k12];refine zcg (b:=(eQ x ps o.A).bind λv5=>some (⟨v5.1,ps⟩,⟨v5.2.1,v5.2.2.2⟩)) rfl ?_;rw[k12] at hc;obtain⟨a0,a2⟩:=Kp hc;rw[drain_eq hx hm a0 (by omega) (by omega),Yx];rfl
   .rw[za (by simp[k12]),za k12];refine zcg (b:=(x6 x o).bind λv3=>some (⟨v3.1,ps⟩,⟨v3.2.1,v3.2.2⟩)) rfl ?_;rw[(oI hx.rt hx.sl hx.zr (by omega) o).mc,Yx];rfl
 .rw[zb (by simpa using h),zb h];rfl
end
section
variable{ps:List (List c8)}(hm:Mp ps){x:Hp}(hx:Oh x)
include hm hx
end
def NT(x:Hp):A4:=⟨yu x.S.S.a8 0,yu x.S.S.a8 1,yu x.S.S.a8 2,yu x.S.S.a8 3⟩
theorem QV{s:a7}(hR:SR s):T6 s.S=some ⟨yu s.S.a8 0,yu s.S.a8 1,yu s.S.a8 2,yu s.S.a8 3⟩:=by
 unfold T6;simp only[jn];have hlen:=hR.len;refine Y1 s.S.a8.length (λk t=>t=⟨yu (s.S.a8.take k) 0,yu (s.S.a8.take k) 1,yu (s.S.a8.take k) 2,yu (s.S.a8.take k) 3⟩) (by omega) (by simp[yu]) (λk t hk ht=>.inl ?_) (λt ht=>⟨_,by simp;rfl,by rw[ht,zT]⟩);have hc:=hR.cell k hk;rw[E9 hk] at hc;subst ht;simp only[zQ,hk,zV,zU,u6 hk,Yx];have hle:∀j,yu (s.S.a8.take k) j<=24:=λj=>un zbf (by simp;omega);have h0:=hle 0;have h1:=hle 1;have h2:=hle 2;have h3:=hle 3;rw[zu hk];simp only[Ky];refine⟨_,?_,rfl⟩;have hst:s.S.a8[k].State=0\/s.S.a8[k].State=1\/s.S.a8[k].State=2\/s.S.a8[k].State=3:=by omega
 rcases hst with e | e | e | e <;> rw[e] <;> simp[A4.ix,A4.l,A4.st,ix] <;> rw[p8,p8] <;> simp
section
variable{ps:List (List c8)}{x:Hp}(hx:O2 x)
include hx
theorem XT:fO ⟨x,ps⟩=some (NT x):=by
 unfold fO;dsimp only;rw[QV hx.sh.sr,Yx];rfl
theorem Ti:fN ⟨x,ps⟩=some (Nk x):=by
 have hR:=hx.sh.sr;have l24:(lv x.S).length<=24:=M5 (y4.2 hR);unfold fN;simp only[jn];rw[dd (y4.2 hR),Yx];refine Y1 (lv x.S).length (λk l=>l=((lv x.S).take k).map λh=>T5 x h) (by omega) rfl (λk l hk hl=>.inl ⟨_,?_,rfl⟩) (λl hl=>⟨l,za (by simp),?_⟩)
 .subst hl;dsimp only;have:=I1 hR (zj hk);rw[zb (by simpa using hk),u6 hk,Yx,Nc hx.sh (by omega),Yx,C3 (by omega) (by simp;omega),Yx,p8,zu hk,zad];rfl
 .subst hl;rw[zT];show (oW (Nk x)).bind _=_;have:=HX (x:=x) hR;unfold oW;rw[zb (by omega),Lu,Nl hR];rfl
end
theorem Rs.oh{x:Hp}{n:Nat}(h:Rs x n):Oh x:=⟨h.rt,h.sl,h.zr⟩
theorem WA{n last places:Int}{ps:List (List c8)}(hl:ps.length<=12)(hp:∀p∈ps,p.length<=1000) :
  (∃e,F9 n last places ps=some (⟨Li,[]⟩,e)/\BF n last places (Xp ps)=some (⟨hO Li,[]⟩,e)/\(e=13\/e=1/\¬((1<=n/\n<=24)/\(0<=last/\last<=9)/\1<=places/\places<=8))) \/
  (∃k p:Nat,n=k/\places=p/\(1<=k/\k<=24)/\Mp ps/\Rs (Bm k last p) 0/\F9 n last places ps=some (⟨Bm k last p,ps⟩,0)/\BF n last places (Xp ps)=some (⟨hO (Bm k last p),Xp ps⟩,0)):=by
 have e1:dS ps=some (Y3 ps):=Dv (by omega) hp;have e2:oO (Xp ps)=some (Y3 ps):=FA (by omega) hp;unfold F9 BF;rw[e1,e2,Yx,Yx];cases hq:Y3 ps;·exact .inl ⟨13,rfl,rfl,.inl rfl⟩
 .simp only[Bool.not_true,zm,zY];by_cases h:(1<=n/\n<=24)/\(0<=last/\last<=9)/\1<=places/\places<=8
  .right;obtain⟨h1,h2,h3⟩:=h;obtain⟨k,rfl⟩:∃k:Nat,n=k:=⟨n.toNat,by omega⟩;obtain⟨p,rfl⟩:∃p:Nat,places=p:=⟨places.toNat,by omega⟩;obtain⟨a1,a2,hx,hS,hz⟩:=Lf (k:=k) (p:=p) (l:=last) (by omega) h2 (by omega);refine⟨k,p,rfl,rfl,by omega,(RM hq).1,⟨hx,hS,hz,q9 _⟩,?_,?_⟩
   .rw[a1,Yx,hx.sh.r6];rfl
   .rw[a2,Yx,show (hO (Bm k last p)).Roots.length=6 from hx.sh.r6];rfl
  .left;have a1:jJ n last places=some Li:=by
    unfold jJ;rw[zb (by simp;omega)];rfl
   have a2:rJ n last places=some (hO Li):=by
    unfold rJ;rw[zb (by simp;omega)];rfl
   refine⟨1,?_,?_,.inr ⟨rfl,h⟩⟩;·rw[a1];rfl
   .rw[a2];rfl
theorem LA{S E:Type}{f:S->Option (S ⊕ E)}(Q:E->Prop)(h:∀s e,f s=some (.inr e)->Q e):∀(N:Nat) (s:S) (e:E),Lz f N s=some e->Q e:=by
 intro N;induction N with
 | zero=>intro s e q;rw[wy] at q;cases q
 | succ N ih=>
  intro s e q;rw[jM] at q;cases hf:f s with
  | none=>rw[hf] at q;cases q
  | some y=>
   rw[hf] at q;cases y with
   | inl s'=>exact ih s' e q
   | inr e'=>cases q;exact h s _ hf
theorem Hc{S E:Type}{f:S->Option (S ⊕ E)}{s0:S}{e:E}(Q:E->Prop)(h:∀s e,f s=some (.inr e)->Q e)(q:lp f s0=some e):Q e:=by
 rw[Da] at q;exact LA Q h _ _ _ q
def EB(e:Int):Prop:=0<=e/\e<=40
theorem JE{n:Int}{r:List Int × Int}(h:sw n=some r):EB r.2:=by
 unfold sw at h;split at h;·cases h;exact (by constructor <;> simp)
 .obtain⟨a,_,h⟩:=C6 h;cases h;exact (by constructor <;> simp)
theorem Nx{l:List Int}{n:Int}{r:Int × Int}(h:nZ l n=some r):EB r.2:=by
 unfold nZ at h;obtain⟨a,_,h⟩:=C6 h;split at h;·cases h;exact (by constructor <;> simp)
 .obtain⟨b,_,h⟩:=C6 h;cases h;exact (by constructor <;> simp)
theorem To{s:c5}{n:Int}{r:Int × Int}(h:u7 s n=some r):EB r.2:=by
 unfold u7 at h;split at h;·cases h;exact (by constructor <;> simp)
 .obtain⟨_,_,h⟩:=C6 h;split at h;·cases h;exact (by constructor <;> simp)
  .obtain⟨_,_,h⟩:=C6 h;obtain⟨_,_,h⟩:=C6 h;split at h <;> cases h <;> exact (by constructor <;> simp)
theorem Wd{s:a7}{n:Int}{r:o9 × Int}(h:y3 s n=some r):EB r.2:=by
 unfold y3 C4 at h;obtain⟨a,h1,h⟩:=C6 h;cases h;obtain⟨b,h2,h1⟩:=C6 h1;split at h1;·cases h1;exact To h2
 .obtain⟨c,_,h1⟩:=C6 h1;split at h1 <;> cases h1 <;> exact (by constructor <;> simp)
theorem GM{s:a7}{n m:Int}{r:Int × Int}(h:T8 s n m=some r):EB r.2:=by
 unfold T8 at h;obtain⟨a,h1,h⟩:=C6 h;split at h;·cases h;exact Wd h1
 .obtain⟨b,h2,h⟩:=C6 h;cases h;exact Nx h2
theorem Lg{x:b6}{a b c:Int}{r:b6 × Int}(h:aJ x a b c=some r):EB r.2:=by
 unfold aJ at h;obtain⟨u,h1,h⟩:=C6 h;split at h;·cases h;exact GM h1
 .obtain⟨v,h2,h⟩:=C6 h;split at h;·cases h;exact (by constructor <;> simp)
  .obtain⟨w,_,h⟩:=C6 h;cases h;exact (by constructor <;> simp)
theorem Ps{x:b6}{a b c:Int}{r:b6 × Int}(h:W2 x a b c=some r):EB r.2:=by
 unfold W2 at h;obtain⟨u,h1,h⟩:=C6 h;split at h;·cases h;exact (by constructor <;> simp)
 .obtain⟨v,h2,h⟩:=C6 h;split at h;·cases h;exact (by constructor <;> simp)
  .obtain⟨w,_,h⟩:=C6 h;obtain⟨w,_,h⟩:=C6 h;obtain⟨w,_,h⟩:=C6 h;cases h;exact (by constructor <;> simp)
theorem WM{t:List b8}{a b:Int}{r:List b8 × Int}(h:gJ t a b=some r):EB r.2:=by
 unfold gJ at h;obtain⟨u,h1,h⟩:=C6 h;split at h
 .obtain⟨w,_,h⟩:=C6 h;cases h;exact (by constructor <;> simp)
 .simp only[jn] at h;obtain⟨v,_,h⟩:=C6 h;obtain⟨e,he,h⟩:=C6 h;have hq:=Hc (λ(e:(List b8 × Int) ⊕ Unit)=>match e with
   | .inl w=>EB w.2
   | .inr _=>True) (λs e q=>by
    split at q
    .obtain⟨_,_,q⟩:=C6 q;obtain⟨_,_,q⟩:=C6 q;obtain⟨_,_,q⟩:=C6 q;split at q
     .obtain⟨_,_,q⟩:=C6 q;cases q;exact (by constructor <;> simp)
     .cases q
    .cases q;trivial) he
  cases e with
  | inl w=>cases h;exact hq
  | inr w=>cases h;exact (by constructor <;> simp)
theorem Tl{t:List b8}{a b:Int}{r:List b8 × Int × Int}(h:P7 t a b=some r):EB r.2.2:=by
 unfold P7 at h;split at h;·cases h;exact (by constructor <;> simp)
 .obtain⟨u,_,h⟩:=C6 h;split at h
  .obtain⟨v,_,h⟩:=C6 h;cases h;exact (by constructor <;> simp)
  .obtain⟨v,h2,h⟩:=C6 h;split at h;·cases h;exact WM h2
   .cases h;exact (by constructor <;> simp)
theorem Pr{x:b6}{a b:Int}{r:b6 × Int}(h:cu x a b=some r):EB r.2:=by
 unfold cu at h;split at h;·cases h;exact (by constructor <;> simp)
 .obtain⟨u,_,h⟩:=C6 h;obtain⟨v,_,h⟩:=C6 h;split at h;·cases h;exact (by constructor <;> simp)
  .obtain⟨w,hw,h⟩:=C6 h;split at h;·cases h;exact Tl hw
   .obtain⟨_,_,h⟩:=C6 h;cases h;exact (by constructor <;> simp)
theorem Vg{s:c5}{o:o9}{r:c5 × Int × Int}(h:E5 s o=some r):EB r.2.2:=by
 unfold E5 at h;simp only[jn] at h;obtain⟨v,_,h⟩:=C6 h;obtain⟨e,he,h⟩:=C6 h;have hq:=Hc (λ(e:(c5 × Int × Int) ⊕ Unit)=>match e with
  | .inl w=>EB w.2.2
  | .inr _=>True) (λs e q=>by
   split at q
   .obtain⟨_,_,q⟩:=C6 q;split at q
    .obtain⟨_,_,q⟩:=C6 q;obtain⟨_,_,q⟩:=C6 q;obtain⟨_,_,q⟩:=C6 q;cases q;exact (by constructor <;> simp)
    .cases q
   .cases q;trivial) he
 cases e with
 | inl w=>cases h;exact hq
 | inr w=>cases h;exact (by constructor <;> simp)
theorem TU{s:a7}{a b:Int}{r:a7 × Int × Int}(h:O0 s a b=some r):EB r.2.2:=by
 unfold O0 at h;obtain⟨u,h1,h⟩:=C6 h;split at h;·cases h;exact JE h1
 .obtain⟨v,_,h⟩:=C6 h;split at h;·cases h;exact (by constructor <;> simp)
  .obtain⟨w,hw,h⟩:=C6 h;split at h;·cases h;exact Vg hw
   .cases h;exact (by constructor <;> simp)
theorem sX{n l m e:Int}(h:EB e):EB (L6 n l m e):=by
 unfold L6;split;·exact h
 .exact (by constructor <;> simp)
theorem GP{a b c:Int}(h1:EB a)(h2:EB b)(h3:EB c):EB (aA a b c):=by
 unfold aA;split;·exact h1
 split;·exact h2
 exact h3
theorem GH(k a b c:Int):EB (A8 k a b c):=by
 have d:∀ {n:Int},0<=n->n<=40->EB n:=λh1 h2=>⟨h1,h2⟩;unfold A8;repeat' split
 all_goals first
  | exact GP (sX (d (by decide) (by decide))) (sX (d (by decide) (by decide))) (sX (d (by decide) (by decide)))
  | exact GP (sX (d (by decide) (by decide))) (sX (d (by decide) (by decide))) (d (by decide) (by decide))
  | exact sX (d (by decide) (by decide))
  | exact d (by decide) (by decide)
section
variable{x:Hp}(hx:O2 x)(hS:SL x)(hz:zr x = [])(hb:x.S.Serial<9223372036854775807)
include hx
theorem Nb{h:Int}(hh:h=0\/h∈lv x.S):0<=T5 x h/\T5 x h<=x.S.Serial:=by
 have hR:=hx.sh.sr;rcases hh with rfl | hh
 .rw[DJ hx.sh];exact⟨q9 _,hR.T5⟩
 .have o:=(J3 hR hh);unfold T5;exact⟨by have:=o.s1;omega,o.s2⟩
include hS hz hb
theorem VQ(o:c8):(∃e,Er x o e/\EB e)\/∃z v,Dn x o z v/\0<=v/\v<=x.S.Serial+1:=by
 obtain⟨k,a,b,c⟩:=o;have sl:=pR hx.sh;have hR:=hx.sh.sr;have s0:=hR.T5;have sb:∀ {h:Int},(h=0\/h∈lv x.S)->0<=T5 x h/\T5 x h<=x.S.Serial+1:=λhh=>by have:=Nb hx hh;omega
 have e2:EB 2:=(by constructor <;> simp);have e9:EB 9:=(by constructor <;> simp);have e14:EB 14:=(by constructor <;> simp);by_cases hc:A8 k a b c=0
 .have:=Bg hc;have hk:k=1\/k=2\/k=3\/k=4\/k=5\/k=6\/k=7\/k=8\/k=9\/k=10\/k=11\/k=12:=by omega
  rcases hk with rfl | rfl | rfl | rfl | rfl | rfl | rfl | rfl | rfl | rfl | rfl | rfl
  .rcases d1 hx hS hb hc with ⟨e,q,h⟩ | ⟨hn,hcc,i,hF,h⟩;·exact .inl ⟨e,h,TU q⟩
   .exact .inr ⟨_,_,h,by omega,by omega⟩
  .exact .inr ⟨_,_,d2 hx hS hc,sb (sl b)⟩
  .exact .inr ⟨_,_,d3 hx hS hc,by omega,by omega⟩
  .rcases d4 hx hS hc with ⟨_,h⟩ | ⟨e,q,h⟩ | ⟨hl,n,_,hn,h⟩;·exact .inl ⟨_,h,e2⟩
   .exact .inl ⟨_,h,GM q⟩
   .exact .inr ⟨_,_,h,sb (hx.sh.fl _ hl _ (zj hn))⟩
  .rcases d5 hx hS hc with ⟨_,h⟩ | ⟨e,q,h⟩ | ⟨hl,n,_,hn,h⟩;·exact .inl ⟨_,h,e2⟩
   .exact .inl ⟨_,h,Lg q⟩
   .exact .inr ⟨_,_,h,sb (sl c)⟩
  .rcases d6 hx hS hc with ⟨_,h⟩ | ⟨e,q,h⟩ | ⟨hw,h⟩;·exact .inl ⟨_,h,e2⟩
   .exact .inl ⟨_,h,Ps q⟩
   .exact .inr ⟨_,_,h,sb (sl b)⟩
  .obtain⟨hl,⟨_,h⟩ | ⟨hI,h⟩⟩:=d7 hx hS hc;·exact .inl ⟨_,h,e9⟩
   .exact .inr ⟨_,_,h,sb (.inr ((hx.sh.cl _ hl).2.2.2.2 hI).1)⟩
  .rcases d8 hx hS hc with ⟨_,h⟩ | ⟨_,e,q,h⟩ | ⟨hl,r,h1,h2,h⟩;·exact .inl ⟨_,h,e2⟩
   .exact .inl ⟨_,h,Pr q⟩
   .exact .inr ⟨_,_,h,sb (sl b)⟩
  .rcases d9 hx hS hc with ⟨_,h⟩ | ⟨_,_,h⟩ | ⟨_,v,hv,h⟩;·exact .inl ⟨_,h,e2⟩
   .exact .inl ⟨_,h,e9⟩
   .exact .inr ⟨_,_,h,sb (.inr (hx.sh.pr _ _ hv).2)⟩
  .refine .inr ⟨_,_,d10 hx hS hz hc,?_⟩;split <;> omega
  .obtain⟨h1,h2⟩:=sL (x:=x) (a:=a) (b:=b) (c:=c) (.inl rfl) hc;exact .inl ⟨14,⟨by decide,h1,h2⟩,e14⟩
  .obtain⟨h1,h2⟩:=sL (x:=x) (a:=a) (b:=b) (c:=c) (.inr rfl) hc;exact .inl ⟨14,⟨by decide,h1,h2⟩,e14⟩
 .obtain⟨h1,h2⟩:=EJ (x:=x) (o:=⟨k,a,b,c⟩) hc;exact .inl ⟨_,⟨hc,h1,h2⟩,GH _ _ _ _⟩
theorem Te(o:c8):(0<=(tV x o).2.1/\(tV x o).2.1<=x.S.Serial+1)/\EB (tV x o).2.2:=by
 have s0:=hx.sh.sr.T5;rcases VQ hx hS hz hb o with ⟨e,h,he⟩ | ⟨z,v,d,h0,h1⟩
 .unfold tV;rw[h.2.1,zR];exact⟨⟨q9 _,by show (0:Int)<=_;omega⟩,he⟩
 .unfold tV;rw[d.mc,zR];exact⟨⟨h0,h1⟩,(by constructor <;> simp)⟩
end
theorem VW{ps:List (List c8)}(hm:Mp ps){x:Hp}(hx:Oh x)(hb:x.S.Serial<7000000000000000000)(row:List Int):(-1000<=(er ps x row).2.1/\(er ps x row).2.1<=x.S.Serial+1000)/\EB (er ps x row).2.2:=by
 have s0:=hx.rt.sh.sr.T5;unfold er;split
 .refine⟨⟨by show (-1000:Int)<=0;omega,by show (0:Int)<=_;omega⟩,?_⟩;show EB (ck row).2;unfold ck;rcases four row with ⟨k,a,b,c,rfl⟩ | hl
  .rw[AH,zR];split;·exact GH _ _ _ _
   .exact (by constructor <;> simp)
  .rw[(uX hl).1,zR];exact (by constructor <;> simp)
 .rename_i h;have hc:=AF (Classical.not_not.1 h);generalize (ck row).1=o at hc;unfold eo;split
  .have:=Ko hm hx hb;exact⟨⟨by show (-1000:Int)<=OW x-((mV x).length:Int);omega,by show OW x-((mV x).length:Int)<=_;omega⟩,(by constructor <;> simp)⟩
  split
  .rename_i hk;rw[hk] at hc;have h12:=Kp hc;obtain⟨a1,_,_⟩:=GK ps (p:=(x,o.A)) h12.1;refine⟨⟨by show (-1000:Int)<=(dn ps (x,o.A):Int);omega,by show (dn ps (x,o.A):Int)<=_;simp only at a1;omega⟩,?_⟩;show EB (VU _);unfold VU;split <;> exact (by constructor <;> simp)
  .have:=Te hx.rt hx.sl hx.zr (by omega) o;exact⟨⟨by omega,by omega⟩,this.2⟩
def nm(ws:List ByteArray):List Int × Bool:=if ws.all (λw=>(xW (Y9 w)).2)=true then (ws.map (λw=>(xW (Y9 w)).1),true) else ([],false)
theorem PJ(F:ByteArray->Option (Int × Bool))(ws:List ByteArray)(hF:∀w∈ws,F w=some (xW (Y9 w)))(hl:ws.length<=100000) :
  (lp (S:=Int × (List Int)) (E:=((List Int) × Bool) ⊕ (List Int)) (λ((s12,s13):Int × (List Int))=>
   if (decide (s12<(ws.length:Int))) then
    (ix ws s12).bind λv16=>
    (F v16).bind λv17=>
    if (!v17.2) then
     some (.inr (.inl ([],false)))
    else
    (app 8 s13 [v17.1]).bind λv18=>
    some (.inl (z8 (s12+1),v18))
   else
   some (.inr (.inr s13))) (0,[])).bind (λe11=>
  match e11 with
  | .inl w=>some w
  | .inr w=>some (w,true))=some (nm ws):=by
 refine Y1 ws.length (λk l=>l=(ws.take k).map (λw=>(xW (Y9 w)).1)/\(ws.take k).all (λw=>(xW (Y9 w)).2)=true) (by omega) ⟨rfl,rfl⟩ (λk l hk hl2=>?_) λl hl2=>⟨_,za (by simp),?_⟩
 .obtain⟨rfl,h2⟩:=hl2;dsimp only;rw[zb (by simpa using hk),u6 hk,Yx,hF _ (zj hk),Yx];cases hb:(xW (Y9 ws[k])).2
  .refine .inr ⟨_,zb rfl,?_⟩;unfold nm;rw[za λq=>by
    have:=zd.1 q _ (zj hk);rw[hb] at this;cases this]
  .refine .inl ⟨_,?_,rfl,?_⟩
   .rw[za (by decide),C3 (by decide) (by simp;omega),Yx,p8,zu hk,zad];rfl
   .rw[zu hk,List.all_append,h2,zak];simp[hb]
 .obtain⟨rfl,h2⟩:=hl2;rw[zT] at h2 |-;unfold nm;rw[zb h2]
def Xu(ws:List ByteArray):Prop:=ws.length<=100000/\∀w∈ws,w.size<1000000000
theorem PN{ws:List ByteArray}(h:Xu ws):az ws=some (nm ws):=by
 unfold az;simp only[jn];exact PJ aG ws (λw hw=>XH w (h.2 w hw)) h.1
theorem Ua(ws:List ByteArray):(nm ws).1.length<=ws.length:=by
 unfold nm;split;·simp
 .simp
def iV:List (ByteArray × Nat):=[(r9 [112,114,111,103],13),(r9 [104,101,97,112],14),(r9 [110,101,119],1),(r9 [99,111,112,121],2),(r9 [100,114,111,112],3),(r9 [108,111,97,100],4),(r9 [115,116,111,114,101],5),(r9 [119,101,97,107],6),(r9 [117,112],7),(r9 [112,97,105,114],8),(r9 [103,101,116],9),(r9 [115,97,109,101],10),(r9 [99,111,108,108,101,99,116],11),(r9 [100,114,97,105,110],12),(r9 [108,105,118,101,115],15),(r9 [114,111,111,116,115],16),(r9 [116,97,108,108,121],17)]
def sD(w:ByteArray):Nat:=(y9 iV w).getD 0
def Ax(i:Nat):Int:=[0,3,2,1,3,3,3,2,2,2,2,0,1,0,3,0,0,0].getD i 0
def pF(i:Nat):c9:=
 if i=13 then ⟨some (75,none),some (76,none),true⟩
 else if i=14 then ⟨some (137,some 3),some (78,none),true⟩
 else if i=15 then ⟨some (137,some 0),some (80,none),false⟩
 else if i=16 then ⟨some (137,some 0),some (81,none),false⟩
 else if i=17 then ⟨some (137,some 0),some (82,none),false⟩
 else ⟨some (137,some (Ax i)),some (138,some (i:Int)),false⟩
theorem Hf{K V W:Type}[BEq K](f:V->W)(k:K):∀l:List (K × V),y9 (l.map λp=>(p.1,f p.2)) k=(y9 l k).map f
 | []=>rfl
 | p::l=>by
  simp only[ww,y9];split;·rfl
  .exact Hf f k l
theorem tf{K V:Type}[BEq K]{k:K}{v:V}:∀ {l:List (K × V)},y9 l k=some v->∃p∈l,p.2=v/\(k==p.1)=true
 | [],h=>by cases h
 | p::l,h=>by
  simp only[y9] at h;split at h
  .rename_i q;cases h;exact⟨p,zi ..,rfl,q⟩
  .obtain⟨p',h1,h2⟩:=tf h;exact⟨p',zt _ h1,h2⟩
theorem OZ:dU=some (iV.map λp=>(p.1,pF p.2)):=by kernel_rfl
theorem NG{w:ByteArray}(h:sD w≠0):y9 iV w=some (sD w)/\1<=sD w/\sD w<=17:=by
 unfold sD at h |-;cases hm:y9 iV w with
 | none=>rw[hm] at h;exact absurd rfl h
 | some i=>
  rw[hm] at h;refine⟨rfl,by have:i≠0:=h;show 1<=i;omega,?_⟩;obtain⟨p,hp,rfl,_⟩:=tf hm;have:∀p∈iV,p.2<=17:=by decide
  exact this p hp
theorem NF{w:ByteArray}(h:sD w=0):y9 iV w=none:=by
 unfold sD at h;cases hm:y9 iV w with
 | none=>rfl
 | some i=>
  rw[hm] at h;have h0:i=0:=h;obtain⟨p,hp,e,_⟩:=tf hm;have:∀p∈iV,p.2≠0:=by decide
  exact absurd (e.trans h0) (this p hp)
def Sb(i n:Nat):Bool:=if i=13 then n % 4==1 else (n:Int)==Ax i
theorem Np{i n:Nat}(h1:1<=i)(h2:i<=17)(hn:n<=100000):oC (pF i).takes (n:Int)=some (Sb i n):=by
 have hi:i=1\/i=2\/i=3\/i=4\/i=5\/i=6\/i=7\/i=8\/i=9\/i=10\/i=11\/i=12\/i=13\/i=14\/i=15\/i=16\/i=17:=by omega
 have h13:oC (pF 13).takes (n:Int)=some (Sb 13 n):=by
  show (rem (n:Int) 4).bind (λv1=>some (v1==1))=some (n % 4==1);rw[oQ (by omega) (by decide),Yx];congr 1;rw[zbm,wf,wf];omega
 rcases hi with rfl | rfl | rfl | rfl | rfl | rfl | rfl | rfl | rfl | rfl | rfl | rfl | rfl | rfl | rfl | rfl | rfl
 all_goals first
  | exact h13
  | rfl
def pC(n:Int):List UInt8:=Y9 ((nQ n).getD ByteArray.empty)
theorem AG{n:Int}(h0 : -9223372036854775808<=n)(h1:n<=9223372036854775807):nQ n=some (r9 (pC n))/\(pC n).length<=21:=by
 obtain⟨l,e,h⟩:=Ng h0 h1;unfold pC;rw[e,zR,ax];exact⟨rfl,h⟩
def nf(e:Int):ByteArray:=r9 ([101,114,114,111,114,32]++pC e)
theorem qh{e:Int}(h:EB e):B7 e=some (nf e):=by
 obtain⟨h1,h2⟩:=AG (n:=e) (by have:=h.1;omega) (by have:=h.2;omega);unfold B7;rw[h1,Yx,oV (by rw[Y8,Y8];simp only[zl,zW];omega),Yx,ax,ax];rfl
def HQ(p:Int × Int):ByteArray:=if p.2≠0 then nf p.2 else r9 (pC p.1)
theorem MX{p:Int × Int}(hv : -9223372036854775808<=p.1/\p.1<=9223372036854775807)(he:EB p.2):fM (Xv p)=some (HQ p):=by
 unfold HQ;show (if (p.2 != 0)=true then (B7 p.2).bind (λv1=>some v1) else (nQ p.1).bind λv2=>some v2)=_;by_cases q:p.2=0
 .rw[za (by simp[q]),za (by simp[q]),(AG hv.1 hv.2).1];rfl
 .rw[zb (by simpa using q),zb q,qh he];rfl
def nu(w:List UInt8)(l:List Int):List UInt8:=l.foldl (λw n=>w++32::pC n) w
theorem Ff(w:List UInt8)(l:List Int)(n:Int):nu w (l ++ [n])=nu w l++32::pC n:=by
 unfold nu;rw[za0];rfl
def VE(n:Int):Prop:=-9223372036854775808<=n/\n<=9223372036854775807
theorem IX(w:List UInt8)(l:List Int)(h:∀n∈l,VE n):(nu w l).length<=w.length+22*l.length:=by
 induction l generalizing w with
 | nil=>exact zq _
 | cons n l ih=>
  have h1:=ih (w++32::pC n) λm hm=>h m (zt _ hm);have h2:=(AG (h n (zi ..)).1 (h n (zi ..)).2).2;simp only[zC,zl] at h1 |-;show (nu (w++32::pC n) l).length<=_;omega
theorem sZ{w:List UInt8}{l:List Int}(hw:w.length<=100)(hl:l.length<=100)(h:∀n∈l,VE n):W0 (r9 w) l=some (r9 (nu w l)):=by
 unfold W0;simp only[jn];refine Bj (λ(x:ByteArray × Int)=>∃k:Nat,x.2=(k:Int)/\k<=l.length/\x.1=r9 (nu w (l.take k))) (λx=>l.length-x.2.toNat) ⟨0,rfl,t8 _,rfl⟩ (by simp only;omega) ?_;rintro⟨s,kk⟩ ⟨k,h1,h2,h3⟩;simp only at h1 h3;subst h1;subst h3;by_cases hk:k<l.length
 .have hb:=h _ (zj hk);obtain⟨d1,d2⟩:=AG hb.1 hb.2;have hlen:=IX w (l.take k) λn hn=>h n (zah hn);have htk:(l.take k).length<=100:=by rw[m7];omega
  refine .inl ⟨(r9 (nu w (l.take k)++32::pC l[k]),((k+1:Nat):Int)),?_,⟨k+1,rfl,hk,?_⟩,?_⟩
  .rw[zb (by simpa using hk),u6 hk,Yx,d1,Yx,oV (by rw[Y8,Y8];simp only[zl,zW];omega),Yx,oV (by rw[Y8,Y8,zC,ax,ax];simp only[zl,zW];omega),Yx,p8];simp only[ax];rfl
  .show r9 _=_;rw[zu hk,Ff]
  .simp only[zX];omega
 .rw[za (by simpa using hk)];refine .inr ⟨_,rfl,?_⟩;rw[zao (by omega)]
structure Cn (c:c4) (n:Nat):Prop where
 pg:Y3 c.progs=true
 mp:Mp c.g.Progs
 rs:c.begun=true->Rs c.g.X n
theorem Cn.mono{c:c4}{n m:Nat}(h:Cn c n)(hm:n<=m):Cn c m:=
 ⟨h.pg,h.mp,λq=>⟨(h.rs q).rt,(h.rs q).sl,(h.rs q).zr,by have:=(h.rs q).T5;omega⟩⟩
theorem Mu{l:List (List c8)}(h:Y3 l=true):l.length<=6/\∀p∈l,p.length<=6:=by
 refine⟨?_,(RM h).1⟩;unfold Y3 at h;rw[zk] at h;exact zba h.1
def okB:ByteArray:=r9 [111,107]
def Yf:ByteArray:=r9 [110,111,32,104,101,97,112]
def ui(k:Int)(l:List Int):List Int:=k::(l++List.replicate (3-l.length) 0)
noncomputable def OV(c:c4)(k:Int)(l:List Int):c4 × ByteArray:=
 (⟨⟨(er c.g.Progs c.g.X (ui k l)).1,c.g.Progs⟩,c.begun,c.progs⟩,HQ (er c.g.Progs c.g.X (ui k l)).2)
theorem Yh{x:Hp}{n:Nat}(h:Rs x n)(hn:n<=1000000):x.S.Serial<7000000000000000000:=by have:=h.T5;omega
theorem SJ{x:Hp}{n:Nat}(h:Rs x n)(hn:n<=1000000){p:Int × Int}(hp:(-1000<=p.1/\p.1<=x.S.Serial+1000)/\EB p.2):fM (Xv p)=some (HQ p):=
 MX (by have:=h.T5;omega) hp.2
theorem UQ{c:c4}{n:Nat}(hc:Cn c n)(hb:c.begun=true)(hn:n<=1000000)(k:Int){l:List Int}(hl:l.length<=3) :
  O3 c l k=some (OV c k l)/\Cn (OV c k l).1 (n+201):=by
 have hr:=hc.rs hb;have h7:=Yh hr hn;obtain⟨⟨x,ps⟩,b,pg⟩:=c;have hm:Mp ps:=hc.mp;have hr:Rs x n:=hr;refine⟨?_,hc.pg,hm,λ_=>?_⟩
 .unfold O3 V0;have e1:mk 8 4 (0:Int)=some [0,0,0,0]:=rfl;have e2:CE ([0,0,0,0].set (0:Int).toNat k) 1 l=some (ui k l):=by
   unfold CE ui;rw[zb ⟨by decide,by simp;omega⟩];match l,hl with
   | [],_=>rfl
   | [a],_=>rfl
   | [a,b],_=>rfl
   | [a,b,c],_=>rfl
  have e3:ix [(0:Int),0,0,0] 0=some 0:=rfl;rw[e1,Yx,e3,Yx,e2,Yx,Yr hm hr.oh h7 (ui k l),Yx];dsimp only;rw[SJ hr hn (VW hm hr.oh h7 (ui k l))];rfl
 .obtain⟨o1,o2⟩:=VX hm hr.oh h7 (ui k l);exact⟨o1.rt,o1.sl,o1.zr,by have:=hr.T5;show (er ps x (ui k l)).1.S.Serial<=_;omega⟩
noncomputable def Wl(x:Hp):ByteArray:=r9 (nu [108,105,118,101,115] (Nk x))
noncomputable def MT(x:Hp):List Int:=(List.range 6).map λ(r:Nat)=>T5 x (sd x (r:Int))
noncomputable def WU(x:Hp):ByteArray:=r9 (nu [114,111,111,116,115] (MT x))
noncomputable def Xa(x:Hp):ByteArray:=r9 (nu [116,97,108,108,121] [(NT x).a,(NT x).b,(NT x).c,(NT x).d])
section
variable{x:Hp}{ps:List (List c8)}(hx:O2 x){n:Nat}(hn:x.S.Serial<=n)(h1:n<=1000000)
include hx hn h1
theorem UZ:∀m∈Nk x,VE m:=λm hm=>by
 unfold Nk at hm;obtain⟨h,hh,rfl⟩:=zI.1 hm;have:=Nb hx (.inr hh);exact⟨by omega,by omega⟩
theorem UR:∀m∈MT x,VE m:=λm hm=>by
 unfold MT at hm;obtain⟨r,_,rfl⟩:=zI.1 hm;have:=Nb hx (pR hx.sh (r:Int));exact⟨by omega,by omega⟩
theorem Vh:∀m ∈ [(NT x).a,(NT x).b,(NT x).c,(NT x).d],VE m:=λm hm=>by
 have hl:=hx.sh.sr.len;have key:∀k,0<=((yu x.S.S.a8 k:Nat):Int)/\((yu x.S.S.a8 k:Nat):Int)<=24:=λk=>by
  have:yu x.S.S.a8 k<=x.S.S.a8.length:=zbf;omega
 simp only[NT,zJ,zb0,or_false] at hm;rcases hm with rfl | rfl | rfl | rfl <;> exact⟨by have:=key 0;have:=key 1;have:=key 2;have:=key 3;omega,by have:=key 0;have:=key 1;have:=key 2;have:=key 3;omega⟩
theorem Ly(b:Bool)(pg:List (List c8))(l:List Int):J8 ⟨⟨x,ps⟩,b,pg⟩ l=some (⟨⟨x,ps⟩,b,pg⟩,Wl x):=by
 unfold J8;rw[Ti hx,Yx,sZ (by decide) (by have:=HX (x:=x) hx.sh.sr;omega) (UZ hx hn h1)];rfl
theorem Nq(b:Bool)(pg:List (List c8))(l:List Int):Q9 ⟨⟨x,ps⟩,b,pg⟩ l=some (⟨⟨x,ps⟩,b,pg⟩,Xa x):=by
 unfold Q9;rw[XT hx,Yx,sZ (by decide) (by simp) (Vh hx hn h1)];rfl
theorem MQ(b:Bool)(pg:List (List c8))(l:List Int):J9 ⟨⟨x,ps⟩,b,pg⟩ l=some (⟨⟨x,ps⟩,b,pg⟩,WU x):=by
 unfold J9;have e1:mk 8 6 (0:Int)=some [0,0,0,0,0,0]:=rfl;rw[e1,Yx];simp only[jn];refine Y1 6 (λk t=>t.length=6/\t.take k=(MT x).take k) (by decide) ⟨rfl,rfl⟩ (λk t hk ht=>.inl ⟨t.set k (T5 x (sd x (k:Int))),?_,by rw[zae];exact ht.1,?_⟩) λt ht=>⟨t,za (by simp),?_⟩
 .dsimp only;rw[zb (by simp;omega),Cz hx.sh (k:Int),Yx,u6 (by rw[ht.1];exact hk),Yx,p8];rfl
 .have hk2:k<(MT x).length:=by unfold MT;rw[wt,List.length_range];exact hk
  have hk3:k<t.length:=by rw[ht.1];exact hk
  have e0:(MT x)[k]? = some (T5 x (sd x (k:Int))):=by
   unfold MT;rw[zL,List.getElem?_range hk];rfl
  have e:(MT x)[k]=T5 x (sd x (k:Int)):=(zx.1 e0).2;rw[zu (by rw[zae];exact hk3),zca,List.take_set_of_le (zq _),ht.2,zu hk2,e]
 .have ht2:=ht.2;have hr:(MT x).length=6:=by unfold MT;rw[wt,List.length_range]
  rw[zao (by omega),zao (by omega)] at ht2;subst ht2;rw[sZ (by decide) (by omega) (UR hx hn h1)];rfl
end
def gQ:List Int->List c8
 | a::b::c::d::r=>⟨a,b,c,d⟩::gQ r
 | _=>[]
theorem Hn:∀l:List Int,(gQ l).length*4<=l.length
 | []=>zq _
 | [_]=>by simp[gQ]
 | [_,_]=>by simp[gQ]
 | [_,_,_]=>by simp[gQ]
 | a::b::c::d::r=>by
  have:=Hn r;simp only[gQ,zl];omega
def fe(p:List (List c8))(l:List Int):List (List c8):=(p++List.replicate ((l.headD 0).toNat+1-p.length) []).set (l.headD 0).toNat (gQ (l.drop 1))
def Ix(c:c4)(l:List Int):c4 × ByteArray:=
 if l.headD 0<0\/l.headD 0 > 5 then (c,nf 13)
 else if Y3 (fe c.progs l)=true then (⟨c.g,c.begun,fe c.progs l⟩,okB) else (c,nf 13)
theorem Xl:EB 13:=by constructor <;> simp
theorem Qm{p:List (List c8)}{l:List Int}(h0:0<=l.headD 0)(h5:l.headD 0<=5)(hp:p.length<=6)(hq:∀q∈p,q.length<=6)(hl:l.length<=4000):(fe p l).length<=12/\∀q∈fe p l,q.length<=1000:=by
 unfold fe;refine⟨by rw[zae,zC,za1];omega,λq hm=>?_⟩;rcases zaa hm with h | rfl
 .rcases zw.1 h with h | h
  .have:=hq q h;omega
  .rw[(za3.1 h).2];simp
 .have:=Hn (l.drop 1);rw[zcf] at this;omega
theorem Uy{c:c4}{n:Nat}(hc:Cn c n){l:List Int}(hl:l.length % 4=1)(hm:l.length<=4000) :
  N4 c l=some (Ix c l)/\Cn (Ix c l).1 n:=by
 obtain⟨p6,q6⟩:=Mu hc.pg;obtain⟨a,r,rfl⟩:∃a r,l=a::r:=by
  cases l with
  | nil=>simp at hl
  | cons a r=>exact⟨a,r,rfl⟩
 have e0:ix (a::r) 0=some a:=rfl;have hP:Ix c (a::r)=if a<0\/a > 5 then (c,nf 13) else if Y3 (fe c.progs (a::r))=true then (⟨c.g,c.begun,fe c.progs (a::r)⟩,okB) else (c,nf 13):=rfl
 unfold N4;rw[e0,Yx,hP];by_cases h:a<0\/a > 5
 .rw[zb (by simp only[me,t6];omega),qh Xl,zb h];exact⟨rfl,hc⟩
 .rw[za (by simp only[me,t6];omega),za h];obtain⟨k,rfl⟩:∃k:Nat,a=k:=⟨a.toNat,by omega⟩;have hw:z8 ((k:Int)+1)=((k+1:Nat):Int):=p8 (by omega);have hmx:(if (c.progs.length:Int) > z8 ((k:Int)+1) then (c.progs.length:Int) else z8 ((k:Int)+1))=((max (k+1) c.progs.length:Nat):Int):=by
   rw[hw];split <;> omega
  have h12:max (k+1) c.progs.length<=12:=by omega
  rw[hmx,jO (by omega) (by omega),Yx];have hcp:uB (List.replicate (max (k+1) c.progs.length) ([]:List c8)) c.progs=some (c.progs++List.replicate (k+1-c.progs.length) []):=by
   unfold uB;rw[zb (by rw[za1];omega),List.drop_replicate,show max (k+1) c.progs.length-c.progs.length=k+1-c.progs.length by omega]
  have hkl:k<(c.progs++List.replicate (k+1-c.progs.length) ([]:List c8)).length:=by simp;omega
  rw[hcp,Yx,u6 hkl,Yx];simp only[jn];have hct:cut ((k:Int)::r) 1 ((((k:Int)::r).length:Nat):Int)=some r:=by
   have:=gz (xs:=(k:Int)::r) (i:=1) (j:=((k:Int)::r).length) (by simp) (zq _);rw[zT] at this;exact this
  rw[hct,Yx];have hr4:r.length % 4=0:=by simp only[zl] at hl;omega
  have hrl:r.length<=4000:=by simp only[zl] at hm;omega
  have R8:=Qm (p:=c.progs) (l:=(k:Int)::r) (by simp only[List.headD_cons];omega) (by simp only[List.headD_cons];omega) p6 q6 hm;have hpg:(c.progs++List.replicate (k+1-c.progs.length) ([]:List c8)).set (k:Int).toNat (gQ r)=fe c.progs ((k:Int)::r):=by
   unfold fe;simp only[List.headD_cons,zX,List.drop_one,List.tail_cons]
  have key:∀K:List c8->Option (c4 × ByteArray),(lp (S:=(List Int) × (List c8)) (E:=(List c8)) (λ((s24,s25):(List Int) × (List c8))=>
   if (decide ((s24.length:Int) > 0)) then
    (ix s24 0).bind λv28=>
    (ix s24 1).bind λv29=>
    (ix s24 2).bind λv30=>
    (ix s24 3).bind λv31=>
    (app 32 s25 [(⟨v28,v29,v30,v31⟩:c8)]).bind λv32=>
    (cut s24 4 (s24.length:Int)).bind λv33=>
    some (.inl (v33,v32))
   else
   some (.inr s25)) (r,[])).bind K=K (gQ r):=by
   intro K;have:(lp (S:=(List Int) × (List c8)) (E:=(List c8)) (λ((s24,s25):(List Int) × (List c8))=>
   if (decide ((s24.length:Int) > 0)) then
    (ix s24 0).bind λv28=>
    (ix s24 1).bind λv29=>
    (ix s24 2).bind λv30=>
    (ix s24 3).bind λv31=>
    (app 32 s25 [(⟨v28,v29,v30,v31⟩:c8)]).bind λv32=>
    (cut s24 4 (s24.length:Int)).bind λv33=>
    some (.inl (v33,v32))
   else
   some (.inr s25)) (r,[]))=some (gQ r):=by
    refine fZ (nt (λ(x:List Int × List c8)=>x.1.length % 4=0/\x.2.length+x.1.length<=4000/\x.2++gQ x.1=gQ r) (λe=>e=gQ r) (λx=>x.1.length) ⟨hr4,by simp only[zW];omega,rfl⟩ (by simp only;omega) ?_);rintro⟨u,v⟩ ⟨h1,h2,h3⟩;simp only at h1 h2 h3;match u,h1,h2,h3 with
    | [],_,_,h3=>exact .inr ⟨_,rfl,by rw[<-h3];simp[gQ]⟩
    | [_],h1,_,_=>simp at h1
    | [_,_],h1,_,_=>simp at h1
    | [_,_,_],h1,_,_=>simp at h1
    | a::b::c'::d::t,h1,h2,h3=>
     simp only[zl] at h1 h2;have ct:cut (a::b::c'::d::t) 4 (((a::b::c'::d::t).length:Nat):Int)=some t:=by
      have:=gz (xs:=a::b::c'::d::t) (i:=4) (j:=(a::b::c'::d::t).length) (by simp only[zl];omega) (zq _);rw[zT] at this;exact this
     refine .inl ⟨(t,v ++ [⟨a,b,c',d⟩]),?_,⟨by simp only;omega,by simp only[zC,qr];omega,?_⟩,by simp only[zl];omega⟩
     .refine (zb (by simp only[zl,t6];omega)).trans ?_;show (app 32 v [(⟨a,b,c',d⟩:c8)]).bind _=_;rw[C3 (by decide) (by simp only[qr];omega),Yx,ct];rfl
     .rw[<-h3];simp[gQ]
   rw[this];rfl
  rw[key,hpg,Dv R8.1 R8.2,Yx];cases hq:Y3 (fe c.progs ((k:Int)::r))
  .rw[zb (by rfl),qh Xl,za (by decide)];exact⟨rfl,hc⟩
  .rw[za (by decide),zb rfl];exact⟨rfl,hq,hc.mp,hc.rs⟩
noncomputable def CB(c:c4)(l:List Int):c4 × ByteArray:=
 let r:=(F9 (l.getD 0 0) (l.getD 1 0) (l.getD 2 0) c.progs).getD (c.g,0)
 if r.2≠0 then (c,nf r.2) else (⟨r.1,true,c.progs⟩,okB)
theorem TE{c:c4}{n:Nat}(hc:Cn c n){l:List Int}(hl:l.length=3) :
  M3 c l=some (CB c l)/\Cn (CB c l).1 n:=by
 obtain⟨a,b,d,rfl⟩:∃a b d,l = [a,b,d]:=by
  match l,hl with
  | [a,b,d],_=>exact⟨a,b,d,rfl⟩
 obtain⟨p6,q6⟩:=Mu hc.pg;have e0:ix [a,b,d] 0=some a:=rfl;have e1:ix [a,b,d] 1=some b:=rfl;have e2:ix [a,b,d] 2=some d:=rfl;have hH:CB c [a,b,d]=if ((F9 a b d c.progs).getD (c.g,0)).2≠0 then (c,nf ((F9 a b d c.progs).getD (c.g,0)).2) else (⟨((F9 a b d c.progs).getD (c.g,0)).1,true,c.progs⟩,okB):=rfl
 unfold M3;rw[e0,Yx,e1,Yx,e2,Yx];rcases WA (n:=a) (last:=b) (places:=d) (ps:=c.progs) (by omega) (λp hp=>by have:=q6 p hp;omega) with ⟨e,h1,_,h3⟩ | ⟨k,p,_,_,_,hm,hr,h1,_⟩
 .have he:e≠0:=by rcases h3 with rfl | ⟨rfl,_⟩ <;> decide
  have hb:EB e:=by rcases h3 with rfl | ⟨rfl,_⟩ <;> constructor <;> simp
  have hH2:CB c [a,b,d]=(c,nf e):=by
   rw[hH,h1,zR];exact zb he
  rw[hH2,h1,Yx];refine⟨(zb (by simpa using he)).trans ?_,hc⟩;show (B7 e).bind _=_;rw[qh hb];rfl
 .have hH2:CB c [a,b,d]=(⟨⟨Bm k b p,c.progs⟩,true,c.progs⟩,okB):=by
   rw[hH,h1,zR];exact za (λq=>q rfl)
  rw[hH2,h1,Yx];exact⟨rfl,hc.pg,hm,λ_=>⟨hr.rt,hr.sl,hr.zr,by have:=hr.T5;show (Bm k b p).S.Serial<=_;omega⟩⟩
noncomputable def yn(c:c4)(i:Nat)(l:List Int):c4 × ByteArray:=
 if i=13 then Ix c l else if i=14 then CB c l else if i=15 then (c,Wl c.g.X) else if i=16 then (c,WU c.g.X) else if i=17 then (c,Xa c.g.X) else OV c i l
noncomputable def iZ(c:c4)(w:ByteArray)(ws:List ByteArray):c4 × ByteArray:=
 if sD w=0\/(nm ws).2=false\/Sb (sD w) (nm ws).1.length=false then (c,nf 33)
 else if c.begun=false/\sD w≠13/\sD w≠14 then (c,Yf)
 else yn c (sD w) (nm ws).1
theorem XS:EB 33:=by constructor <;> simp
theorem KC{i:Nat}(h1:1<=i)(h2:i<=17):(pF i).early=decide (i=13\/i=14):=by
 have hi:i=1\/i=2\/i=3\/i=4\/i=5\/i=6\/i=7\/i=8\/i=9\/i=10\/i=11\/i=12\/i=13\/i=14\/i=15\/i=16\/i=17:=by omega
 rcases hi with rfl | rfl | rfl | rfl | rfl | rfl | rfl | rfl | rfl | rfl | rfl | rfl | rfl | rfl | rfl | rfl | rfl <;> rfl
theorem SK{c:c4}{n:Nat}(hc:Cn c n)(hn:n<=1000000){i:Nat}(h1:1<=i)(h2:i<=17){l:List Int}(ht:Sb i l.length=true)(hm:l.length<=4000)(hb:c.begun=true\/i=13\/i=14) :
  oD (pF i).run c l=some (yn c i l)/\Cn (yn c i l).1 (n+201):=by
 have hi:(1<=i/\i<=12)\/i=13\/i=14\/i=15\/i=16\/i=17:=by omega
 rcases hi with hi | rfl | rfl | rfl | rfl | rfl
 .have hbg:c.begun=true:=by
   rcases hb with q | q | q
   .exact q
   .omega
   .omega
  have hl:l.length<=3:=by
   unfold Sb at ht;rw[za (by omega),wf] at ht;have:∀j:Nat,Ax j<=3:=λj=>by
    unfold Ax;rw[zf];rcases zB j 18 with q | q
    .have hj:∀j:Fin 18,(([0,3,2,1,3,3,3,2,2,2,2,0,1,0,3,0,0,0]:List Int)[j.1]?).getD 0<=3:=by decide
     exact hj ⟨j,q⟩
    .rw[t7 (by simpa using q)];decide
   have:=this i;omega
  have hf:oD (pF i).run c l=O3 c l i:=by
   unfold pF;rw[za (by omega),za (by omega),za (by omega),za (by omega),za (by omega)];rfl
  have ha:yn c i l=OV c i l:=by
   unfold yn;rw[za (by omega),za (by omega),za (by omega),za (by omega),za (by omega)]
  rw[hf,ha];exact UQ hc hbg hn i hl
 .have hl:l.length % 4=1:=by
   have ht:(l.length % 4==1)=true:=ht;exact wf.1 ht
  obtain⟨a,b⟩:=Uy hc hl hm;exact⟨a,b.mono (by omega)⟩
 .have hl:l.length=3:=by
   have ht:((l.length:Int)==3)=true:=ht;have:=wf.1 ht;omega
  obtain⟨a,b⟩:=TE hc hl;exact⟨a,b.mono (by omega)⟩
 all_goals
  have hbg:c.begun=true:=by
   rcases hb with q | q | q
   .exact q
   .omega
   .omega
  have hr:=hc.rs hbg;refine⟨?_,hc.mono (by omega)⟩;obtain⟨⟨x,ps⟩,b,pg⟩:=c
 .exact Ly hr.rt hr.T5 hn b pg l
 .exact MQ hr.rt hr.T5 hn b pg l
 .exact Nq hr.rt hr.T5 hn b pg l
theorem FI{c:c4}{n:Nat}(hc:Cn c n)(hn:n<=1000000){w:ByteArray}{ws:List ByteArray}(hw:Xu (w::ws))(hm:ws.length<=4000) :
  D1 c (w::ws)=some (iZ c w ws)/\Cn (iZ c w ws).1 (n+201):=by
 have hws:Xu ws:=⟨by have:=hw.1;simp only[zl] at this;omega,λv hv=>hw.2 v (zt _ hv)⟩;have e0:ix (w::ws) 0=some w:=rfl;have hct:cut (w::ws) 1 (((w::ws).length:Nat):Int)=some ws:=by
  have:=gz (xs:=w::ws) (i:=1) (j:=(w::ws).length) (by simp) (zq _);rw[zT] at this;exact this
 have hnl:=Ua ws;have hE:∀ {q:Prop},iZ c w ws=(c,nf 33)->Cn (iZ c w ws).1 (n+201):=λh=>by rw[h];exact hc.mono (by omega)
 unfold D1;rw[OZ,Yx,e0,Yx,hct,Yx,PN hws,Yx,Hf];by_cases h0:sD w=0
 .have hR:iZ c w ws=(c,nf 33):=zb (.inl h0);refine⟨?_,hE (q:=True) hR⟩;rw[NF h0,hR];show (if (((!false)||(!(nm ws).2))==false)=true then _ else (B7 33).bind _)=_;rw[za (by simp),qh XS];rfl
 obtain⟨hs,h1,h17⟩:=NG h0;rw[hs];cases h2:(nm ws).2
 .have hR:iZ c w ws=(c,nf 33):=zb (.inr (.inl h2));refine⟨?_,hE (q:=True) hR⟩;rw[hR];show (if (((!true)||(!false))==false)=true then _ else (B7 33).bind _)=_;rw[za (by decide),qh XS];rfl
 show (if (((!true)||(!true))==false)=true then ((oC (pF (sD w)).takes ((nm ws).1.length:Int)).bind λv5=>if (!v5)=true then (B7 33).bind (λv8=>some (c,v8)) else if ((!c.begun)&&(!(pF (sD w)).early))=true then some (c,Yf) else (oD (pF (sD w)).run c (nm ws).1).bind λv9=>some (v9.1,v9.2)) else _)=_/\_;rw[zb (by decide),Np h1 h17 (by have:=hws.1;omega),Yx];cases h3:Sb (sD w) (nm ws).1.length
 .have hR:iZ c w ws=(c,nf 33):=zb (.inr (.inr h3));refine⟨?_,hE (q:=True) hR⟩;rw[hR,zb (by decide),qh XS];rfl
 have hN:¬(sD w=0\/(nm ws).2=false\/Sb (sD w) (nm ws).1.length=false):=by rw[h2,h3];simp[h0]
 rw[za (by decide),KC h1 h17];by_cases h4:c.begun=false/\sD w≠13/\sD w≠14
 .have hR:iZ c w ws=(c,Yf):=(za hN).trans (zb h4);refine⟨?_,by rw[hR];exact hc.mono (by omega)⟩;rw[hR,h4.1,zK (by omega),zb (by decide)]
 .have hb:c.begun=true\/sD w=13\/sD w=14:=by
   cases hq:c.begun
   .rw[hq] at h4;by_cases q1:sD w=13
    .exact .inr (.inl q1)
    by_cases q2:sD w=14
    .exact .inr (.inr q2)
    exact absurd ⟨rfl,q1,q2⟩ h4
   .exact .inl rfl
  obtain⟨a1,a2⟩:=SK hc hn h1 h17 (l:=(nm ws).1) h3 (by omega) hb;have hR:iZ c w ws=yn c (sD w) (nm ws).1:=(za hN).trans (za h4);rw[hR];refine⟨?_,a2⟩;rw[za (by
   rw[zk,zbk,zbk,decide_eq_false_iff_not];rintro⟨q1,q2⟩;rcases hb with q | q | q
   .rw[q1] at q;cases q
   .exact q2 (.inl q)
   .exact q2 (.inr q)),a1]
  rfl
def U4:List UInt8->List (List UInt8)->List UInt8->List (List (List UInt8))
 | w,r,[]=>if S0 w r = [] then [] else [S0 w r]
 | w,r,b::l=>if b=10 then (if S0 w r = [] then U4 [] [] l else S0 w r::U4 [] [] l) else if IP b=true then U4 [] (S0 w r) l else U4 (w ++ [b]) r l
def uv(xs:List (List UInt8)):List (List (List UInt8)):=(xs.map (ao [] [])).filter λr => !(r == [])
theorem sC(x:List UInt8)(xs:List (List UInt8)):uv (x::xs)=(if ao [] [] x = [] then [] else [ao [] [] x])++uv xs:=by
 unfold uv;rw[ww,n9];by_cases h:ao [] [] x = []
 .rw[za (by simp[h]),zb h];rfl
 .rw[zb (by simp[h]),za h];rfl
theorem rv:∀(l w:List UInt8) (r:List (List UInt8)),∃x xs,xH l=x::xs/\U4 w r l=(if ao w r x = [] then [] else [ao w r x])++uv xs
 | [],w,r=>⟨[],[],rfl,by
  show (if S0 w r = [] then [] else [S0 w r])=(if S0 w r = [] then [] else [S0 w r]) ++ [];rw[p0]⟩
 | b::l,w,r=>by
  by_cases hb:b=10
  .obtain⟨x,xs,h1,h2⟩:=rv l [] [];refine⟨[],xH l,by rw[xH,zb hb],?_⟩;rw[U4,zb hb,h2,h1,sC];show _=(if S0 w r = [] then [] else [S0 w r])++_;split <;> rfl
  .by_cases hB:IP b=true
   .obtain⟨x,xs,h1,h2⟩:=rv l [] (S0 w r);refine⟨b::x,xs,by rw[xH,za hb,h1],?_⟩;rw[U4,za hb,zb hB,h2,ao,zb hB]
   .obtain⟨x,xs,h1,h2⟩:=rv l (w ++ [b]) r;refine⟨b::x,xs,by rw[xH,za hb,h1],?_⟩;rw[U4,za hb,za hB,h2,ao,za hB]
theorem De(l:List UInt8):U4 [] [] l=uv (xH l):=by
 obtain⟨x,xs,h1,h2⟩:=rv l [] [];rw[h2,h1,sC]
theorem ly(m:List UInt8):∀(l w:List UInt8) (r:List (List UInt8)),U4 w r (l++10::m)=U4 w r l++U4 [] [] m
 | [],w,r=>by
  have e:U4 w r (10::m)=if S0 w r = [] then U4 [] [] m else S0 w r::U4 [] [] m:=by
   rw[U4];exact zb rfl
  rw[zbl,e];show _=(if S0 w r = [] then [] else [S0 w r])++U4 [] [] m;split <;> rfl
 | b::l,w,r=>by
  rw[zb1,U4,U4];split
  .split;·exact ly m l [] []
   .rw[ly m l [] []];rfl
  split;·exact ly m l [] (S0 w r)
  .exact ly m l (w ++ [b]) r
theorem BV:∀l:List UInt8,(xH l).length<=l.length+1/\∀x∈xH l,x.length<=l.length
 | []=>⟨zq _,λx hx=>by rw[xH,zH] at hx;rw[hx];exact zq _⟩
 | b::l=>by
  obtain⟨h1,h2⟩:=BV l;rw[xH];split
  .refine⟨by simp only[zl];omega,λx hx=>?_⟩;rcases zJ.1 hx with rfl | hx
   .simp
   .have:=h2 x hx;simp only[zl];omega
  .split
   .rename_i y ys e;rw[e] at h1 h2;simp only[zl] at h1;refine⟨by simp only[zl];omega,λx hx=>?_⟩;rcases zJ.1 hx with rfl | hx
    .have:=h2 y (zi ..);simp only[zl];omega
    .have:=h2 x (zt _ hx);simp only[zl];omega
   .refine⟨by simp,λx hx=>?_⟩;rw[zH] at hx;rw[hx];simp
theorem yz(w:List UInt8)(r:List (List UInt8)){m:Nat}(hw:w.length<=m)(hr:∀x∈r,x.length<=m):(S0 w r).length<=r.length+1/\∀x∈S0 w r,x.length<=m:=by
 unfold S0;split;·exact⟨Nat.le_succ _,hr⟩
 .refine⟨by simp,λx hx=>?_⟩;rcases zw.1 hx with h | h
  .exact hr x h
  .rw[zH.1 h];exact hw
theorem vW{m:Nat}:∀(l w:List UInt8) (r:List (List UInt8)),w.length+l.length<=m->(∀x∈r,x.length<=m)->(ao w r l).length<=r.length+l.length+1/\∀x∈ao w r l,x.length<=m
 | [],w,r,hw,hr=>by
  have:=yz w r (m:=m) (by simpa using hw) hr;exact⟨by simp only[ao,zW];omega,this.2⟩
 | b::l,w,r,hw,hr=>by
  simp only[zl] at hw |-;rw[ao];split
  .have h1:=yz w r (m:=m) (by omega) hr;have:=vW l [] (S0 w r) (by simp only[zW];omega) h1.2;exact⟨by omega,this.2⟩
  .have:=vW l (w ++ [b]) r (by simp only[zC,qr];omega) hr;exact⟨by omega,this.2⟩
noncomputable def nH(c:c4)(r:List (List UInt8)):c4 × ByteArray:=match r with
 | []=>(c,ByteArray.empty)
 | w::ws=>iZ c (r9 w) (ws.map r9)
noncomputable def G0(c:c4)(rs:List (List (List UInt8))):c4 × List ByteArray:=rs.foldl (λp r=>((nH p.1 r).1,p.2 ++ [(nH p.1 r).2])) (c,[])
theorem xh:∀(rs:List (List (List UInt8))) (c:c4) (a:List ByteArray),rs.foldl (λp r=>((nH p.1 r).1,p.2 ++ [(nH p.1 r).2])) (c,a)=((G0 c rs).1,a++(G0 c rs).2)
 | [],c,a=>by simp[G0]
 | r::rs,c,a=>by
  unfold G0;rw[zap,zap,xh rs,xh rs,pm];rfl
theorem ig(c:c4)(a b:List (List (List UInt8))):G0 c (a++b)=((G0 (G0 c a).1 b).1,(G0 c a).2++(G0 (G0 c a).1 b).2):=by
 have:G0 c (a++b)=b.foldl (λp r=>((nH p.1 r).1,p.2 ++ [(nH p.1 r).2])) (G0 c a):=by
  unfold G0;rw[za0]
 rw[this];exact xh b _ _
theorem rY(c:c4)(r:List (List UInt8)):G0 c [r]=((nH c r).1,[(nH c r).2]):=rfl
theorem xi(c:c4)(a:List (List (List UInt8))):(G0 c a).2.length=a.length:=by
 induction a generalizing c with
 | nil=>rfl
 | cons r a ih=>
  have:=ig c [r] a;rw[List.singleton_append] at this;rw[this,rY];simp only[zC,zl,zW,ih];omega
def c0:c4:=⟨⟨⟨⟨⟨[],0⟩,0⟩,[],[],[],⟨[],0⟩⟩,[]⟩,false,[]⟩
theorem Ki:Cn c0 0:=⟨rfl,(λp hp=>absurd (show p∈([]:List (List c8)) from hp) zb0),(λq=>absurd (show false=true from q) (by decide))⟩
theorem wx{s:ByteArray}(hs:s.size<=2000):L4 s=some (G0 c0 (U4 [] [] (Y9 s))).2/\Cn (G0 c0 (U4 [] [] (Y9 s))).1 500000:=by
 have hl:=kR s;obtain⟨s1,s2⟩:=BV (Y9 s);rw[De];generalize hX:xH (Y9 s)=xs at s1 s2;have hC:∀k,k<=xs.length->Cn (G0 c0 (uv (xs.take k))).1 (201*k)/\∀h:k<xs.length,ao [] [] xs[k] ≠ []->D1 (G0 c0 (uv (xs.take k))).1 ((ao [] [] xs[k]).map r9)=some (nH (G0 c0 (uv (xs.take k))).1 (ao [] [] xs[k])):=by
  have one:∀ {c:c4} {k:Nat},Cn c (201*k)->∀h:k<xs.length,ao [] [] xs[k] ≠ []->D1 c ((ao [] [] xs[k]).map r9)=some (nH c (ao [] [] xs[k]))/\Cn (nH c (ao [] [] xs[k])).1 (201*(k+1)):=by
   intro c k hc h hne;have hx:=s2 _ (zj h);obtain⟨f1,f2⟩:=vW (m:=(Y9 s).length) xs[k] [] [] (by simp only[zW];omega) (λx hx=>by cases hx);generalize ao [] [] xs[k]=ws at hne f1 f2;cases ws with
   | nil=>exact absurd rfl hne
   | cons w ws=>
    simp only[zl,zW] at f1;rw[ww];refine FI hc (by omega) ⟨by simp only[zl,wt];omega,λv hv=>?_⟩ (by rw[wt];omega);rw[<-ww] at hv;obtain⟨u,hu,rfl⟩:=zI.1 hv;rw[Y8];have:=f2 u hu;omega
  intro k;induction k with
  | zero=>intro _;exact⟨Ki,λh hne=>(one Ki h hne).1⟩
  | succ k ih=>
   intro hk;have hk':k<xs.length:=hk;obtain⟨i1,_⟩:=ih (by omega);have e:Cn (G0 c0 (uv (xs.take (k+1)))).1 (201*(k+1)):=by
    rw[zu hk'];have ew:uv (xs.take k ++ [xs[k]])=uv (xs.take k)++uv [xs[k]]:=by unfold uv;rw[zad,zan]
    rw[ew,sC,ig];have wn:uv [] = []:=rfl;rw[wn,p0];split;·exact i1.mono (by omega)
    .rename_i hne;rw[rY];exact (one i1 hk' hne).2
   exact⟨e,λh hne=>(one e h hne).1⟩
 refine⟨?_,?_⟩
 .unfold L4;simp only[jn];rw[Jx (by omega),Yx,hX];refine Y1 xs.length (λk (t:c4 × List ByteArray)=>t=G0 c0 (uv (xs.take k))) (by omega) rfl (λk t hk ht=>.inl ?_) λt ht=>⟨_,za (by simp),by rw[ht,zT]⟩;subst ht;obtain⟨h1,h2⟩:=hC k (by omega);have hx:=s2 _ (zj hk);have hrl:=xi c0 (uv (xs.take k));have hwl:(uv (xs.take k)).length<=k:=by
   unfold uv;refine un (zZ _ _) ?_;rw[wt,m7];omega
  have ew:uv (xs.take (k+1))=uv (xs.take k)++(if ao [] [] xs[k] = [] then [] else [ao [] [] xs[k]]):=by
   rw[zu hk];have:uv (xs.take k ++ [xs[k]])=uv (xs.take k)++uv [xs[k]]:=by unfold uv;rw[zad,zan]
   rw[this,sC];have wn:uv [] = []:=rfl;rw[wn,p0]
  have hkm:k<(xs.map r9).length:=by rw[wt];exact hk
  have hix:ix (xs.map r9) (k:Int)=some (r9 xs[k]):=by rw[u6 hkm,ut]
  refine⟨_,?_,rfl⟩;dsimp only;rw[zb (by simpa using hk),hix,Yx,II _ (by rw[Y8];omega),Yx,ax,ew];by_cases hne:ao [] [] xs[k] = []
  .rw[hne,zb (by rfl),zb rfl,p0,p8]
  .rw[za (by simpa using hne),za hne,h2 hk hne,Yx,C3 (by decide) (by rw[hrl];simp only[qr];omega),Yx,p8,ig,rY]
 .have:=(hC xs.length (zq _)).1;rw[zT] at this;exact this.mono (by omega)
theorem DV(l:List ByteArray)(hl:l.length<=100000):kz l l=some true:=by
 unfold kz;rw[za (by simp)];simp only[jn];refine dX l.length (λ_=>True) (by omega) trivial (λk hk _=>.inl ⟨?_,trivial⟩) λ_=>⟨_,za (by simp),rfl⟩;rw[zb (by simpa using hk),u6 hk,Yx,Yx,za (by simp),p8]
theorem PF(w:List UInt8)(r:List (List UInt8))(l:List UInt8):U4 w r (10::l)=if S0 w r = [] then U4 [] [] l else S0 w r::U4 [] [] l:=by
 rw[U4];exact zb rfl
theorem Pd{α:Type}(a b:List α):cut (a++b) 0 (a.length:Int)=some a:=by
 have:=gz (xs:=a++b) (i:=0) (j:=a.length) (t8 _) (by simp);rw[List.take_left] at this;exact this
theorem Dd(l:List UInt8):(U4 [] [] l).length<=l.length+1:=by
 rw[De];unfold uv;refine un (zZ _ _) ?_;rw[wt];exact (BV l).1
def qB:List UInt8:=[112,114,111,103,32,48,10,112,114,111,103,32,49,10,112,114,111,103,32,50,10,112,114,111,103,32,51,10,112,114,111,103,32,52,10,112,114,111,103,32,53,10,104,101,97,112,32,52,32,51,32,56]
def RS(i:Nat):List (List UInt8):=[[112,114,111,103],[UInt8.ofNat (48+i)]]
theorem Qt:U4 [] [] qB = [RS 0,RS 1,RS 2,RS 3,RS 4,RS 5,[[104,101,97,112],[52],[51],[56]]]:=by decide +kernel
structure Em (p:List (List c8)) (i:Nat):Prop where
 pg:Y3 p=true
 tk:p.take i=List.replicate i []
theorem wK{p:List (List c8)}:Y3 p=true↔p.length<=6/\∀q∈p,rF q=true:=by
 unfold Y3;rw[zk,zF,zd]
theorem GL{p:List (List c8)}{i:Nat}(h:Em p i)(hi:i<=5):Em (fe p [(i:Int)]) (i+1):=by
 obtain⟨h1,h2⟩:=h;obtain⟨h3,h4⟩:=wK.1 h1;have hl:i<=p.length:=by
  have:=or List.length h2;rw[m7,za1] at this;omega
 have hp:fe p [(i:Int)]=(p++List.replicate (i+1-p.length) []).set i []:=rfl;rw[hp];have hL:i<(p++List.replicate (i+1-p.length) ([]:List c8)).length:=by rw[zC,za1];omega
 refine⟨wK.2 ⟨?_,λq hq=>?_⟩,?_⟩;·rw[zae,zC,za1];omega
 .rcases zaa hq with q1 | rfl
  .rcases zw.1 q1 with q1 | q1
   .exact h4 q q1
   .rw[(za3.1 q1).2];rfl
  .rfl
 .rw[zu (by rw[zae];exact hL),zca,List.take_set_of_le (zq _),List.take_append_of_le_length hl,h2,List.replicate_succ']
theorem Tj{p:List (List c8)}(h:Em p 6):p=List.replicate 6 []:=by
 have:=(wK.1 h.pg).1;rw[<-h.tk,zao this]
theorem MI(c:c4){i:Nat}(hi:i<=5)(h:Em c.progs i):nH c (RS i)=(⟨c.g,c.begun,fe c.progs [(i:Int)]⟩,okB)/\Em (fe c.progs [(i:Int)]) (i+1):=by
 have e:=GL h hi;refine⟨?_,e⟩;have hn:nm [r9 [UInt8.ofNat (48+i)]]=([(i:Int)],true):=by
  have:i=0\/i=1\/i=2\/i=3\/i=4\/i=5:=by omega
  rcases this with rfl | rfl | rfl | rfl | rfl | rfl <;> decide +kernel
 have hw:sD (r9 [112,114,111,103])=13:=by decide +kernel
 show iZ c (r9 [112,114,111,103]) [r9 [UInt8.ofNat (48+i)]]=_;unfold iZ;rw[hw,hn,za (by
  rintro (q | q | q);·exact absurd q (by decide)
  .exact Bool.noConfusion q
  .exact absurd (show Sb 13 1=false from q) (by decide)),za (λq=>q.2.1 rfl)]
 show Ix c [(i:Int)]=_;have hP:Ix c [(i:Int)]=if (i:Int)<0\/(i:Int) > 5 then (c,nf 13) else if Y3 (fe c.progs [(i:Int)])=true then (⟨c.g,c.begun,fe c.progs [(i:Int)]⟩,okB) else (c,nf 13):=rfl
 rw[hP,za (by omega),zb e.pg]
noncomputable def gF:u9:=((F9 4 3 8 (List.replicate 6 [])).getD (⟨Li,[]⟩,0)).1
theorem Wb:F9 4 3 8 (List.replicate 6 [])=some (gF,0):=by
 have h:(F9 4 3 8 (List.replicate 6 [])).map (·.2)=some 0:=by kernel_rfl
 unfold gF;cases hq:F9 4 3 8 (List.replicate 6 []) with
 | none=>rw[hq] at h;cases h
 | some r=>
  rw[hq] at h;have h:some r.2=some 0:=h;rw[zR,<-u8 h]
noncomputable def cF:c4:=⟨gF,true,List.replicate 6 []⟩
theorem MH(c:c4)(h:c.progs=List.replicate 6 []):nH c [[104,101,97,112],[52],[51],[56]]=(cF,okB):=by
 have hn:nm [r9 [52],r9 [51],r9 [56]]=([4,3,8],true):=by decide +kernel
 have hw:sD (r9 [104,101,97,112])=14:=by decide +kernel
 show iZ c (r9 [104,101,97,112]) [r9 [52],r9 [51],r9 [56]]=_;unfold iZ;rw[hw,hn,za (by decide),za (λq=>q.2.2 rfl)];show CB c [4,3,8]=_;have hH:CB c [4,3,8]=if ((F9 4 3 8 c.progs).getD (c.g,0)).2≠0 then (c,nf ((F9 4 3 8 c.progs).getD (c.g,0)).2) else (⟨((F9 4 3 8 c.progs).getD (c.g,0)).1,true,c.progs⟩,okB):=rfl
 rw[hH,h,Wb,zR,za (λq=>q rfl)];rfl
theorem eh(c:c4)(r:List (List UInt8))(rs:List (List (List UInt8))):G0 c (r::rs)=((G0 (nH c r).1 rs).1,(nH c r).2::(G0 (nH c r).1 rs).2):=by
 have:=ig c [r] rs;rw[List.singleton_append,rY] at this;exact this
def Jg(c:c4):Nat->List (List c8)
 | 0=>c.progs
 | i+1=>fe (Jg c i) [(i:Int)]
theorem Mw{c:c4}{n:Nat}(hc:Cn c n):∀i,i<=6->Em (Jg c i) i
 | 0,_=>⟨hc.pg,rfl⟩
 | i+1,h=>GL (Mw hc i (by omega)) (by omega)
theorem tE{c:c4}{n:Nat}(hc:Cn c n){i:Nat}(hi:i<=5):nH ⟨c.g,c.begun,Jg c i⟩ (RS i)=(⟨c.g,c.begun,Jg c (i+1)⟩,okB):=
 (MI ⟨c.g,c.begun,Jg c i⟩ hi (Mw hc i (by omega))).1
theorem MW{c:c4}{n:Nat}(hc:Cn c n):G0 c (U4 [] [] qB)=(cF,List.replicate 7 okB):=by
 rw[Qt];show G0 ⟨c.g,c.begun,Jg c 0⟩ _=_;rw[eh,tE hc (by decide)];dsimp only;rw[eh,tE hc (by decide)];dsimp only;rw[eh,tE hc (by decide)];dsimp only;rw[eh,tE hc (by decide)];dsimp only;rw[eh,tE hc (by decide)];dsimp only;rw[eh,tE hc (by decide)];dsimp only;rw[eh,MH _ (Tj (Mw hc 6 (by decide)))];rfl
theorem Pe{α:Type}(a b:List α):cut (a++b) (a.length:Int) ((a++b).length:Int)=some b:=by
 have:=gz (xs:=a++b) (i:=a.length) (j:=(a++b).length) (by simp) (zq _);rw[zT,List.drop_left] at this;exact this
theorem consoleHeaps(s t:ByteArray):bm s t=some true:=by
 unfold bm;by_cases h:(decide ((s.size:Int) > 300)||decide ((t.size:Int) > 300))=true
 .rw[h,HV];rfl
 have h':(decide ((s.size:Int) > 300)||decide ((t.size:Int) > 300))=false:=by simpa using h
 rw[h',HV];simp only[md,jR,Yx,Bool.not_true,Bool.or_self,zm,zY];have hst:s.size<=300/\t.size<=300:=by
  rw[me,t6,t6] at h;omega
 obtain⟨hs,ht⟩:=hst;have hsl:=kR s;have htl:=kR t;have hQ:r9 [10,112,114,111,103,32,48,10,112,114,111,103,32,49,10,112,114,111,103,32,50,10,112,114,111,103,32,51,10,112,114,111,103,32,52,10,112,114,111,103,32,53,10,104,101,97,112,32,52,32,51,32,56,10]=r9 (10::(qB ++ [10])):=or r9 (by decide +kernel);rw[hQ];have hq:(10::(qB ++ [10]):List UInt8).length=54:=rfl;have z1:=Y8 (10::(qB ++ [10]));rw[hq] at z1;have e1:tJ (r9 (10::(qB ++ [10]))) t=some (r9 (10::(qB++10::Y9 t))):=by
  rw[oV (by omega),ax];simp only[zb1,pm,zbl]
 have e2:tJ s (r9 (10::(qB ++ [10])))=some (r9 (Y9 s++10::(qB ++ [10]))):=by
  rw[oV (by omega),ax]
 have z2:=Y8 (Y9 s++10::(qB ++ [10]));rw[zC,hq] at z2;have e3:tJ (r9 (Y9 s++10::(qB ++ [10]))) t=some (r9 (Y9 s++10::(qB++10::Y9 t))):=by
  rw[oV (by omega),ax];simp only[zb1,pm,zbl]
 have hqt:(10::(qB++10::Y9 t)).length=54+(Y9 t).length:=by simp only[zl,zC];have:qB.length=52:=rfl;omega
 have z3:=Y8 (10::(qB++10::Y9 t));have z4:=Y8 (Y9 s++10::(qB++10::Y9 t));rw[zC] at z4;obtain⟨l1,n1⟩:=wx (s:=s) (by omega);have m1:U4 [] [] (10::(qB++10::Y9 t))=U4 [] [] qB++U4 [] [] (Y9 t):=by
  rw[PF,zb (show S0 [] [] = [] from rfl),ly]
 have m2:U4 [] [] (Y9 s++10::(qB++10::Y9 t))=U4 [] [] (Y9 s)++(U4 [] [] qB++U4 [] [] (Y9 t)):=by
  rw[ly,ly]
 have l2:L4 (r9 (10::(qB++10::Y9 t)))=some (List.replicate 7 okB++(G0 cF (U4 [] [] (Y9 t))).2):=by
  rw[(wx (by omega)).1,ax,m1,ig,MW Ki]
 have l3:L4 (r9 (Y9 s++10::(qB++10::Y9 t)))=some ((G0 c0 (U4 [] [] (Y9 s))).2++(List.replicate 7 okB++(G0 cF (U4 [] [] (Y9 t))).2)):=by
  rw[(wx (by omega)).1,ax,m2,ig,ig,MW n1]
 have hA:=xi c0 (U4 [] [] (Y9 s));have hAl:=Dd (Y9 s);have hB:=xi cF (U4 [] [] (Y9 t));have hBl:=Dd (Y9 t);rw[l1,Yx,e1,Yx,l2,Yx,e2,Yx,e3,Yx,l3,Yx];generalize (G0 c0 (U4 [] [] (Y9 s))).2=R at hA;have hR2:(List.replicate 7 okB++(G0 cF (U4 [] [] (Y9 t))).2).length<=1000:=by rw[zC,za1];omega
 generalize (List.replicate 7 okB++(G0 cF (U4 [] [] (Y9 t))).2)=R2 at hR2;have hge:(((R++R2).length:Int)==z8 ((R.length:Int)+(R2.length:Int)))=true:=by
  rw[zC,F7 (by omega) (by omega),wf];omega
 have et:=DV R (by omega);have et2:=DV R2 (by omega);rw[hge];simp only[md,jR,Pd,Pe,Yx,et,et2,Bool.and_self]
end Go.Sh
