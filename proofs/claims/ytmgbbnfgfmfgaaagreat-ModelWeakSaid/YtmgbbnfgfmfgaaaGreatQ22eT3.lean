/- A part. -/
import Derived.Test.YtmgbbnfgfmfgaaaGreatQ22eT2
set_option linter.unusedVariables false
set_option linter.unusedSimpArgs false
set_option linter.unusedSectionVars false
namespace Go.Sh
def KY(m:a8)(w:Nat)(s call:Int):a8:=DS (RN m (m.b7.set w (fE s call))) (m.b7.getD w cz).Target
theorem Ga{m:a8}{s:Int}{n:b8}(h:m.Nodes.find? (λn=>n.Serial==s)=some n):DS m s=if n.Alive=true\/0<jd m.b7 s then m else El m n:=by
 unfold DS;rw[h]
theorem LC{m:a8}{s:Int}(h:m.Nodes.find? (λn=>n.Serial==s)=none):DS m s=m:=by
 unfold DS;rw[h]
theorem IE{σ:Int->Int}{x:Hp}{m:a8}(hR:SR x.S)(q:r8 σ x m){i:Nat}(hi:i<x.S.S.b7.length)(ht:Th (ce x.S i))(d:Int):r8 σ (wS x (lF x.S i d)) m:=by
 refine q.alike hR (J2 ..) rfl rfl λj hj=>?_;rw[eU hR hi ht];split;·rename_i e;subst e;exact⟨rfl,rfl,rfl,rfl,rfl,rfl,rfl⟩
 .exact⟨rfl,rfl,rfl,rfl,rfl,rfl,rfl⟩
theorem lj{x:Hp}(hS:jY x){c:k9}(hc:c∈x.b7):c.Target=0\/∃i,T9 x.S c.Target i:=by
 obtain⟨i,hi,rfl⟩:=wt hc;by_cases e:x.b7[i].Target=0
 .exact .inl e
 .exact .inr ((hS.cl i hi).2.2.2.1 e)
theorem r8.cH{σ:Int->Int}{x:Hp}{m:a8}(hx:K0 x)(q:r8 σ x m){w:Nat}(hw:w<6){h call:Int}(hh:h=0\/h∈lv x.S):r8 σ (cH x w h call) (KY m w (σ h) call):=by
 have hS:=hx.sh;have hR:=hS.sr;have hwl:w<x.b7.length:=by rw[hS.c6];exact hw
 have hz:(σ h != 0)=(h != 0):=by
  have:=q.gd.zero hR (MP hR q.gd hh);rw[za8];simp[this]
 have q1:r8 σ (wC x (x.b7.set w (fE h call))) (RN m (m.b7.set w (fE (σ h) call))):=by
  refine⟨q.gd,q.nd,q.sl,q.ge,q.la,q.npl,q.se,q.ro,?_,q.p1,q.p2,q.tk⟩;show m.b7.set w (fE (σ h) call)=(x.b7.set w (fE h call)).map (wx σ);rw[q.ce,zco];congr 1;unfold wx fE;rw[hz]
 have hold:(m.b7.getD w cz).Target=σ (ma x w):=by
  unfold ma;rw[q.ce,zd,zA,zd,zc hwl];rfl
 have htg:ma x w=x.b7[w].Target:=by unfold ma;rw[zd,zc hwl];rfl
 unfold Sh.cH KY;rw[hold];generalize hy:iu (wC x (x.b7.set w (fE h call))) h 1=y;generalize hm:RN m (m.b7.set w (fE (σ h) call))=m1 at q1;have k:∃s2,y=wS (wC x (x.b7.set w (fE h call))) s2/\SR s2/\r8 σ y m1/\s2.S.b7.length=x.S.S.b7.length/\∀i,i<x.S.S.b7.length->(Sh.ce s2 i).State=(Sh.ce x.S i).State/\(Sh.ce s2 i).Gen=(Sh.ce x.S i).Gen/\(Sh.ce s2 i).Val.Weak=(Sh.ce x.S i).Val.Weak+if h=bX x.S i/\Th (Sh.ce x.S i) then 1 else 0:=by
  subst hy;unfold iu;split
  .rename_i c;have c:T9 x.S h (D7 h):=c;refine⟨_,rfl,uV hR c.1 c.2.1 (by have:=(hR.ok _ c.1 c.2.1).wk;omega),IE (x:=wC x (x.b7.set w (fE h call))) hR q1 c.1 c.2.1 1,J2 ..,λi hi=>?_⟩;show (Sh.ce (lF x.S (D7 h) 1) i).State=_/\(Sh.ce (lF x.S (D7 h) 1) i).Gen=_/\(Sh.ce (lF x.S (D7 h) 1) i).Val.Weak=_;rw[eU hR c.1 c.2.1];split
   .rename_i e;subst e;exact⟨rfl,rfl,by rw[zb ⟨c.2.2,c.2.1⟩]⟩
   .rename_i e;refine⟨rfl,rfl,?_⟩;rw[za λd=>?_];·omega
    .exact e (T9.one hR (d.1▸wO hi d.2) c)
  .rename_i c;refine⟨_,rfl,hR,q1,rfl,λi hi=>⟨rfl,rfl,?_⟩⟩;rw[za λd=>?_];·omega
   .refine c ?_;have:=wO hi d.2;show T9 x.S h (D7 h);rw[d.1,this.D7 hR];exact this
 obtain⟨s2,ey,hR2,q2,hl2,hc2⟩:=k;have hcf:∀c∈x.b7.set w (fE h call),c.Target=0\/∃i,T9 x.S c.Target i:=λc hc=>by
  rcases zas hc with hc | rfl
  .exact lj hS hc
  .exact MP hR q.gd hh
 rcases lj hS (zh hwl) with e0 | ⟨p,hp⟩
 .rw[<-htg] at e0;rw[e0,q.gd.z,LC (q2.VZ (by rw[ey];exact hR2))];unfold pG;rw[za];·exact q2
  .intro c;have:=c.KJ (by rw[ey];exact hR2);omega
 .rw[<-htg] at hp;have hpp:=hp.D7 hR;obtain⟨s1',g1,w1⟩:=hc2 p hp.1;have hT2:Th (Sh.ce s2 p):=by unfold Th;rw[s1'];exact hp.2.1
  have hp2:T9 s2 (ma x w) p:=⟨by rw[hl2];exact hp.1,hT2,by rw[g1];exact hp.2.2⟩;have hp2y:T9 y.S (ma x w) p:=by rw[ey];exact hp2
  have hRy:SR y.S:=by rw[ey];exact hR2
  have h0:ma x w≠0:=by have:=hp.KJ hR;omega
  have s0:σ (ma x w)≠0:=by have:=q.gd.pos hR hp;omega
  have ehd:ma x w=bX x.S p:=hp.2.2;have hnm:(Sh.ce y.S p).Val.Weak=(Sh.jd (x.b7.set w (fE h call)) (ma x w):Int)+1:=by
   rw[ey];show (Sh.ce s2 p).Val.Weak=_;have a:=IG hwl (fE h call) h0;have b:(Sh.ce x.S p).Val.Weak=(Sh.jd x.b7 (ma x w):Int):=by rw[ehd];exact (hx.wk p hp.1 hp.2.1).1
   rw[w1,b];rw[htg] at a |-;rw[zb rfl] at a;by_cases c:h=x.b7[w].Target
   .rw[zb ⟨by rw[c,<-htg];exact ehd,hp.2.1⟩];rw[zb (show (fE h call).Target=_ from c)] at a;omega
   .rw[za λd=>c (by rw[d.1,<-htg];exact ehd.symm)];rw[za (show ¬(fE h call).Target=_ from c)] at a;omega
  have q3:r8 σ (wS y (lF y.S p (-1))) m1:=IE hRy q2 hp2y.1 hp2y.2.1 (-1);have hR3:SR (lF y.S p (-1)):=uV hRy hp2y.1 hp2y.2.1 (by rw[hnm];omega);have hp3:T9 (wS y (lF y.S p (-1))).S (ma x w) p:=(wP hp2y.1 _).2 hp2y;have hf:=q3.find hR3 hp3;have hst:(Sh.ce (lF y.S p (-1)) p).State=(Sh.ce y.S p).State:=by rw[eU hRy hp2y.1 hp2y.2.1,zb rfl]
  have hcm:Sh.jd m1.b7 (σ (ma x w))=Sh.jd (x.b7.set w (fE h call)) (ma x w):=by
   have:m1.b7=(x.b7.set w (fE h call)).map (wx σ):=by
    have:=q2.ce;rw[ey] at this;exact this
   rw[this];exact q.jd hR (λc hc e=>q.gd.Vx hR (hcf c hc) (.inr ⟨p,hp⟩) e) h0 s0
  rw[Ga hf,hcm];unfold pG;rw[hpp,zb hp2y];by_cases c:(Sh.ce y.S p).State=2/\(Sh.ce y.S p).Val.Weak=1
  .rw[zb c,za];·exact q3.El hR3 hp3.1 hp3.2.1
   .rintro (d | d)
    .have:(Sh.ce (lF y.S p (-1)) p).State=1:=by simpa[Sh.nd] using d
     rw[hst,c.1] at this;exact absurd this (by decide)
    .have:=c.2;rw[hnm] at this;omega
  .rw[za c,zb];·exact q3
   .by_cases d:(Sh.ce y.S p).State=2
    .right;have:(Sh.ce y.S p).Val.Weak≠1:=λe=>c ⟨d,e⟩;rw[hnm] at this;omega
    .left;have:(Sh.ce y.S p).State=1:=hp2y.2.1.resolve_right d;unfold Sh.nd;exact zD (hst.trans this)
def lr(n:b8):b8:=⟨n.Serial,n.Slot,n.Prog,n.Started,false,n.Stuck,[]⟩
def qM(m:a8)(s:Int):a8:=DS (xn m (fF m.Nodes s lr)) s
theorem xM(s:Int){f:b8->b8}(hf:∀n,(f n).Serial=n.Serial):∀l:List b8,(fF l s f).find? (λn=>n.Serial==s)=(l.find? λn=>n.Serial==s).map f
 | []=>rfl
 | n::l=>by
  unfold fF at *;rw[zR,List.find?_cons,List.find?_cons];by_cases e:n.Serial=s
  .rw[zb e];have:(f n).Serial=s:=(hf n).trans e;simp[e,this]
  .rw[za e];have:(n.Serial==s)=false:=by simpa using e
   rw[this];exact xM s hf l
theorem rp(s:Int){f:b8->b8}(hf:∀n,(f n).Serial=n.Serial):∀l:List b8,(fF l s f).filter (λn=>n.Serial != s)=l.filter λn=>n.Serial != s
 | []=>rfl
 | n::l=>by
  unfold fF at *;rw[zR,or,or];by_cases e:n.Serial=s
  .rw[zb e];have:(f n).Serial=s:=(hf n).trans e;simp only[this,e,zcj];exact rp s hf l
  .rw[za e];have:(n.Serial != s)=true:=by simpa using e
   simp only[this,wn];have ih:=rp s hf l;unfold fF at ih;rw[ih]
theorem r8.qM{σ:Int->Int}{x:Hp}{m:a8}(hR:SR x.S)(q:r8 σ x m){d:Int}(hd:d∈lv x.S)(hst:(ob x.S d).Strong<12)(hw:(ob x.S d).Weak=Sh.jd x.b7 d)
  (hinj:∀c∈x.b7,σ c.Target=σ d->c.Target=d):r8 σ (wS x (wo x.S d)) (qM m (σ d)):=by
 have p:=o6 hR hd;have h0:d≠0:=by have:=H6 hR hd;omega
 have s0:σ d≠0:=by have:=q.gd.ps hR hd;omega
 have hf:=q.find hR p.d;have hsd:(Sh.nd σ x.S (D7 d)).Serial=σ d:=(q.gd.f d _ p.d).symm;have hcm:Sh.jd m.b7 (σ d)=Sh.jd x.b7 d:=by rw[q.ce];exact q.jd hR hinj h0 s0
 have hf2:(xn m (fF m.Nodes (σ d) lr)).Nodes.find? (λn=>n.Serial==σ d)=some (lr (Sh.nd σ x.S (D7 d))):=by
  show (fF m.Nodes (σ d) lr).find? _=_;rw[xM _ (f:=lr) (λ_=>rfl),hf];rfl
 unfold Sh.qM;rw[Ga hf2];have hcm':Sh.jd (xn m (fF m.Nodes (σ d) lr)).b7 (σ d)=Sh.jd x.b7 d:=hcm;rw[hcm'];unfold wo;rw[F1 hR p] at hw hst;by_cases c:(Sh.ce x.S (D7 d)).Val.Weak=0
 .have e:FK x.S (D7 d)=FL x.S (D7 d):=by unfold FK FL;rw[zb c]
  rw[e,za]
  .have:Sh.El (xn m (fF m.Nodes (σ d) lr)) (lr (Sh.nd σ x.S (D7 d)))=Sh.El m (Sh.nd σ x.S (D7 d)):=by
    unfold Sh.El lr;dsimp only;rw[hsd];have:=rp (σ d) (f:=lr) (λ_=>rfl) m.Nodes;unfold lr at this;rw[this]
   rw[this];exact q.El hR p.1 p.d.2.1
  .rintro (a | a);·exact absurd a (by unfold lr;simp)
   .rw[c] at hw;omega
 .have e:FK x.S (D7 d)=⟨2,(Sh.ce x.S (D7 d)).Gen,JU (Sh.ce x.S (D7 d)).Val⟩:=by unfold FK;rw[za c]
  rw[e,zb (.inr (by have:=(hR.ok _ p.1 p.d.2.1).wk;omega))];have hc:=λj=>K6 p.1 ⟨2,(Sh.ce x.S (D7 d)).Gen,JU (Sh.ce x.S (D7 d)).Val⟩ j;have hl:=V6 x.S (D7 d) ⟨2,(Sh.ce x.S (D7 d)).Gen,JU (Sh.ce x.S (D7 d)).Val⟩;generalize hs':H7 x.S (D7 d) ⟨2,(Sh.ce x.S (D7 d)).Gen,JU (Sh.ce x.S (D7 d)).Val⟩=s' at hc hl;have hsl:s'.S.Last=x.S.S.Last/\s'.Serial=x.S.Serial:=by subst hs';exact⟨rfl,rfl⟩
  have same:∀i,(Th (Sh.ce s' i)↔Th (Sh.ce x.S i))/\(Sh.ce s' i).Gen=(Sh.ce x.S i).Gen/\(Sh.ce s' i).Val.Serial=(Sh.ce x.S i).Val.Serial:=λi=>by
   rw[hc i];split;·rename_i e2;subst e2;exact⟨⟨λ_=>p.d.2.1,λ_=>.inr rfl⟩,rfl,rfl⟩
   .exact⟨Iff.rfl,rfl,rfl⟩
  refine⟨q.gd.up λk i a=>⟨⟨by have:=a.1;rw[<-hl];exact this,(same i).1.1 a.2.1,?_⟩,(same i).2.2⟩,?_,?_,?_,by rw[q.la];exact hsl.1.symm,q.npl,by rw[q.se];exact hsl.2.symm,q.ro,q.ce,q.p1,q.p2,q.tk⟩
  .have:=a.2.2;change k=1+(i:Int)+32*(Sh.ce s' i).Gen at this
   rw[(same i).2.1] at this;exact this
  .have:=q.nd.x6 (s':=s') hR p.1 hl (λj hj=>by rw[hc j,za hj]) p.d.2.1 ((same _).1.2 p.d.2.1) (same _).2.2 (f:=lr) (by
    unfold Sh.nd lr;rw[hc,zb rfl];dsimp only;rw[zY (show ¬(12:Int)<=(Sh.ce x.S (D7 d)).Val.Strong by omega)];rfl)
   rw[q.gd.f d _ p.d];exact this
  .show m.Slots=List.map _ (List.range s'.S.b7.length);rw[hl,q.sl];refine T4 λi hi=>?_;unfold Oe;by_cases c2:Th (Sh.ce x.S i)
   .rw[zb c2,zb ((same i).1.2 c2),(same i).2.2]
   .rw[za c2,za λd=>c2 ((same i).1.1 d),hc i,za (show i≠D7 d from λe2=>c2 (e2▸p.d.2.1))]
  .show m.Gens=List.map _ (List.range s'.S.b7.length);rw[hl,q.ge];exact T4 λi hi=>(same i).2.1.symm
theorem r8.TV{σ:Int->Int}:∀(ds:List Int) {x:Hp} {m:a8},SR x.S->r8 σ x m->ds.Nodup->(∀d∈ds,d∈lv x.S/\(ob x.S d).Strong<12/\(ob x.S d).Weak=Sh.jd x.b7 d)->(∀d∈ds,∀c∈x.b7,σ c.Target=σ d->c.Target=d) ->
  r8 σ (wS x (oi x.S ds)) ((ds.map σ).foldl Sh.qM m)
 | [],x,m,hR,q,_,_,_=>q
 | d::ds,x,m,hR,q,hn,hm,hi=>by
  rw[me] at hn;obtain⟨a1,a2,a3⟩:=hm d zg;have Q:=q.qM hR a1 a2 a3 (hi d zg);show r8 σ (wS x (oi (wo x.S d) ds)) ((ds.map σ).foldl Sh.qM (Sh.qM m (σ d)));refine r8.TV ds (x:=wS x (wo x.S d)) (Ct hR a1) Q hn.2 (λk hk=>?_) λk hk=>hi k (zn _ hk);obtain⟨b1,b2,b3⟩:=hm k (zn _ hk);have hne:k≠d:=λe=>hn.1 (e▸hk);refine⟨by show k∈lv (wo x.S d);rw[Mr hR a1,zk];exact⟨b1,by simpa using hne⟩,?_⟩;show (ob (wo x.S d) k).Strong<12/\(ob (wo x.S d) k).Weak=_;rw[Ms hR a1 b1 hne];exact⟨b2,b3⟩
def AA(m:a8)(S:List Int):a8:=S.foldl qM (Vn (FC (RN m (lk m.b7 S)) (m.Tasks++jr m.b7 S)) (m.Pairs.filter λp=>decide (p.Key∉S)))
theorem RQ{t:Tb}(hT:HR t)(ks:List Int)(hks:ks.length<=1000):(lf t ks).1.length=t.length:=by
 obtain⟨a,had,h1,_,h2,_⟩:=wa hT ks hks;unfold lf;rw[h1];exact h2
section
variable{σ:Int->Int}{x:Hp}{m:a8}(hx:K0 x)(q:r8 σ x m)
include hx q
theorem Im{ds:List Int}(hm:∀d∈ds,d∈lv x.S){c:k9}(hc:c∈x.b7):iO (ds.map σ) (wx σ c)=iO ds c:=by
 have hR:=hx.sh.sr;obtain⟨i,hi,rfl⟩:=wt hc;unfold iO wx;cases e:x.b7[i].Intact;·rfl
 .have hl:=((hx.sh.cl i hi).2.2.2.2 e).1;have a:=q.gd.ps hR hl;have b:=H6 hR hl;have:(σ x.b7[i].Target∈ds.map σ)↔x.b7[i].Target∈ds:=by
   rw[zq];exact⟨λ⟨d,hd,e2⟩=>(q.gd.inl hR (hm d hd) hl e2)▸hd,λh=>⟨_,h,rfl⟩⟩
  rw[za8];simp[this];omega
theorem PJ{ds:List Int}(hm:∀d∈ds,d∈lv x.S):lk m.b7 (ds.map σ)=(lk x.b7 ds).map (wx σ):=by
 unfold lk;rw[q.ce,za2,za2];refine zt λc hc=>?_;show ra (ds.map σ) (wx σ c)=wx σ (ra ds c);unfold ra;rw[Im hx q hm hc];split <;> rfl
theorem PL{ds:List Int}(hm:∀d∈ds,d∈lv x.S):jr m.b7 (ds.map σ)=jr x.b7 ds:=by
 have hg:∀w,w<x.b7.length->(x.b7.map (wx σ)).getD w cz=wx σ (x.b7.getD w cz):=λw hw=>by
  rw[zd,zA,zd,zc hw];rfl
 have hh:∀w,w<x.b7.length->iO (ds.map σ) (wx σ (x.b7.getD w cz))=iO ds (x.b7.getD w cz):=λw hw=>by
  rw[zd,zc hw];exact Im hx q hm (zh hw)
 have hcls:cls m.b7 (ds.map σ)=cls x.b7 ds:=by
  unfold cls;rw[q.ce,zl];refine pm λw hw=>?_;rw[za6] at hw;rw[hg w hw,hh w hw];rfl
 unfold jr;rw[hcls];refine zt λw hw=>?_;have hw:w<x.b7.length:=by
  unfold cls at hw;exact za6.1 (zk.1 hw).1
 rw[q.ce,hg w hw];rfl
theorem r8.RW{ds:List Int}(hn:ds.Nodup)(hm:∀d∈ds,d∈lv x.S):r8 σ (⟨x.S,x.Roots,lk x.b7 ds,(lf x.T ds).1,⟨x.Q.L++jr x.b7 ds,x.Q.Cap⟩⟩:Hp) (Vn (FC (RN m (lk m.b7 (ds.map σ))) (m.Tasks++jr m.b7 (ds.map σ))) (m.Pairs.filter λp=>decide (p.Key∉ds.map σ))):=by
 have hS:=hx.sh;have hR:=hS.sr;have hlen:ds.length<=24:=zO (Z3 hn hm) (K9 (A2.2 hR));obtain⟨_,w2,_,_,w5,_⟩:=jQ hS.hr ds (by omega);refine⟨q.gd,q.nd,q.sl,q.ge,q.la,?_,q.se,q.ro,PJ hx q hm,q.p1.filter _,λp=>?_,?_⟩
 .show m.Places=(((lf x.T ds).1.length:Nat):Int);rw[RQ hS.hr ds (by omega)];exact q.npl
 .show p∈List.filter _ _↔∃k v,Has (lf x.T ds).1 k v/\_;rw[zk,q.p2,zF];constructor
  .rintro⟨⟨k,v,h,rfl⟩,c⟩;exact⟨k,v,(w5 k v).2 ⟨λhk=>c (zq.2 ⟨k,hk,rfl⟩),h⟩,rfl⟩
  .rintro⟨k,v,h,rfl⟩;obtain⟨h1,h2⟩:=(w5 k v).1 h;refine⟨⟨k,v,h2,rfl⟩,λc=>?_⟩;obtain⟨d,hd,e⟩:=zq.1 c;exact h1 (q.gd.inl hR (hm d hd) (hS.pr _ _ h2).1 e▸hd)
 .show m.Tasks++jr m.b7 (ds.map σ)=(x.Q.L++jr x.b7 ds).map (tx σ);rw[mt,q.tk,PL hx q hm];congr 1;conv=>lhs;rw[<-List.map_id (jr x.b7 ds)]
  refine zt λt ht=>?_;obtain⟨w,_,rfl,_⟩:=gB.1 ht;unfold tx;rw[za (show ¬(2:Int)=1 by decide)];rfl
theorem r8.gK{ds:List Int}(hn:ds.Nodup)(hm:∀d∈ds,d∈lv x.S)(hs:∀d∈ds,(ob x.S d).Strong<12):r8 σ (gK x ds) (AA m (ds.map σ)):=by
 have hS:=hx.sh;have hR:=hS.sr;unfold Sh.gK AA;refine r8.WS (x:=jo x ds (lf x.T ds).1) _ (eH ds hR hn hm).sr ?_;have q1:=q.RW hx hn hm;have:=r8.TV (x:=(⟨x.S,x.Roots,lk x.b7 ds,(lf x.T ds).1,⟨x.Q.L++jr x.b7 ds,x.Q.Cap⟩⟩:Hp)) ds hR q1 hn (λd hd=>⟨hm d hd,hs d hd,?_⟩) λd hd c hc e=>?_;·exact this
 .show (ob x.S d).Weak=(Sh.jd (lk x.b7 ds) d:Int);have p:=o6 hR (hm d hd);rw[CN,F1 hR p];have:=(hx.wk _ p.1 p.d.2.1).1;rw[<-p.2.2] at this;exact this
 .refine q.gd.Vx hR ?_ (.inr ⟨_,(o6 hR (hm d hd)).d⟩) e;have hc:c∈lk x.b7 ds:=hc;unfold lk at hc;obtain⟨c',hc',rfl⟩:=zq.1 hc;rw[(ow ds c').1];exact lj hS hc'
end
def Fq(n:b8):b8:=⟨n.Serial,n.Slot,n.Prog,true,n.Alive,n.Stuck,n.Fields⟩
def GS(m:a8)(s:Int):Int:=((m.Nodes.find? λn=>n.Serial==s).map (·.Prog)).getD 0
def qz(m:a8)(s:Int):a8:=FC (xn (fN m s) (fF (fN m s).Nodes s Fq)) (m.Tasks ++ [⟨1,s,GS m s⟩])
theorem HV(s:Int){f g:b8->b8}(hf:∀n,(f n).Serial=n.Serial)(l:List b8):fF (fF l s f) s g=fF l s (λn=>g (f n)):=by
 unfold fF;rw[za2];refine zt λn _=>?_;by_cases e:n.Serial=s
 .have h1:(f n).Serial=s:=(hf n).trans e;simp only[Function.comp,zb e,zb h1]
 .simp only[Function.comp,za e]
theorem r8.gF{σ:Int->Int}{x:Hp}{m:a8}(hS:jY x)(hf:aI x [])(q:r8 σ x m){h:Int}(hh:h∈lv x.S):r8 σ (gF x h) (qz m (σ h)):=by
 have hR:=hS.sr;have ho:=J9 hR hh;have p:=o6 hR hh;have hno:As x.S (fA (ob x.S h)):=⟨ho.s1,ho.s2,ho.st,ho.wk,ho.p1,ho.p2,ho.fl⟩;have q1:=q.put (o:=fA (ob x.S h)) hR hh rfl hno (f:=Fq) (by
  unfold Sh.nd Fq;rw[F1 hR p,zD p.2.1])
 have hpr:GS m (σ h)=(ob x.S h).Prog:=by
  unfold GS;rw[q.find hR p.d,F1 hR p];rfl
 have q2:r8 σ (⟨cU x.S h (fA (ob x.S h)),x.Roots,x.b7,x.T,⟨x.Q.L ++ [Aw x h],x.Q.Cap⟩⟩:Hp) (FC (xn m (fF m.Nodes (σ h) Fq)) (m.Tasks ++ [⟨1,σ h,GS m (σ h)⟩])):=by
  refine⟨q1.gd,q1.nd,q1.sl,q1.ge,q1.la,q1.npl,q1.se,q1.ro,q1.ce,q1.p1,q1.p2,?_⟩;show m.Tasks++_=(x.Q.L ++ [Aw x h]).map (tx σ);rw[mt,q.tk,hpr];congr 1
 have hR1:SR (cU x.S h (fA (ob x.S h))):=bP hR hh rfl hno;have hl1:h∈lv (cU x.S h (fA (ob x.S h))):=by rw[iD (o:=fA (ob x.S h)) hR hh rfl hno];exact hh
 have q3:=q2.UY hR1 (h:=h) (.inr hl1) (k:=DL m (σ h)) (λ_ hs=>by
  have e:ob (cU x.S h (fA (ob x.S h))) h=fA (ob x.S h):=by
   rw[gi (o:=fA (ob x.S h)) hR hh rfl hno (by have:=H6 hR hh;omega),zb rfl]
  change (ob (cU x.S h (fA (ob x.S h))) h).Strong<12 at hs
  show (ob (cU x.S h (fA (ob x.S h))) h).Strong=_;rw[e] at hs |-;rw[q.lK hS hh];show (ob x.S h).Strong=_;rw[hf h hh hs,H9];rfl)
 have e:(if σ h≠0/\11<=DL m (σ h) then ug (FC (xn m (fF m.Nodes (σ h) Fq)) (m.Tasks ++ [⟨1,σ h,GS m (σ h)⟩])) (σ h) else (FC (xn m (fF m.Nodes (σ h) Fq)) (m.Tasks ++ [⟨1,σ h,GS m (σ h)⟩])))=qz m (σ h):=by
  unfold qz fN;split
  .unfold ug;dsimp only;rw[HV (f:=Fq) _ (λ_=>rfl),HV (f:=Dv) _ (λ_=>rfl)];rfl
  .rfl
 rw[e] at q3;exact q3
def GJ(m:a8)(i n:Nat)(p:Int):a8:=⟨m.Nodes ++ [⟨m.Serial+1,i,p,false,true,false,List.replicate n 0⟩],m.Slots.set i (m.Serial+1),m.Gens,m.Last,m.Places,m.Serial+1,m.Roots,m.b7,m.Pairs,m.Tasks,m.Progs⟩
theorem r8.mk'{σ:Int->Int}{x:Hp}{m:a8}(hx:K0 x)(q:r8 σ x m){i:Nat}(hi:i<x.S.S.b7.length)(h0:(Sh.ce x.S i).State=0){n:Nat}(hn:n<=4){p:Int}(hp : -1<=p/\p<=5) :
  ∃σ',r8 σ' (wS x (dp x.S i n p)) (GJ m i n p)/\σ' (bX x.S i)=x.S.Serial+1:=by
 have hS:=hx.sh;have hR:=hS.sr;have hc:=λj=>lG hR hi h0 hn hp j;have hl:=jC hR hi h0 hn hp;have hT0:¬Th (Sh.ce x.S i):=by unfold Th;rw[h0];decide
 have hpos:=ta hR hi;have old:∀ {k:Int} {j:Nat},T9 x.S k j->k≠bX x.S i:=λ{k j} a e=>by
  have hj:=yq hR hi h0 hn hp a;have h1:=a.2.2;rw[e] at h1;unfold bX at h1;have:=a.1;have:=hR.len;omega
 refine⟨λh=>if h=bX x.S i then x.S.Serial+1 else σ h,?_,zb rfl⟩;generalize hσ:(λh=>if h=bX x.S i then x.S.Serial+1 else σ h)=σ';have sn:σ' (bX x.S i)=x.S.Serial+1:=by subst hσ;exact zb rfl
 have so:∀k,(k=0\/∃j,T9 x.S k j)->σ' k=σ k:=λk hk=>by
  subst hσ;refine za ?_;rcases hk with e | ⟨j,a⟩
  .omega
  .exact old a
 have nd':∀j,Th (Sh.ce x.S j)->j<x.S.S.b7.length->Sh.nd σ' x.S j=Sh.nd σ x.S j:=λj hj hjl=>by
  unfold Sh.nd;congr 1;refine zt λv hv=>so v ?_;rcases hj with h1 | h2
  .have hA:At x.S (bX x.S j) j:=⟨hjl,h1,rfl⟩;have hlv:=(gR hR).2 ⟨j,hA⟩;rw[<-F1 hR hA] at hv;exact MP hR q.gd (hS.fl _ hlv v hv)
  .rw[((hx.wk j hjl (.inr h2)).2 h2).2.1] at hv;cases hv
 have sn0:Sn σ' x.S m.Nodes:=⟨q.nd.up,λk=>(q.nd.mem k).trans ⟨λ⟨j,a,b,c⟩=>⟨j,a,b,c.trans (nd' j b a).symm⟩,λ⟨j,a,b,c⟩=>⟨j,a,b,c.trans (nd' j b a)⟩⟩⟩;refine⟨⟨?_,λk j a=>?_⟩,?_,?_,?_,q.la,q.npl,?_,?_,?_,q.p1,λk=>?_,?_⟩;·rw[so 0 (.inl rfl)];exact q.gd.z
 .rcases (MX hR hi h0 hn hp).1 a with b | ⟨rfl,rfl⟩
  .rw[so k (.inr ⟨j,b⟩),q.gd.f k j b];show _=(Sh.ce (dp x.S i n p) j).Val.Serial;rw[hc,za (yq hR hi h0 hn hp b)]
  .rw[sn];show _=(Sh.ce (dp x.S j n p) j).Val.Serial;rw[hc,zb rfl]
 .have:=sn0.add (s':=dp x.S i n p) hR hi hl (λj hj=>by rw[hc,za hj]) hT0 (by rw[hc,zb rfl];exact .inl rfl) (by rw[hc,zb rfl];show x.S.Serial<x.S.Serial+1;omega);have e:Sh.nd σ' (dp x.S i n p) i=⟨m.Serial+1,i,p,false,true,false,List.replicate n 0⟩:=by
   unfold Sh.nd;rw[hc,zb rfl];dsimp only;rw[q.se,zD rfl,zY (by decide),zce,so 0 (.inl rfl),q.gd.z]
  rw[e] at this;exact this
 .show m.Slots.set i (m.Serial+1)=List.map (λj=>Oe (Sh.ce (dp x.S i n p) j)) (List.range (dp x.S i n p).S.b7.length);rw[hl,q.sl,vl,q.se];refine T4 λj hj=>?_;rw[hc];by_cases c:j=i
  .rw[zb c,zb c];rfl
  .rw[za c,za c]
 .show m.Gens=List.map (λj=>(Sh.ce (dp x.S i n p) j).Gen) (List.range (dp x.S i n p).S.b7.length);rw[hl,q.ge];refine T4 λj hj=>?_;rw[hc];split;·rename_i c;rw[c]
  .rfl
 .show m.Serial+1=x.S.Serial+1;rw[q.se]
 .show m.Roots=x.Roots.map σ';rw[q.ro];exact zt λv hv=>(so v (MP hR q.gd (hS.rt v hv))).symm
 .show m.b7=x.b7.map (wx σ');rw[q.ce];refine zt λc hcc=>?_;unfold wx;rw[so _ (lj hS hcc)]
 .show k∈m.Pairs↔∃a b,Has x.T a b/\k=⟨σ' a,σ' b⟩;rw[q.p2];have hh:∀a b,Has x.T a b->σ' a=σ a/\σ' b=σ b:=λa b h=>⟨so a (MP hR q.gd (.inr (hS.pr a b h).1)),so b (MP hR q.gd (.inr (hS.pr a b h).2))⟩;constructor
  .rintro⟨a,b,h,rfl⟩;exact⟨a,b,h,by rw[(hh a b h).1,(hh a b h).2]⟩
  .rintro⟨a,b,h,rfl⟩;exact⟨a,b,h,by rw[(hh a b h).1,(hh a b h).2]⟩
 .show m.Tasks=x.Q.L.map (tx σ');rw[q.tk];refine zt λt ht=>?_;unfold tx;split
  .rename_i c;rcases (hS.tk t ht).2.2 with d | d
   .rw[so _ (MP hR q.gd (.inr d.2.1))]
   .rw[d.1] at c;exact absurd c (by decide)
  .rfl
def RR(m:a8)(n:b8):Bool:=n.Alive&&(!n.Stuck&&DL m n.Serial==0)
def LV(n:b8):Bool:=decide (0<=n.Prog) && !n.Started
def rR(m:a8):a8:=match m.Nodes.find? (RR m) with
 | none=>m
 | some n=>if LV n then qz m n.Serial else AA m [n.Serial]
def gj:Nat->a8->a8
 | 0,m=>m
 | n+1,m=>gj n (rR m)
theorem ji(n:Nat)(m:a8):gj (n+1) m=rR (gj n m):=by
 induction n generalizing m with
 | zero=>rfl
 | succ n ih=>show gj (n+1) (rR m)=_;rw[ih];rfl
def kY(m:a8):a8:=gj 100 m
section
variable{σ:Int->Int}{x:Hp}{m:a8}(hx:K0 x)(q:r8 σ x m)
include hx q
theorem r8.zr:m.Nodes.find? (RR m)=(Sh.zr x).head?.map λh=>Sh.nd σ x.S (D7 h):=by
 have hR:=hx.sh.sr;have e:m.Nodes.filter (RR m)=(Sh.zr x).map λh=>Sh.nd σ x.S (D7 h):=by
  have:RR m=λn=>n.Alive&&(!n.Stuck&&DL m n.Serial==0):=rfl;rw[this,<-zan,zan,pm (λn _=>Bool.and_comm _ _),<-zan,q.nd.alive hR,zcs];congr 1;unfold Sh.zr;refine pm λh hh=>?_;have p:=o6 hR hh;show (!decide (12<=(Sh.ce x.S (D7 h)).Val.Strong)&&DL m (Sh.ce x.S (D7 h)).Val.Serial==0)=_;rw[<-q.gd.f h _ p.d,q.lK hx.sh hh,<-F1 hR p];by_cases c:(ob x.S h).Strong<12
  .have:=hx.fair h hh c;rw[H9] at this;rw[zY (by omega),za8];simp;omega
  .rw[zD (by omega),za8];simp;omega
 rw[<-List.head?_filter,e,List.head?_map]
theorem r8.FO:r8 σ (Sh.FO x) (rR m):=by
 have hR:=hx.sh.sr;unfold rR;rw[q.zr hx];cases e:Sh.zr x with
 | nil=>
  rw[ny e];exact q
 | cons z l=>
  rw[jN e];obtain⟨hz,h0⟩:=cT.1 (e▸zg:z∈Sh.zr x);have p:=o6 hR hz;show r8 σ _ (if LV (Sh.nd σ x.S (D7 z)) then qz m (Sh.ce x.S (D7 z)).Val.Serial else AA m [(Sh.ce x.S (D7 z)).Val.Serial]);rw[<-q.gd.f z _ p.d,F1 hR p];show r8 σ _ (if due (Sh.ce x.S (D7 z)).Val then _ else _);split;·exact q.gF hx.sh hx.fair hz
  .exact q.gK hx (ds:=[z]) (me.2 ⟨by simp,zb2⟩) (λd hd=>by rw[zp] at hd;rw[hd];exact hz) λd hd=>by
    rw[zp] at hd;rw[hd,h0];decide
end
theorem r8.oe{σ:Int->Int}{x:Hp}{m:a8}(hx:K0 x)(q:r8 σ x m):∀n,r8 σ (Sh.oe n x) (gj n m)
 | 0=>q
 | n+1=>by
  rw[Sh.fB,ji];exact (r8.oe hx q n).FO (P5 hx n)
theorem r8.bA{σ:Int->Int}{x:Hp}{m:a8}(hx:K0 x)(q:r8 σ x m):r8 σ (Sh.bA x) (kY m):=q.oe hx 100
theorem FZ{α:Type}{b:Nat}{acc:List α}{x:α}(hb:0<b)(h:(acc.length+1)*b<=140737488355328):app b acc [x]=some (acc ++ [x]):=K5 hb (by simpa using h)
theorem Ix{n b m:Nat}(h:n<=m)(hb:b<=1000)(hm:m<=1000000):n*b<=140737488355328:=by
 have h1:n*b<=1000000*1000:=Nat.mul_le_mul (by omega) hb;omega
theorem kE{α:Type}{b:Nat}{l:List α}{P:α->Option Bool}{p:α->Bool}(hP:∀x∈l,P x=some (p x))(hb:0<b)(hb2:b<=1000)(hl:l.length<=100000) :
  jn (λ(j15:List α)=>some j15) (λκ14=>
  (lp (S:=Int × (List α)) (E:=(List α)) (λ((s17,s18):Int × (List α))=>
   if (decide (s17<(l.length:Int))) then
    jn (λ(j25:List α)=>
     some (.inl (w9 (s17+1),j25))) (λκ24=>
     (ix l s17).bind λv26=>
     (P v26).bind λv27=>
     if v27 then
      (app b s18 [v26]).bind λv28=>
      κ24 v28
     else
     κ24 s18)
   else
   some (.inr s18)) (0,[])).bind λe16=>
  κ14 e16)=some (l.filter p):=by
 show (lp _ _).bind (λe16=>some e16)=_;rw[U7 (f:=_) l (λb x=>if p x then b ++ [x] else b) (λb=>b) (λk b=>b.length<=k) (by omega) (zV _) (λk hk b hb'=>?_) (λb _=>?_)];·rw[Yz,foldl_filter,zcg]
 .constructor
  .simp only[jn];rw[zb (by simpa using hk),u5 hk,Yz,hP _ (zh hk),Yz,o5 (by omega)];by_cases c:p l[k]=true
   .rw[c,zb rfl,zb rfl,FZ hb (Ix (m:=1000000) (by omega) hb2 (by omega)),Yz]
   .rw[Bool.not_eq_true] at c;rw[c,za (by simp),za (by simp)]
  .split;·simp;omega
   .omega
 .simp only[];rw[za (by simp)]
theorem map_eq{α β:Type}{b:Nat}{l:List α}{P:α->Option β}{p:α->β}(hP:∀x∈l,P x=some (p x))(hb:0<b)(hb2:b<=1000)(hl:l.length<=100000) :
  jn (λ(j10:List β)=>some j10) (λκ9=>
  (lp (S:=Int × (List β)) (E:=(List β)) (λ((s12,s13):Int × (List β))=>
   if (decide (s12<(l.length:Int))) then
    (ix l s12).bind λv16=>
    (P v16).bind λv17=>
    (app b s13 [v17]).bind λv18=>
    some (.inl (w9 (s12+1),v18))
   else
   some (.inr s13)) (0,[])).bind λe11=>
  κ9 e11)=some (l.map p):=by
 show (lp _ _).bind (λe16=>some e16)=_;have key:∀(l:List α) (acc:List β),l.foldl (λb x=>b ++ [p x]) acc=acc++l.map p:=by
  intro l;induction l with
  | nil=>intro acc;simp
  | cons x l ih=>intro acc;rw[zah,ih];simp
 rw[U7 (f:=_) l (λb x=>b ++ [p x]) (λb=>b) (λk b=>b.length<=k) (by omega) (zV _) (λk hk b hb'=>?_) (λb _=>?_)];·rw[Yz,key,zcg]
 .constructor
  .simp only[];rw[zb (by simpa using hk),u5 hk,Yz,hP _ (zh hk),Yz,FZ hb (Ix (m:=1000000) (by omega) hb2 (by omega)),Yz,o5 (by omega)]
  .simp;omega
 .simp only[];rw[za (by simp)]
theorem Et{α:Type}{l:List α}{P:α->Option Bool}{p:α->Bool}(hP:∀x∈l,P x=some (p x))(hl:l.length<=1000){a:α}(h:l.find? p=some a):∃k:Nat,∃hk:k<l.length,l[k]=a /\
  jn (λ(_:Unit)=>some (-1)) (λκ6=>
  (lp (S:=Int) (E:=Int ⊕ Unit) (λ(s9:Int)=>
   if (decide (s9<(l.length:Int))) then
    (ix l s9).bind λv11=>
    (P v11).bind λv12=>
    if v12 then
     some (.inr (.inl s9))
    else
    some (.inl (w9 (s9+1)))
   else
   some (.inr (.inr ()))) 0).bind λe8=>
  match e8 with
  | .inl w=>some w
  | .inr w=>κ6 w)=some (k:Int):=by
 obtain⟨h1,k,hk,e,hn⟩:=List.find?_eq_some_iff_getElem.1 h;refine⟨k,hk,e,?_⟩;simp only[jn];refine fU l.length (λi=>i<=k) (by omega) (zV _) (λi hi hik=>?_) (λhlk=>by omega);rw[zb (by simpa using hi),u5 hi,Yz,hP _ (zh hi),Yz];rcases zE i k with c | c
 .left;have:=hn i c;simp only[zb7] at this;rw[this,za (by simp),o5 (by omega)];exact⟨rfl,c⟩
 .have:i=k:=by omega
  subst this;right;rw[e,h1,zb rfl];exact⟨_,rfl,rfl⟩
theorem Es{α:Type}{l:List α}{P:α->Option Bool}{p:α->Bool}(hP:∀x∈l,P x=some (p x))(hl:l.length<=1000)(h:l.find? p=none) :
  jn (λ(_:Unit)=>some (-1)) (λκ6=>
  (lp (S:=Int) (E:=Int ⊕ Unit) (λ(s9:Int)=>
   if (decide (s9<(l.length:Int))) then
    (ix l s9).bind λv11=>
    (P v11).bind λv12=>
    if v12 then
     some (.inr (.inl s9))
    else
    some (.inl (w9 (s9+1)))
   else
   some (.inr (.inr ()))) 0).bind λe8=>
  match e8 with
  | .inl w=>some w
  | .inr w=>κ6 w)=some (-1:Int):=by
 rw[zcf] at h;simp only[jn];refine fU l.length (λ_=>True) (by omega) trivial (λi hi _=>.inl ⟨?_,trivial⟩) (λ_=>⟨.inr (),by simp,rfl⟩);have:=h _ (zh hi);rw[Bool.not_eq_true] at this;rw[zb (by simpa using hi),u5 hi,Yz,hP _ (zh hi),Yz,this,za (by simp),o5 (by omega)]
theorem kp{E R:Type}{x:Option E}{e:E}{K:E->Option R}(h:x.bind some=some e):x.bind K=K e:=by
 cases x with
 | none=>cases h
 | some v=>obtain rfl:=zJ h;rfl
theorem DU{α R:Type}{b:Nat}{l:List (List α)}(hb:0<b)(hb2:b<=1000)(hl:l.length<=1000)(hs:l.flatten.length<=100000){K:List α->Option R} :
  (lp (S:=Int × (List α)) (E:=(List α)) (λ((s25,s26):Int × (List α))=>
      if (decide (s25<(l.length:Int))) then
       (ix l s25).bind λv29=>
       (app b s26 v29).bind λv30=>
       some (.inl (w9 (s25+1),v30))
      else
      some (.inr s26)) (0,[])).bind K=K l.flatten:=by
 refine kp (ca (t0:=([]:List α)) l.length (λk acc=>acc=(l.take k).flatten) (by omega) (by simp) (λk acc hk e=>.inl ⟨(l.take (k+1)).flatten,?_,rfl⟩) (λacc e=>⟨l.flatten,?_,rfl⟩))
 .subst e;have h2:(l.take (k+1)).flatten=(l.take k).flatten++l[k]:=by
   rw[zx hk,zbx];simp
  have h3:(l.take (k+1)).flatten.length<=l.flatten.length:=by
   conv=>rhs;rw[<-zb3 (k+1) l,zbx,zL]
   omega
  simp only[];rw[zb (by simpa using hk),u5 hk,Yz,K5 hb (Ix (m:=100000) (by rw[h2,zL] at h3;omega) hb2 (by omega)),Yz,o5 (by omega),h2]
 .subst e;simp only[];rw[za (by simp),zU]
theorem PG{R:Type}{α:Type}{l:List (List α)}(hl:l.length<=1000)(hs:l.flatten.length<=100000){K:Int->Option R} :
  (lp (S:=Int × Int) (E:=Int) (λ((s48,s49):Int × Int)=>
   if (decide (s49<(l.length:Int))) then
    jn (λ(j54:Int)=>
     some (.inl (j54,w9 (s49+1)))) (λκ53=>
     (ix l s49).bind λv55=>
     if (decide ((w9 (s48+(v55.length:Int)))<0)) then
      none
     else
     κ53 (w9 (s48+(v55.length:Int))))
   else
   some (.inr s48)) (0,0)).bind K=K (l.flatten.length:Int):=by
 refine kp (Qv (t0:=(0:Int)) l.length (λk acc=>acc=((l.take k).flatten.length:Int)) (by omega) (by simp) (λk acc hk e=>⟨((l.take (k+1)).flatten.length:Int),?_,rfl⟩) (λacc e=>⟨(l.flatten.length:Int),?_,rfl⟩))
 .subst e;have h2:(l.take (k+1)).flatten.length=(l.take k).flatten.length+l[k].length:=by
   rw[zx hk,zbx];simp
  have h3:(l.take (k+1)).flatten.length<=l.flatten.length:=by
   conv=>rhs;rw[<-zb3 (k+1) l,zbx,zL]
   omega
  simp only[jn];rw[zb (by simpa using hk),u5 hk,Yz,vy (by omega) (by omega),za (by simp;omega),o5 (by omega),h2];congr 4
 .subst e;simp only[];rw[za (by simp),zU]
theorem Gf{α:Type}{b:Nat}{z:α}{l:List (List α)}(hb:0<b)(hb2:b<=1000)(hl:l.length<=1000)(hs:l.flatten.length<=100000) :
 jn (λ(j11:Int)=>
  jn (λ(_:Unit)=>
   if (decide ((w9 (j11-(w9 (0-0)))) > 0)) then
    (mk b (w9 (j11-(w9 (0-0)))) z).bind λv14=>
    jn (λ(j23:List α)=>
     some j23) (λκ22=>
     (lp (S:=Int × (List α)) (E:=(List α)) (λ((s25,s26):Int × (List α))=>
      if (decide (s25<(l.length:Int))) then
       (ix l s25).bind λv29=>
       (app b s26 v29).bind λv30=>
       some (.inl (w9 (s25+1),v30))
      else
      some (.inr s26)) (0,[])).bind λe24=>
     κ22 e24)
   else
   jn (λ(j39:List α)=>
    some j39) (λκ38=>
    (lp (S:=Int × (List α)) (E:=(List α)) (λ((s41,s42):Int × (List α))=>
     if (decide (s41<(l.length:Int))) then
      (ix l s41).bind λv45=>
      (app b s42 v45).bind λv46=>
      some (.inl (w9 (s41+1),v46))
     else
     some (.inr s42)) (0,[])).bind λe40=>
    κ38 e40)) (λκ12=>
   if (decide (j11<0)) then
    none
   else
   κ12 ())) (λκ10=>
  (lp (S:=Int × Int) (E:=Int) (λ((s48,s49):Int × Int)=>
   if (decide (s49<(l.length:Int))) then
    jn (λ(j54:Int)=>
     some (.inl (j54,w9 (s49+1)))) (λκ53=>
     (ix l s49).bind λv55=>
     if (decide ((w9 (s48+(v55.length:Int)))<0)) then
      none
     else
     κ53 (w9 (s48+(v55.length:Int))))
   else
   some (.inr s48)) (0,0)).bind λe47=>
  κ10 e47)=some l.flatten:=by
 refine (PG hl hs).trans ?_;simp only[jn];have h0:w9 (0-0)=0:=rfl;rw[za (by simp),h0,Int.sub_zero,vy (by omega) (by omega)];have hm:mk b ((l.flatten.length:Nat):Int) z=some (List.replicate l.flatten.length z):=ky (by rw[Nat.mul_comm];have:=Ix (n:=l.flatten.length) (m:=100000) hs hb2 (by omega);omega) (by omega);split
 .rw[hm,Yz];exact DU hb hb2 hl hs
 .exact DU hb hb2 hl hs
structure Bn (m:a8):Prop where
 nl:m.Nodes.length<=24
 up:m.Nodes.Pairwise λa b=>a.Serial<b.Serial
 fl:∀n∈m.Nodes,n.Fields.length<=4
 sg:∀n∈m.Nodes,0<=n.Slot/\n.Slot.toNat<m.Slots.length/\n.Slot.toNat<m.Gens.length
 gg:∀g∈m.Gens,0<=g/\g<=9
 gl:m.Slots.length<=24/\m.Gens.length<=24
structure Bl (m:a8):Prop where
 rl:m.Roots.length<=30
 wl:m.b7.length<=30
 pa:m.Pairs.length<=30
 tl:m.Tasks.length<=200
theorem r8.bn{σ:Int->Int}{x:Hp}{m:a8}(hR:SR x.S)(q:r8 σ x m):Bn m:=by
 refine⟨q.nd.len hR,q.nd.up,λn hn=>?_,λn hn=>?_,λg hg=>?_,?_,?_⟩
 .obtain⟨i,hi,ti,rfl⟩:=(q.nd.mem n).1 hn;show ((Sh.ce x.S i).Val.Fields.map σ).length<=4;rw[zl];exact (hR.ok i hi ti).fl
 .obtain⟨i,hi,ti,rfl⟩:=(q.nd.mem n).1 hn;rw[q.sl,q.ge,zl,zl,zb9];unfold Sh.nd;simp;exact hi
 .rw[q.ge] at hg;obtain⟨i,hi,rfl⟩:=zq.1 hg;have:=hR.cell i (za6.1 hi);have:=hR.l9;omega
 .rw[q.sl,zl,zb9];exact hR.len
 .rw[q.ge,zl,zb9];exact hR.len
theorem r8.bl{σ:Int->Int}{x:Hp}{m:a8}(hS:jY x)(q:r8 σ x m):Bl m:=by
 refine⟨?_,?_,?_,?_⟩;·rw[q.ro,zl,hS.r6];omega
 .rw[q.ce,zl,hS.c6];omega
 .rw[(q.perm hS).length_eq,zl];have:=rK hS.hr.l8;omega
 .rw[q.tk,zl];have:=hS.q30;omega
theorem WC(m:a8):DL m 0=0:=by
 have h:∀l:List Int,Q0 l 0=0:=λl=>by unfold Q0;rw[zb rfl]
 unfold DL;rw[h,h,h];have:((m.Nodes.filter (·.Alive)).map λn=>Q0 n.Fields 0)=(m.Nodes.filter (·.Alive)).map λ_=>0:=zt λn _=>h _;rw[this];have hz:∀l:List b8,(l.map λ_=>0).sum=0:=λl=>by
  induction l with
  | nil=>rfl
  | cons a l ih=>rw[zR,zbd,ih]
 rw[hz]
theorem yo(m:a8):W4 m=some ⟨m.Tasks,30⟩:=rfl
theorem IA{m:a8}(B:Bn m):B0 m.Nodes=some (m.Nodes.filter (·.Alive)):=by
 unfold B0;exact kE (λn _=>rfl) (by omega) (by omega) (by have:=B.nl;omega)
theorem Mh:∀(l:List b8),(∀n∈l,n.Fields.length<=4)->(l.map (·.Fields)).flatten.length<=4*l.length
 | [],_=>by simp
 | n::l,h=>by
  have h1:=Mh l λk hk=>h k (zn _ hk);have h2:=h n zg;simp only[zR,List.flatten_cons,zL,zH];omega
theorem vQ(y:Int):∀l:List b8,Q0 (l.map (·.Fields)).flatten y=(l.map λn=>Q0 n.Fields y).sum
 | []=>H9 y
 | x::l=>by rw[zR,List.flatten_cons,F9,vQ y l,zR,zbd]
theorem IB{m:a8}(B:Bn m)(C:Bl m)(s:Int):dT m s=some (DL m s:Int):=by
 have hv:B5 m.Pairs=some (m.Pairs.map (·.Val)):=by
  unfold B5;exact map_eq (λn _=>rfl) (by omega) (by omega) (by have:=C.pa;omega)
 have hh:gk ⟨m.Tasks,30⟩=some (jV m):=Oi (q:=⟨m.Tasks,30⟩) (by have:=C.tl;show m.Tasks.length<=1000;omega);have hal:(m.Nodes.filter (·.Alive)).length<=24:=zO (zB ..) B.nl;have hfl:((m.Nodes.filter (·.Alive)).map (·.Fields)).flatten.length<=96:=by
  have:=Mh (m.Nodes.filter (·.Alive)) λn hn=>B.fl n (zk.1 hn).1;omega
 have Kg:(jV m).length<=200:=by
  unfold jV oR;rw[zl];exact zO (zB ..) C.tl
 have eN:(m.Pairs.map (·.Val)).length<=30:=by rw[zl];exact C.pa
 unfold dT;simp only[jn];rw[show kz m=some m from rfl,Yz,hv,Yz,yo,Yz,hh,Yz,IA B,Yz];refine (kp (e:=[m.Roots,m.Pairs.map (·.Val),jV m]++(m.Nodes.filter (·.Alive)).map (·.Fields)) (ca (t0:=[m.Roots,m.Pairs.map (·.Val),jV m]) (m.Nodes.filter (·.Alive)).length (λk acc=>acc = [m.Roots,m.Pairs.map (·.Val),jV m]++((m.Nodes.filter (·.Alive)).take k).map (·.Fields)) (by omega) (by simp) (λk acc hk e=>.inl ⟨_,?_,rfl⟩) (λacc e=>⟨acc,?_,?_⟩))).trans ?_
 .subst e;simp only[];rw[zb (by simpa using hk),u5 hk,Yz,FZ (by omega) (by
   rw[zL,zl,zav];simp;omega),Yz,o5 (by omega),zx hk,mt,zag]
  rfl
 .simp only[];rw[za (by simp)]
 .subst e;rw[zU]
 .have hlen:([m.Roots,m.Pairs.map (·.Val),jV m]++(m.Nodes.filter (·.Alive)).map (·.Fields)).length<=30:=by
   rw[zL,zl];simp;omega
  have hfla:([m.Roots,m.Pairs.map (·.Val),jV m]++(m.Nodes.filter (·.Alive)).map (·.Fields)).flatten.length<=400:=by
   rw[zbx,zL];simp only[List.flatten_cons,List.flatten_nil,zau,zL];have:=C.rl;omega
  have hc:F7 ([m.Roots,m.Pairs.map (·.Val),jV m]++(m.Nodes.filter (·.Alive)).map (·.Fields))=some ([m.Roots,m.Pairs.map (·.Val),jV m]++(m.Nodes.filter (·.Alive)).map (·.Fields)).flatten:=by
   unfold F7;exact Gf (by omega) (by omega) (by omega) (by omega)
  rw[hc,Yz];have hn:DL m s=Q0 ([m.Roots,m.Pairs.map (·.Val),jV m]++(m.Nodes.filter (·.Alive)).map (·.Fields)).flatten s:=by
   rw[zbx,F9,vQ];simp only[List.flatten_cons,List.flatten_nil,zau,F9];unfold DL;omega
  rw[hn];generalize ([m.Roots,m.Pairs.map (·.Val),jV m]++(m.Nodes.filter (·.Alive)).map (·.Fields)).flatten=l at hfla |-;refine ca (t0:=(0:Int)) l.length (λk acc=>acc=(Q0 (l.take k) s:Int)) (by omega) (by simp[H9]) (λk acc hk e=>.inl ⟨_,?_,rfl⟩) (λacc e=>⟨_,?_,rfl⟩)
  .subst e;have hlt:=Hl (l.take k) s;rw[zav] at hlt;rw[zx hk,F9,H2,H9];simp only[];rw[zb (by simpa using hk),u5 hk,Yz,o5 (by omega)];by_cases c:l[k]=s/\s≠0
   .rw[zb (by simpa using ⟨c.2,c.1⟩),zb c,vy (by omega) (by omega)];congr 4
   .rw[za (by simpa using λa b=>c ⟨b,a⟩),za c];rfl
  .subst e;simp only[];rw[za (by simp),zU]
theorem yk{m:a8}(B:Bn m){s:Int}{n:b8}(h:m.Nodes.find? (λn=>n.Serial==s)=some n):∃k:Nat,∃hk:k<m.Nodes.length,m.Nodes[k]=n/\J0 m s=some (k:Int):=by
 obtain⟨k,hk,e,r⟩:=Et (P:=λa=>fe a s) (p:=λn=>n.Serial==s) (λn _=>rfl) (by have:=B.nl;omega) h;refine⟨k,hk,e,?_⟩;unfold J0 y9;exact rX r rfl
theorem Qy{m:a8}(B:Bn m){s:Int}(h:m.Nodes.find? (λn=>n.Serial==s)=none):J0 m s=some (-1):=by
 have r:=Es (P:=λa=>fe a s) (p:=λn=>n.Serial==s) (λn _=>rfl) (by have:=B.nl;omega) h;unfold J0 y9;exact rX r rfl
theorem lz{l:List b8}{s:Int}{n:b8}(h:l.find? (λn=>n.Serial==s)=some n):n.Serial=s/\n∈l:=by
 have:=List.find?_some h;exact⟨by simpa using this,List.mem_of_find?_eq_some h⟩
theorem PH{l:List b8}(up:l.Pairwise λa b=>a.Serial<b.Serial){k:Nat}(hk:k<l.length){s:Int}(hs:l[k].Serial=s)(f:b8->b8):l.set k (f l[k])=fF l s f:=by
 unfold fF;refine zb1 (by simp) λj h1 h2=>?_;rw[zcp,t7];rw[zl] at h2;by_cases c:k=j
 .subst c;rw[zb rfl,zb hs]
 .have hne:l[j].Serial≠s:=by
   rw[<-hs];rcases zE k j with d | d
   .have:=za4.1 up k j hk h2 d;omega
   .have:=za4.1 up j k h2 hk (by omega);omega
  rw[za c,za hne]
theorem su{m:a8}(B:Bn m){s:Int}{n:b8}(h:m.Nodes.find? (λn=>n.Serial==s)=some n){F:b8->Option b8}{f:b8->b8}(hF:∀k,F k=some (f k)) :
  ((J0 m s).bind λv1=>(r7 m.Nodes).bind λv2=>(ix v2 v1).bind λv3=>(F v3).bind λv4=>
   some (⟨(v2.set (v1).toNat v4),m.Slots,m.Gens,m.Last,m.Places,m.Serial,m.Roots,m.b7,m.Pairs,m.Tasks,m.Progs⟩:a8))=some (xn m (fF m.Nodes s f)):=by
 obtain⟨k,hk,e,r⟩:=yk B h;have hc:r7 m.Nodes=some m.Nodes:=dm (by omega) (Ix (m:=24) B.nl (by omega) (by omega));rw[r,Yz,hc,Yz,u5 hk,Yz,hF,Yz];rw[zP,PH B.up hk (s:=s) (by rw[e];exact (lz h).1)]
theorem Qz{m:a8}(B:Bn m){s:Int}{n:b8}(h:m.Nodes.find? (λn=>n.Serial==s)=some n):Q9 m s=some (ug m s):=su B h λ_=>rfl
theorem Ud{m:a8}(B:Bn m){s:Int}{n:b8}(h:m.Nodes.find? (λn=>n.Serial==s)=some n):M8 m s=some (xn m (fF m.Nodes s Fq)):=su B h λ_=>rfl
theorem Wp{m:a8}(B:Bn m){s:Int}{n:b8}(h:m.Nodes.find? (λn=>n.Serial==s)=some n):C7 m s=some (xn m (fF m.Nodes s lr)):=su B h λ_=>rfl
theorem Uc{m:a8}(B:Bn m){s:Int}{n:b8}(h:m.Nodes.find? (λn=>n.Serial==s)=some n)(l:List Int):O5 m s l=some (xn m (fF m.Nodes s λn=>VY n l)):=su B h (F:=λk=>fg k l) λ_=>rfl
theorem Bn.fF{m:a8}(B:Bn m){s:Int}{f:b8->b8}(h:∀n∈m.Nodes,n.Serial=s->(f n).Serial=n.Serial/\(f n).Slot=n.Slot/\(f n).Fields.length<=4):Bn (xn m (Sh.fF m.Nodes s f)):=by
 have hser:∀n∈m.Nodes,(if n.Serial=s then f n else n).Serial=n.Serial/\(if n.Serial=s then f n else n).Slot=n.Slot/\(if n.Serial=s then f n else n).Fields.length<=4:=λn hn=>by
  split;·rename_i e;exact h n hn e
  .exact⟨rfl,rfl,B.fl n hn⟩
 refine⟨by show (Sh.fF m.Nodes s f).length<=24;unfold Sh.fF;rw[zl];exact B.nl,?_,λn hn=>?_,λn hn=>?_,B.gg,B.gl⟩
 .show (Sh.fF m.Nodes s f).Pairwise _;unfold Sh.fF;rw[zbt];refine zbp (λ{a b} ha hb q=>?_) B.up;rw[(hser a ha).1,(hser b hb).1];exact q
 .obtain⟨k,hk,rfl⟩:=zq.1 (show n∈Sh.fF m.Nodes s f from hn);exact (hser k hk).2.2
 .obtain⟨k,hk,rfl⟩:=zq.1 (show n∈Sh.fF m.Nodes s f from hn);rw[(hser k hk).2.1];exact B.sg k hk
theorem Bn.fN{m:a8}(B:Bn m)(s:Int):Bn (fN m s):=by
 unfold Sh.fN;split;·exact B.fF λn hn _=>⟨rfl,rfl,B.fl n hn⟩
 .exact B
theorem CI{m:a8}(B:Bn m)(C:Bl m){s:Int}(h:s=0\/∃n,m.Nodes.find? (λn=>n.Serial==s)=some n):dH m s=some (fN m s):=by
 unfold dH fN;rw[IB B C,Yz];by_cases c:DL m s<11
 .rw[zb (by simp;omega),za (by omega)]
 .have h0:s≠0:=λe=>by subst e;rw[WC] at c;omega
  obtain⟨n,hn⟩:=h.resolve_left h0;rw[za (by simp;omega),zb ⟨h0,by omega⟩,Qz B hn,Yz]
theorem ym{m:a8}(B:Bn m)(C:Bl m){s:Int}(h:s=0\/∃n,m.Nodes.find? (λn=>n.Serial==s)=some n){r:Nat}(hr:r<m.Roots.length):V1 m r s=some (de m r s):=by
 have hro:(fN m s).Roots=m.Roots:=by rw[aJ]
 have hc:y7 m.Roots=some m.Roots:=dm (by omega) (Ix (m:=30) C.rl (by omega) (by omega));unfold V1;rw[CI B C h,Yz,hro,hc,Yz,u5 hr,Yz,zP];rfl
theorem Mf{m:a8}{s:Int}{n:b8}(h:m.Nodes.find? (λn=>n.Serial==s)=some n):∃n',(fN m s).Nodes.find? (λn=>n.Serial==s)=some n'/\n'.Prog=n.Prog:=by
 unfold fN;split
 .refine⟨Dv n,?_,rfl⟩;show (fF m.Nodes s Dv).find? _=_;rw[xM _ (f:=Dv) (λ_=>rfl),h];rfl
 .exact⟨n,h,rfl⟩
theorem Bv{m:a8}(B:Bn m)(C:Bl m){s:Int}{n:b8}(h:m.Nodes.find? (λn=>n.Serial==s)=some n):aX m s=some (qz m s):=by
 obtain⟨n',hn',ep⟩:=Mf h;have B':=B.fN s;obtain⟨k,hk,e,r⟩:=yk B' hn';unfold aX;rw[CI B C (.inr ⟨n,h⟩),Yz,r,Yz,u5 hk,Yz,e,Ud B' hn',Yz];have ht:(fN m s).Tasks=m.Tasks:=by rw[aJ]
 have hc:G3 m.Tasks=some m.Tasks:=dm (by omega) (Ix (m:=200) C.tl (by omega) (by omega));dsimp only;rw[ht,hc,Yz,FZ (by omega) (Ix (m:=201) (by have:=C.tl;omega) (by omega) (by omega)),Yz,ep];unfold qz GS;rw[h];rw[aJ];rfl
theorem yl{m:a8}(B:Bn m)(C:Bl m)(s:Int):O6 m s=some (DS m s):=by
 unfold O6;cases h:m.Nodes.find? (λn=>n.Serial==s) with
 | none=>
  rw[Qy B h,Yz,LC h];simp[D4]
 | some n=>
  obtain⟨k,hk,e,r⟩:=yk B h;obtain⟨hs,hm⟩:=lz h;have hd:decide ((k:Int)<0)=false:=zY (by omega);rw[r,Yz,hd,Ga h];rw[show (false==false)=true from rfl,iI,u5 hk,Yz,e,zca];have hnm:dZ m.b7 s=some (jd m.b7 s:Int):=Kt _ (by have:=C.wl;omega) s;cases ha:n.Alive
  .rw[show (false==false)=true from rfl,iI,hnm,Yz,zca];by_cases c:0<jd m.b7 s
   .rw[zb (by simpa using c),zb (.inr c)]
   .rw[za (by simpa using c),za (by simp[c])];obtain⟨g1,g2,g3⟩:=B.sg n hm;have hp:C4 m.Nodes s=some (m.Nodes.filter λk=>k.Serial != s):=by
     unfold C4;exact kE (P:=λa=>ck a s) (λn _=>rfl) (by omega) (by omega) (by have:=B.nl;omega)
    have hc1:y7 m.Slots=some m.Slots:=dm (by omega) (Ix (m:=24) B.gl.1 (by omega) (by omega));have hc2:y7 m.Gens=some m.Gens:=dm (by omega) (Ix (m:=24) B.gl.2 (by omega) (by omega));rw[Yz,hp,Yz,hc1,Yz,hc2,Yz,MG g1 g3,Yz];have hg:m.Gens.getD n.Slot.toNat 0=m.Gens[n.Slot.toNat]:=by rw[zd,zc g3];rfl
    unfold El;rw[hg,hs];by_cases d:m.Gens[n.Slot.toNat]=m.Last
    .rw[zb (by simpa using d),MG g1 g2,Yz,zb d,zb d]
    .have hb:=B.gg _ (zh g3);rw[za (by simpa using d),MG g1 g2,Yz,za d,za d,vy (by omega) (by omega)]
  .rw[show (true==false)=false from rfl,IL,Yz];simp
theorem yh(m:a8)(s:Int):(qM m s).Roots=m.Roots/\(qM m s).b7=m.b7/\(qM m s).Pairs=m.Pairs/\(qM m s).Tasks=m.Tasks/\(qM m s).Progs=m.Progs:=by
 unfold qM DS;split;·exact⟨rfl,rfl,rfl,rfl,rfl⟩
 .split <;> exact⟨rfl,rfl,rfl,rfl,rfl⟩
theorem Bl.qM{m:a8}(C:Bl m)(s:Int):Bl (qM m s):=by
 obtain⟨a,b,c,d,_⟩:=yh m s;exact⟨by rw[a];exact C.rl,by rw[b];exact C.wl,by rw[c];exact C.pa,by rw[d];exact C.tl⟩
theorem Wq{m:a8}(B:Bn m)(C:Bl m){s:Int}{n:b8}(h:m.Nodes.find? (λn=>n.Serial==s)=some n):((C7 m s).bind λv21=>O6 v21 s)=some (qM m s):=by
 rw[Wp B h,Yz,yl (B.fF (s:=s) (f:=lr) λn hn _=>⟨rfl,rfl,zV _⟩) ⟨C.rl,C.wl,C.pa,C.tl⟩];rfl
theorem MI{σ:Int->Int}{x:Hp}{m:a8}(hR:SR x.S)(q:r8 σ x m)(C:Bl m){ds:List Int}(hl:ds.length<=24)(hn:ds.Nodup)(hm:∀d∈ds,d∈lv x.S/\(ob x.S d).Strong<12/\(ob x.S d).Weak=Sh.jd x.b7 d)(hi:∀d∈ds,∀c∈x.b7,σ c.Target=σ d->c.Target=d){R:Type}{K:a8->Option R} :
  (lp (S:=Int × a8) (E:=a8) (λ((s16,s17):Int × a8)=>
   if (decide (s16<((ds.map σ).length:Int))) then
    (ix (ds.map σ) s16).bind λv20=>
    (C7 s17 v20).bind λv21=>
    (O6 v21 v20).bind λv22=>
    some (.inl (w9 (s16+1),v22))
   else
   some (.inr s17)) (0,m)).bind K=K ((ds.map σ).foldl Sh.qM m):=by
 refine kp (ca (t0:=m) ds.length (λk acc=>acc=(((ds.take k).map σ).foldl Sh.qM m)/\Bl acc) (by omega) ⟨by simp,C⟩ (λk acc hk e=>.inl ⟨_,?_,rfl,e.2.qM (σ ds[k]) |> λh=>?_⟩) (λacc e=>⟨acc,?_,?_⟩))
 .obtain⟨rfl,C'⟩:=e;have hsub:∀d∈ds.take k,d∈ds:=λd hd=>zad hd;have Q:=r8.TV (ds.take k) hR q (hn.sublist (zb8 ..)) (λd hd=>hm d (hsub d hd)) λd hd=>hi d (hsub d hd);obtain⟨r1,r2⟩:=yi (y:=x) hR hn (λd hd=>(hm d hd).1) hk;have hf:=Q.find r1 (o6 r1 r2).d;have hstep:=Wq (Q.bn r1) C' hf;simp only[];rw[zb (by simpa using hk),u5 (by simpa using hk),Yz,t7];have:((C7 ((List.map σ (List.take k ds)).foldl Sh.qM m) (σ ds[k])).bind λv21=>(O6 v21 (σ ds[k])).bind λv22=>some (Sum.inl (β:=a8) (w9 ((k:Int)+1),v22)))=some (Sum.inl (((k+1:Nat):Int),Sh.qM ((List.map σ (List.take k ds)).foldl Sh.qM m) (σ ds[k]))):=by
   rw[<-Option.bind_assoc,hstep,Yz,o5 (by omega)]
  rw[this,zx hk,mt,zal];rfl
 .rw[zx hk,mt,zal];rw[e.1] at h;exact h
 .simp only[];rw[za (by simp)]
 .rw[e.1,zU]
theorem EA{σ:Int->Int}{x:Hp}{m:a8}(hx:K0 x)(q:r8 σ x m){ds:List Int}(hn:ds.Nodup)(hm:∀d∈ds,d∈lv x.S)(hs:∀d∈ds,(ob x.S d).Strong<12):eW m (ds.map σ)=some (AA m (ds.map σ)):=by
 have hS:=hx.sh;have hR:=hS.sr;have C:=q.bl hS;have hlen:ds.length<=24:=zO (Z3 hn hm) (K9 (A2.2 hR));have hln:(ds.map σ).length<=24:=by rw[zl];exact hlen
 have hcl:(cls m.b7 (ds.map σ)).length<=30:=by
  unfold cls;refine zO (zB ..) ?_;rw[zb9];exact C.wl
 have hct:(jr m.b7 (ds.map σ)).length<=30:=by rw[mJ];exact hcl
 have h2:B8 (th (cls m.b7 (ds.map σ))) (lk m.b7 (ds.map σ))=some (jr m.b7 (ds.map σ)):=by
  unfold B8;refine (map_eq (P:=λa=>eX a (lk m.b7 (ds.map σ))) (p:=λa:Int=>(⟨2,a,((lk m.b7 (ds.map σ)).getD a.toNat cz).Call⟩:g7)) (λa ha=>?_) (by omega) (by omega) (by unfold th;rw[zl];omega)).trans ?_
  .unfold th at ha;obtain⟨w,hw,rfl⟩:=zq.1 ha;have hwl:w<(lk m.b7 (ds.map σ)).length:=by unfold lk;rw[zl];exact Gj hw
   unfold eX;rw[u5 hwl,Yz,zP,zd,zc hwl];rfl
  .unfold jr th;rw[za2];congr 1;refine zt λw hw=>?_;have hwl:=Gj hw;show (⟨2,(w:Int),_⟩:g7)=_;congr 1;unfold lk;rw[zP,zd,zA,zc hwl,zd,zc hwl];exact (ow _ _).2.1
 have h3:F4 [m.Tasks,jr m.b7 (ds.map σ)]=some (m.Tasks++jr m.b7 (ds.map σ)):=by
  unfold F4;refine (Gf (by omega) (by omega) (by simp) (by have:=C.tl;simp;omega)).trans ?_;simp
 have h4:C9 m.Pairs (ds.map σ)=some (m.Pairs.filter λp=>decide (p.Key∉ds.map σ)):=by
  unfold C9;refine kE (P:=λa=>eY a (ds.map σ)) (λp _=>?_) (by omega) (by omega) (by have:=C.pa;omega);unfold eY;rw[contains_eq _ _ (by omega),Yz];congr 1;by_cases c:p.Key∈ds.map σ
  .simp[c]
  .simp[c]
 unfold eW;simp only[jn];rw[DX _ _ (by have:=C.wl;omega) (by omega),Yz,h2,Yz,h3,Yz,h4,Yz];have q1:=q.RW hx hn hm;have C1:Bl (Vn (FC (RN m (lk m.b7 (ds.map σ))) (m.Tasks++jr m.b7 (ds.map σ))) (m.Pairs.filter λp=>decide (p.Key∉ds.map σ))):=by
  refine⟨C.rl,?_,?_,?_⟩
  .show (lk m.b7 (ds.map σ)).length<=30;unfold lk;rw[zl];exact C.wl
  .exact zO (zB ..) C.pa
  .show (m.Tasks++jr m.b7 (ds.map σ)).length<=200;rw[zL];have:m.Tasks.length<=30:=by rw[q.tk,zl];exact hS.q30
   omega
 refine (MI (x:=(⟨x.S,x.Roots,lk x.b7 ds,(lf x.T ds).1,⟨x.Q.L++jr x.b7 ds,x.Q.Cap⟩⟩:Hp)) hR q1 C1 hlen hn (λd hd=>⟨hm d hd,hs d hd,?_⟩) λd hd c hc e=>?_).trans rfl
 .show (ob x.S d).Weak=(Sh.jd (lk x.b7 ds) d:Int);have p:=o6 hR (hm d hd);rw[CN,F1 hR p];have:=(hx.wk _ p.1 p.d.2.1).1;rw[<-p.2.2] at this;exact this
 .refine q.gd.Vx hR ?_ (.inr ⟨_,(o6 hR (hm d hd)).d⟩) e;have hc:c∈lk x.b7 ds:=hc;unfold lk at hc;obtain⟨c',hc',rfl⟩:=zq.1 hc;rw[(ow ds c').1];exact lj hS hc'
theorem BN{m:a8}(h:m.Nodes.find? (RR m)=none):rR m=m:=by
 unfold rR;rw[h]
theorem KS{m:a8}{n:b8}(h:m.Nodes.find? (RR m)=some n):rR m=if LV n then qz m n.Serial else AA m [n.Serial]:=by
 unfold rR;rw[h]
theorem lD{σ:Int->Int}{x:Hp}{m:a8}(hx:K0 x)(q:r8 σ x m):H4 m=some (kY m):=by
 obtain⟨n,h48,hz,hj,he⟩:=vp hx;have hM:kY m=gj n m:=by
  have hfix:rR (gj n m)=gj n m:=by
   refine BN ?_;rw[(q.oe hx n).zr (P5 hx n),hz];rfl
  have key:∀k,gj (n+k) m=gj n m:=λk=>by
   induction k with
   | zero=>rfl
   | succ k ih=>rw[<-rg,ji,ih,hfix]
  have:=key (100-n);rw[show n+(100-n)=100 by omega] at this;exact this
 unfold H4;rw[hM];have hP:∀k,∀a∈(gj k m).Nodes,aP a (gj k m)=some (RR (gj k m) a):=λk a _=>by
  have qk:=q.oe hx k;have B:=qk.bn (P5 hx k).sh.sr;have C:=qk.bl (P5 hx k).sh;unfold aP RR;cases a.Alive <;> cases a.Stuck
  .rfl
  .rfl
  .show ((D4 true 0 (dT (gj k m) a.Serial)).bind _)=_;rw[iI,IB B C,Yz];refine zX some ?_;generalize DL (gj k m) a.Serial=c;by_cases c0:c=0
   .subst c0;rfl
   .have h1:((c:Int)==0)=false:=by simpa using c0
    have h2:(c==0)=false:=by simpa using c0
    rw[h1,h2];rfl
  .rfl
 refine kp (K:=some) (lC (κ:=some) (λk=>gj k m) rfl n (λ_=>True) (by omega) trivial (λk hk _=>.inl ⟨?_,trivial⟩) (λ_=>⟨gj n m,?_,rfl⟩))
 .have hxk:=P5 hx k;have qk:=q.oe hx k;have B:=qk.bn hxk.sh.sr;have C:=qk.bl hxk.sh;have hR:=hxk.sh.sr;cases ez:zr (oe k x) with
  | nil=>exact absurd ez (hj k hk)
  | cons z l=>
   obtain⟨hzl,h0⟩:=cT.1 (ez▸zg:z∈zr (oe k x));have p:=o6 hR hzl;have hf:=qk.zr hxk;rw[ez] at hf;have hf:(gj k m).Nodes.find? (RR (gj k m))=some (Sh.nd σ (oe k x).S (D7 z)):=hf;obtain⟨i,hi,e,r⟩:=Et (hP k) (by have:=B.nl;omega) hf;have r':x4 (gj k m).Nodes (gj k m)=some (i:Int):=r;have hser:(Sh.nd σ (oe k x).S (D7 z)).Serial=σ z:=(qk.gd.f z _ p.d).symm;have hfn:=qk.find hR p.d;rw[r',Yz,za (by simp),u5 hi,Yz,e];rw[show da (Sh.nd σ (oe k x).S (D7 z))=some (LV (Sh.nd σ (oe k x).S (D7 z))) from rfl,Yz,ji];rw[KS hf,hser];split;·rw[Bv B C hfn,Yz]
   .have hb:=EA hxk qk (ds:=[z]) (me.2 ⟨by simp,zb2⟩) (λd hd=>by rw[zp] at hd;rw[hd];exact hzl) λd hd=>by
     rw[zp] at hd;rw[hd,h0];decide
    rw[show [σ z] = [z].map σ from rfl,hb,Yz]
 .have hf:=(q.oe hx n).zr (P5 hx n);rw[hz] at hf;have r:=Es (hP n) (by have:=((q.oe hx n).bn (P5 hx n).sh.sr).nl;omega) hf;have r':x4 (gj n m).Nodes (gj n m)=some (-1):=r;rw[r',Yz,zb (by decide)]
theorem Bn.El{m:a8}(B:Bn m)(h9:m.Last<=9)(n:b8)(hg:∀g∈m.Gens,g<=m.Last):Bn (Sh.El m n)/\∀g∈(Sh.El m n).Gens,g<=m.Last:=by
 have hgg:∀g∈(if m.Gens.getD n.Slot.toNat 0=m.Last then m.Gens else m.Gens.set n.Slot.toNat (m.Gens.getD n.Slot.toNat 0+1)),0<=g/\g<=m.Last:=λg hgm=>by
  split at hgm;·exact⟨(B.gg g hgm).1,hg g hgm⟩
  .rename_i c;rcases zE n.Slot.toNat m.Gens.length with hl | hl
   .rcases zas hgm with q | rfl
    .exact⟨(B.gg g q).1,hg g q⟩
    .rw[zd,zc hl] at c |-;have a:=B.gg _ (zh hl);have b:=hg _ (zh hl);simp only[ww] at c |-;omega
   .rw[List.set_eq_of_length_le hl] at hgm;exact⟨(B.gg g hgm).1,hg g hgm⟩
 have hlen:(Sh.El m n).Slots.length=m.Slots.length/\(Sh.El m n).Gens.length=m.Gens.length:=by
  unfold Sh.El;refine⟨by simp,?_⟩;dsimp only;split <;> simp
 refine⟨⟨?_,?_,λk hk=>?_,λk hk=>?_,λg hgm=>?_,by rw[hlen.1,hlen.2];exact B.gl⟩,λg hgm=>(hgg g hgm).2⟩;·exact zO (zB ..) B.nl
 .exact B.up.filter _
 .exact B.fl k (zk.1 (show k∈m.Nodes.filter _ from hk)).1
 .rw[hlen.1,hlen.2];exact B.sg k (zk.1 (show k∈m.Nodes.filter _ from hk)).1
 .have:=hgg g hgm;exact⟨this.1,by omega⟩
def OF(m:a8):List Int:=m.Roots++(jV m++(m.Nodes.filter (·.Stuck)).map (·.Serial))
inductive FJ (m:a8):Int->Prop
 | base {s:Int}:s∈OF m->FJ m s
 | Vv {n:b8} {v:Int}:n∈m.Nodes->FJ m n.Serial->v∈n.Fields->FJ m v
 | Vz {p:k7}:p∈m.Pairs->FJ m p.Key->FJ m p.Val
section
variable{σ:Int->Int}{x:Hp}{m:a8}(hx:K0 x)(q:r8 σ x m)
include hx q
theorem Og{n:b8}(hn:n∈m.Nodes)(hs:n.Stuck=true):∃h∈lv x.S,n=Sh.nd σ x.S (D7 h)/\n.Serial=σ h/\12<=(ob x.S h).Strong:=by
 have hR:=hx.sh.sr;obtain⟨i,hi,ti,rfl⟩:=(q.nd.mem n).1 hn;have h12:12<=(Sh.ce x.S i).Val.Strong:=by simpa[Sh.nd] using hs
 rcases ti with h1 | h2
 .have hA:At x.S (bX x.S i) i:=⟨hi,h1,rfl⟩;have hl:=(gR hR).2 ⟨i,hA⟩;refine⟨bX x.S i,hl,by rw[hA.d.D7 hR],(q.gd.f _ i hA.d).symm,?_⟩;rw[F1 hR hA];exact h12
 .have:=((hx.wk i hi (.inr h2)).2 h2).2.2;omega
theorem NL{s:Int}(r:FJ m s):s=0\/∃h,h∈lv x.S/\s=σ h/\bb x.S x.T (FM x) h:=by
 have hS:=hx.sh;have hR:=hS.sr;have hot:∀h,h∈lv x.S->h∈nZ x->bb x.S x.T (FM x) h:=λh hl ho=>.base (CA hx hl ho) hl;induction r with
 | base hb=>
  unfold OF at hb;rcases zu.1 hb with a | a
  .rw[q.ro] at a;obtain⟨h,hh,rfl⟩:=zq.1 a;rcases hS.rt h hh with e | hl
   .exact .inl (by rw[e];exact q.gd.z)
   .refine .inr ⟨h,hl,rfl,hot h hl ?_⟩;unfold nZ;exact ut _ (fZ.2 ⟨hh,by have:=H6 hR hl;omega⟩)
  .rcases zu.1 a with a | a
   .rw[q.Kg hS] at a;obtain⟨h,hh,rfl⟩:=zq.1 a;obtain⟨t,ht,k,rfl⟩:=lE.1 hh;rcases (hS.tk t ht).2.2 with b | b
    .exact .inr ⟨_,b.2.1,rfl,hot _ b.2.1 (t6 _ hh)⟩
    .rw[b.1] at k;exact absurd k (by decide)
   .obtain⟨n,hn,rfl⟩:=zq.1 a;obtain⟨h,hl,_,e,h12⟩:=Og hx q (zk.1 hn).1 (by simpa using (zk.1 hn).2);exact .inr ⟨h,hl,e,.base (pT.2 ⟨hl,.inr h12⟩) hl⟩
 | Vv hn r0 hv ih=>
  rename_i n v;have hp:=q.nd.pos hR hn;obtain⟨h,hl,e,r⟩:=ih.resolve_left (by omega);have p:=o6 hR hl;have en:n=Sh.nd σ x.S (D7 h):=q.nd.one hR hn (q.nd.at hR p.1 p.d.2.1) (by rw[e,q.gd.f h _ p.d];rfl);rw[en] at hv;obtain⟨u,hu,rfl⟩:=zq.1 hv;rw[<-F1 hR p] at hu;rcases hS.fl h hl u hu with e0 | hlu
  .exact .inl (by rw[e0];exact q.gd.z)
  .exact .inr ⟨u,hlu,rfl,.step r (fZ.2 ⟨hu,by have:=H6 hR hlu;omega⟩) hlu⟩
 | Vz hp r0 ih=>
  rename_i p;obtain⟨k,v,hh,rfl⟩:=(q.p2 p).1 hp;obtain⟨a,b⟩:=hS.pr k v hh;have hk:=q.gd.ps hR a;obtain⟨h,hl,e,r⟩:=ih.resolve_left (by show σ k≠0;omega);have:k=h:=q.gd.inl hR a hl e;subst this;exact .inr ⟨v,b,rfl,.pair hh r b⟩
theorem UP{h:Int}(r:bb x.S x.T (FM x) h):FJ m (σ h):=by
 have hS:=hx.sh;have hR:=hS.sr;induction r with
 | base hb hl=>
  rename_i h;refine .base ?_;unfold OF;rcases (GD hx hb).2 with a | a
  .unfold nZ at a;rcases zu.1 a with a | a
   .refine ut _ ?_;rw[q.ro];exact zby (fZ.1 a).1
   .refine t6 _ (ut _ ?_);rw[q.Kg hS];exact zby a
  .refine t6 _ (t6 _ ?_);have p:=o6 hR hl;refine zq.2 ⟨Sh.nd σ x.S (D7 h),zk.2 ⟨q.nd.at hR p.1 p.d.2.1,?_⟩,(q.gd.f h _ p.d).symm⟩;rw[F1 hR p] at a;exact zD a
 | step r ho hl ih=>
  rename_i a b;have hla:=bb.live r;have p:=o6 hR hla;refine .Vv (q.nd.at hR p.1 p.d.2.1) (by rw[show (Sh.nd σ x.S (D7 a)).Serial=σ a from (q.gd.f a _ p.d).symm];exact ih) ?_;show σ b∈(Sh.ce x.S (D7 a)).Val.Fields.map σ;rw[<-F1 hR p];exact zby (fZ.1 ho).1
 | pair hh r hl ih=>
  exact .Vz ((q.p2 _).2 ⟨_,_,hh,rfl⟩) ih
theorem Ri{h:Int}(hl:h∈lv x.S):FJ m (σ h)↔bb x.S x.T (FM x) h:=by
 refine⟨λr=>?_,UP hx q⟩;have hR:=hx.sh.sr;have:=q.gd.ps hR hl;obtain⟨k,hk,e,r'⟩:=(NL hx q r).resolve_left (by omega);rw[q.gd.inl hR hl hk e];exact r'
theorem Rj{s:Int}(r:FJ m s):s=0\/s∈m.Nodes.map (·.Serial):=by
 have hR:=hx.sh.sr;rcases NL hx q r with e | ⟨h,hl,rfl,_⟩
 .exact .inl e
 .have p:=o6 hR hl;exact .inr (zq.2 ⟨_,q.nd.at hR p.1 p.d.2.1,(q.gd.f h _ p.d).symm⟩)
end
section
variable{m:a8}(hser:∀s,FJ m s->s=0\/s∈m.Nodes.map (·.Serial))(B:Bn m)
include hser B
def Hn(m:a8)(mp:List (Int × Bool)):Nat:=((m.Nodes.map (·.Serial)).filter λs => !(z8 mp s).getD false).length
structure Jy (m:a8) (q:e6) (mp:List (Int × Bool)):Prop where
 nd:q.L.Nodup
 cap:q.Cap=(m.Nodes.length:Int)
 iu:∀x∈q.L,Mk mp x/\x≠0
 rc:∀x,Mk mp x->x=0\/FJ m x
 z:Mk mp 0
omit hser B in
theorem RF {mp:List (Int × Bool)} {x:Int} (hx:x∈m.Nodes.map (·.Serial)) (hm:¬Mk mp x):Hn m (p8 mp x true)<Hn m mp:=by
 unfold Hn;refine filter_lt (λy _ h=>?_) x hx (by simpa[Mk] using hm) ?_
 .by_cases q:Mk mp y
  .have:=(dF mp x y).2 (.inr q);unfold Mk at this;rw[this] at h;cases h
  .simpa[Mk] using q
 .have:=(dF mp x x).2 (.inl rfl);unfold Mk at this;rw[this];rfl
omit B in
theorem Jy.sub {q:e6} {mp:List (Int × Bool)} (h:Jy m q mp):∀y∈q.L,y∈m.Nodes.map (·.Serial):=λy hy=>by
 obtain⟨a,b⟩:=h.iu y hy;exact (hser y ((h.rc y a).resolve_left b)).resolve_left b
omit B in
theorem Jy.room {q:e6} {mp:List (Int × Bool)} (h:Jy m q mp) {x:Int} (hx:x∈m.Nodes.map (·.Serial)) (hm:¬Mk mp x):q.L.length<m.Nodes.length:=by
 have:(x::q.L).length<=(m.Nodes.map (·.Serial)).length:=Z3 (me.2 ⟨λk=>hm (h.iu x k).1,h.nd⟩) λy hy=>by
  rcases zM.1 hy with rfl | k
  .exact hx
  .exact Jy.sub hser h y k
 simp only[zH,zl] at this;omega
theorem rL{xs:List Int}{q:e6}{mp:List (Int × Bool)}(hlen:xs.length<=1000000)(h0:Jy m q mp)(hr:∀x∈xs,x=0\/FJ m x) :
  ∃q' mp',lp (S:=Int × e6 × (List (Int × Bool))) (E:=(e6 × (List (Int × Bool)))) (λ((s148,s149,s150):Int × e6 × (List (Int × Bool)))=>
        if (decide (s148<(xs.length:Int))) then
         jn (λ((j156,j157):e6 × (List (Int × Bool)))=>
          some (.inl (w9 (s148+1),j156,j157))) (λκ155=>
          (ix xs s148).bind λv159=>
          if (!((z8 s150 v159).getD (false:Bool))) then
           (D6 s149 v159).bind λv160=>
           κ155 (v160.1,(p8 s150 v159 true))
          else
          κ155 (s149,s150))
        else
        some (.inr (s149,s150))) (0,q,mp)=some (q',mp')/\Jy m q' mp'/\(∀x,Mk mp' x↔Mk mp x\/x∈xs)/\(∀x,Mk mp' x->Mk mp x\/x∈q'.L)/\(∀x∈q.L,x∈q'.L)/\2*Hn m mp'+q'.L.length<=2*Hn m mp+q.L.length:=by
 have nl:=B.nl;have:=jA (f:=λ((s148,s149,s150):Int × e6 × (List (Int × Bool)))=>
        if (decide (s148<(xs.length:Int))) then
         jn (λ((j156,j157):e6 × (List (Int × Bool)))=>
          some (.inl (w9 (s148+1),j156,j157))) (λκ155=>
          (ix xs s148).bind λv159=>
          if (!((z8 s150 v159).getD (false:Bool))) then
           (D6 s149 v159).bind λv160=>
           κ155 (v160.1,(p8 s150 v159 true))
          else
          κ155 (s149,s150))
        else
        some (.inr (s149,s150))) (t0:=(q,mp)) xs.length (λk t=>Jy m t.1 t.2/\(∀x,Mk t.2 x↔Mk mp x\/x∈xs.take k)/\(∀x,Mk t.2 x->Mk mp x\/x∈t.1.L)/\(∀x∈q.L,x∈t.1.L)/\2*Hn m t.2+t.1.L.length<=2*Hn m mp+q.L.length)
  (λt=>Jy m t.1 t.2/\(∀x,Mk t.2 x↔Mk mp x\/x∈xs)/\(∀x,Mk t.2 x->Mk mp x\/x∈t.1.L)/\(∀x∈q.L,x∈t.1.L)/\2*Hn m t.2+t.1.L.length<=2*Hn m mp+q.L.length) (by omega)
  ⟨h0,λx=>by simp,λx h=>.inl h,λx h=>h,zG _⟩ (λk t hk hP=>?_) (λt hP=>?_)
 .obtain⟨⟨q',mp'⟩,h1,h2⟩:=this;exact⟨q',mp',h1,h2⟩
 .obtain⟨q1,m1⟩:=t;obtain⟨p1,p2,p3,p4,p5⟩:=hP;simp only at p1 p2 p3 p4 p5;left;have ht:∀x,x∈xs.take (k+1)↔x∈xs.take k\/x=xs[k]:=λx=>by rw[zx hk,zu,zp]
  simp only[jn,wp,hk,ul,wn,u5 hk,Yz];by_cases hm:Mk m1 xs[k]
  .rw[za (by rw[show (z8 m1 xs[k]).getD false=true from hm];decide),o5];refine⟨(q1,m1),rfl,p1,λx=>?_,p3,p4,p5⟩;rw[p2,ht];constructor
   .rintro (a | a);·exact .inl a
    .exact .inr (.inl a)
   .rintro (a | a | rfl);·exact .inl a
    .exact .inr a
    .exact (p2 _).1 hm
  .have hm':(z8 m1 xs[k]).getD false=false:=by simpa[Mk] using hm
   have hk0:xs[k]≠0:=λe=>hm (by rw[e];exact p1.z);have hrc:=(hr _ (zh hk)).resolve_left hk0;have hin:=(hser _ hrc).resolve_left hk0;have hroom:=Jy.room hser p1 hin hm;rw[zb (by rw[hm'];decide),IU (by rw[p1.cap];omega) (by omega),Yz,o5];refine⟨(⟨q1.L ++ [xs[k]],q1.Cap⟩,p8 m1 xs[k] true),rfl,⟨?_,p1.cap,λx hx=>?_,λx hx=>?_,?_⟩,λx=>?_,λx hx=>?_,λx hx=>?_,?_⟩
   .simp only;rw[zbs];refine⟨p1.nd,by simp,λa ha b hb e=>?_⟩;rw[zp] at hb;subst hb;subst e;exact hm (p1.iu _ ha).1
   .simp only[zu,zp] at hx;rw[dF];rcases hx with a | a
    .exact⟨.inr (p1.iu x a).1,(p1.iu x a).2⟩
    .exact⟨.inl a,by rw[a];exact hk0⟩
   .rcases (dF m1 xs[k] x).1 hx with rfl | a
    .exact .inr hrc
    .exact p1.rc x a
   .exact (dF m1 xs[k] 0).2 (.inr p1.z)
   .simp only;rw[dF,p2,ht];constructor
    .rintro (rfl | a | a);·exact .inr (.inr rfl)
     .exact .inl a
     .exact .inr (.inl a)
    .rintro (a | a | a);·exact .inr (.inl a)
     .exact .inr (.inr a)
     .exact .inl a
   .simp only[zu,zp];rcases (dF m1 xs[k] x).1 hx with a | a
    .exact .inr (.inr a)
    .rcases p3 x a with b | b
     .exact .inl b
     .exact .inr (.inl b)
   .simp only[zu];exact .inl (p4 x hx)
   .have:=RF hin hm;simp only[zL,List.length_singleton];omega
 .obtain⟨q1,m1⟩:=t;refine⟨(q1,m1),?_,?_⟩;·simp only[zbe,zbo,zC,t8]
  .simpa using hP
omit hser in
theorem ED {a:Int} (C:Bl m):O7 m a=some ((m.Pairs.filter λp=>p.Key==a).map (·.Val)):=by
 have pa:=C.pa;have h1:C3 m.Pairs a=some (m.Pairs.filter λp=>p.Key==a):=by
  unfold C3;exact kE (P:=λp=>cp p a) (λn _=>rfl) (by omega) (by omega) (by omega)
 have hl:(m.Pairs.filter λp=>p.Key==a).length<=30:=zO (zB ..) pa;unfold O7;rw[h1,Yz];refine rX (a:=(m.Pairs.filter λp=>p.Key==a).map (·.Val)) ?_ rfl;unfold E1;exact map_eq (λn _=>rfl) (by omega) (by omega) (by omega)
theorem Kq(C:Bl m)(hn0:∀n∈m.Nodes,n.Serial≠0)(hp0:∀p∈m.Pairs,p.Key≠0):∃mp,gE m=some mp/\∀s,Mk mp s↔s=0\/FJ m s:=by
 have nl:=B.nl;have hst:C5 m.Nodes=some (m.Nodes.filter (·.Stuck)):=by
  unfold C5;exact kE (λn _=>rfl) (by omega) (by omega) (by omega)
 have hsl:(m.Nodes.filter (·.Stuck)).length<=24:=zO (zB ..) nl;have hss:I5 (m.Nodes.filter (·.Stuck))=some ((m.Nodes.filter (·.Stuck)).map (·.Serial)):=by
  unfold I5;refine rX (a:=(m.Nodes.filter (·.Stuck)).map (·.Serial)) ?_ rfl;unfold B6;exact map_eq (λn _=>rfl) (by omega) (by omega) (by omega)
 have hh:gk ⟨m.Tasks,30⟩=some (jV m):=Oi (q:=⟨m.Tasks,30⟩) (by have:=C.tl;show m.Tasks.length<=1000;omega);have Kg:(jV m).length<=200:=by
  unfold jV oR;rw[zl];exact zO (zB ..) C.tl
 have hbl:(OF m).length<=300:=by
  unfold OF;rw[zL,zL,zl];have:=C.rl;omega
 have hc:F7 [m.Roots,jV m,(m.Nodes.filter (·.Stuck)).map (·.Serial)]=some (OF m):=by
  unfold F7;refine (Gf (by omega) (by omega) (by simp) ?_).trans ?_
  .show ([m.Roots,jV m,(m.Nodes.filter (·.Stuck)).map (·.Serial)].flatten).length<=100000;unfold OF at hbl;simpa using zO hbl (by omega)
  .unfold OF;simp
 unfold gE aY;rw[hst,Yz,hss,Yz,Yz,yo,Yz,hh,Yz,hc,Yz];have hz0:Mk (p8 [] 0 true) 0:=(dF [] 0 0).2 (.inl rfl);have hzz:∀x,Mk (p8 [] 0 true) x->x=0:=λx h=>((dF [] 0 x).1 h).resolve_right (by simp[Mk,z8]);obtain⟨q0,m0,e0,i0,i1,i2,i3,i4⟩:=rL hser B (xs:=OF m) (q:=⟨[],(m.Nodes.length:Int)⟩) (mp:=p8 [] 0 true) (by omega) ⟨zb2,rfl,(λx hx=>by cases hx),(λx h=>.inl (hzz x h)),hz0⟩ (λx h=>.inr (.base h));have hu:Hn m (p8 [] 0 true)<=24:=by
  unfold Hn;refine zO (zB ..) ?_;rw[zl];exact nl
 suffices key:∃mp,(lp (S:=e6 × (List (Int × Bool))) (E:=(List (Int × Bool))) (λ((s102,s103):e6 × (List (Int × Bool)))=>
    (H5 s102).bind λv106=>
    if (decide (v106 > 0)) then
     (W5 s102).bind λv107=>
     (J0 m v107.2.1).bind λv108=>
     (ix m.Nodes v108).bind λv109=>
     (lp (S:=Int × e6 × (List (Int × Bool))) (E:=(e6 × (List (Int × Bool)))) (λ((s162,s163,s164):Int × e6 × (List (Int × Bool)))=>
       if (decide (s162<(v109.Fields.length:Int))) then
        jn (λ((j170,j171):e6 × (List (Int × Bool)))=>
         some (.inl (w9 (s162+1),j170,j171))) (λκ169=>
         (ix v109.Fields s162).bind λv173=>
         if (!((z8 s164 v173).getD (false:Bool))) then
          (D6 s163 v173).bind λv174=>
          κ169 (v174.1,(p8 s164 v173 true))
         else
         κ169 (s163,s164))
       else
       some (.inr (s163,s164))) (0,v107.1,s103)).bind λe161=>
     (O7 m v107.2.1).bind λv128=>
     (lp (S:=Int × e6 × (List (Int × Bool))) (E:=(e6 × (List (Int × Bool)))) (λ((s148,s149,s150):Int × e6 × (List (Int × Bool)))=>
        if (decide (s148<(v128.length:Int))) then
         jn (λ((j156,j157):e6 × (List (Int × Bool)))=>
          some (.inl (w9 (s148+1),j156,j157))) (λκ155=>
          (ix v128 s148).bind λv159=>
          if (!((z8 s150 v159).getD (false:Bool))) then
           (D6 s149 v159).bind λv160=>
           κ155 (v160.1,(p8 s150 v159 true))
          else
          κ155 (s149,s150))
        else
        some (.inr (s149,s150))) (0,e161.1,e161.2)).bind λe147=>
     some (.inl (e147.1,e147.2))
    else
    some (.inr s103)) (q0,m0))=some mp/\∀s,Mk mp s↔s=0\/FJ m s by
  obtain⟨mp,h1,h2⟩:=key;refine⟨mp,?_,h2⟩;refine (kp (e:=(q0,m0)) ((Option.bind_fun_some _).trans e0)).trans ?_;exact kp ((Option.bind_fun_some _).trans h1)
 refine rz (s0:=(q0,m0)) (λt=>Jy m t.1 t.2/\(∀x∈OF m,Mk t.2 x)/\∀a,Mk t.2 a->a=0\/a∈t.1.L\/((∀n∈m.Nodes,n.Serial=a->∀b∈n.Fields,Mk t.2 b)/\∀p∈m.Pairs,p.Key=a->Mk t.2 p.Val)) (λmp=>∀s,Mk mp s↔s=0\/FJ m s) (λt=>2*Hn m t.2+t.1.L.length)
   ⟨i0,λx h1=>(i1 x).2 (.inr h1),λa ha=>?_⟩ (by show 2*Hn m m0+q0.L.length<_;simp only[zaf] at i4;omega) ?_
 .rcases i2 a ha with b | b
  .exact .inl (hzz a b)
  .exact .inr (.inl b)
 .rintro⟨q,mp⟩ ⟨p1,p2,p3⟩;simp only at p1 p2 p3 |-;have hq:=Z3 p1.nd (Jy.sub hser p1);rw[zl] at hq;unfold H5;rw[Yz];cases hqL:q.L with
  | nil=>
   right;refine⟨mp,by rw[za (by simp)],λx=>⟨p1.rc x,λh=>?_⟩⟩;rcases h with rfl | h
   .exact p1.z
   .have cl:∀a,Mk mp a->a≠0->(∀n∈m.Nodes,n.Serial=a->∀b∈n.Fields,Mk mp b)/\∀p∈m.Pairs,p.Key=a->Mk mp p.Val:=λa h1 h2=>by
     rcases p3 a h1 with c | c | c
     .exact absurd c h2
     .rw[hqL] at c;cases c
     .exact c
    induction h with
    | base a=>exact p2 _ a
    | Vv hn r hv ih=>
     rename_i n v;exact (cl _ ih (hn0 n hn)).1 n hn rfl v hv
    | Vz hp r ih=>
     rename_i p;exact (cl _ ih (hp0 p hp)).2 p hp rfl
  | cons a r=>
   left;have hqe:q=⟨a::r,q.Cap⟩:=by rw[<-hqL]
   have haq:a∈q.L:=by rw[hqL];exact zg
   obtain⟨hma,ha0⟩:=p1.iu a haq;have hra:=(p1.rc a hma).resolve_left ha0;have has:=Jy.sub hser p1 a haq;obtain⟨n,hf⟩:∃n,m.Nodes.find? (λn=>n.Serial==a)=some n:=by
    obtain⟨k,hk,e⟩:=zq.1 has;exact zab.1 (List.find?_isSome.2 ⟨k,hk,by simpa using e⟩)
   obtain⟨hns,hnm⟩:=lz hf;obtain⟨i,hi,ei,ri⟩:=yk B hf;have hnd:=p1.nd;rw[hqL] at hnd hq;simp only[zH] at hq;have hfl:=B.fl n hnm;obtain⟨q1,m1,e1',j0,j1,j2,j3,j4⟩:=rL hser B (xs:=n.Fields) (q:=⟨r,q.Cap⟩) (mp:=mp) (by omega) ⟨(me.1 hnd).2,p1.cap,λx hx=>p1.iu x (by rw[hqL];exact zn _ hx),p1.rc,p1.z⟩ (λx h=>.inr (.Vv hnm (by rw[hns];exact hra) h));have hvl:((m.Pairs.filter λp=>p.Key==a).map (·.Val)).length<=30:=by
    rw[zl];exact zO (zB ..) C.pa
   obtain⟨q2,m2,e2',k0,k1,k2,k3,k4⟩:=rL hser B (xs:=(m.Pairs.filter λp=>p.Key==a).map (·.Val)) (q:=q1) (mp:=m1) (by omega) j0 (λx h=>by
    obtain⟨p,hp,rfl⟩:=zq.1 h;obtain⟨hp1,hp2⟩:=zk.1 hp;have hk:p.Key=a:=by simpa using hp2
    exact .inr (.Vz hp1 (by rw[hk];exact hra)))
   refine⟨(q2,m2),?_,⟨k0,λx h1=>(k1 x).2 (.inl ((j1 x).2 (.inl (p2 x h1)))),λb hb=>?_⟩,?_⟩
   .rw[zb (by simp),hqe,NF (by omega),Yz];simp only;rw[ri,Yz,u5 hi,Yz,ei];refine rX e1' ?_;simp only;rw[ED B C,Yz];exact rX e2' rfl
   .simp only at hb |-;have up1:∀x,Mk m1 x->Mk m2 x:=λx h=>(k1 x).2 (.inl h);have up0:∀x,Mk mp x->Mk m2 x:=λx h=>up1 x ((j1 x).2 (.inl h));rcases k2 b hb with c | c
    .rcases j2 b c with d | d
     .rcases p3 b d with f | f | f
      .exact .inl f
      .rw[hqL] at f;rcases zM.1 f with rfl | f
       .refine .inr (.inr ⟨λk hk hks v hv=>?_,λp hp hpk=>?_⟩)
        .have:k=n:=by
          obtain⟨u,hu,eu⟩:=wt hk;obtain⟨w,hw,ew⟩:=wt hnm;rcases Nat.lt_trichotomy u w with c1 | c1 | c1
          .have:=za4.1 B.up u w hu hw c1;rw[eu,ew] at this;omega
          .subst c1;rw[<-eu,<-ew]
          .have:=za4.1 B.up w u hw hu c1;rw[eu,ew] at this;omega
         rw[this] at hv;exact up1 v ((j1 v).2 (.inr hv))
        .exact (k1 _).2 (.inr (zq.2 ⟨p,zk.2 ⟨hp,by simpa using hpk⟩,rfl⟩))
       .exact .inr (.inl (k3 b (j3 b f)))
      .exact .inr (.inr ⟨λk hk hks v hv=>up0 v (f.1 k hk hks v hv),λp hp hpk=>up0 _ (f.2 p hp hpk)⟩)
     .exact .inr (.inl (k3 b d))
    .exact .inr (.inl c)
   .show 2*Hn m m2+q2.L.length<2*Hn m mp+(a::r).length;simp only[zH] at j4 k4 |-;omega
end
theorem uS{l:List b8}(h:l.length<=1000):I5 l=some (l.map (·.Serial)):=by
 unfold I5;refine rX (a:=l.map (·.Serial)) ?_ rfl;unfold B6;exact map_eq (λn _=>rfl) (by omega) (by omega) (by omega)
theorem r8.Fp{σ:Int->Int}{x:Hp}{m:a8}(hR:SR x.S)(q:r8 σ x m):(m.Nodes.filter (·.Alive)).map (·.Serial)=Sh.Fp x:=by
 rw[q.nd.alive hR,za2];unfold Sh.Fp;refine zt λh hh=>?_;show (Sh.ce x.S (D7 h)).Val.Serial=(ob x.S h).Serial;rw[F1 hR (o6 hR hh)]
theorem CJ{σ:Int->Int}{x:Hp}{m:a8}(hR:SR x.S)(q:r8 σ x m):ai m=some (Sh.Fp x):=by
 have B:=q.bn hR;unfold ai;rw[IA B,Yz,uS (zO (zB ..) (by have:=B.nl;omega)),Yz,q.Fp hR]
theorem Of(x:Hp):(Fp x).length=(lv x.S).length:=by unfold Fp;rw[zl]
theorem VN{p:Prop}{i:Decidable p}(h:¬p):false=@decide p i:=(zY h).symm
theorem VO{p:Prop}{i:Decidable p}(h:p):true=@decide p i:=(zD h).symm
section
variable{σ:Int->Int}{x:Hp}{m:a8}(hx:K0 x)(q:r8 σ x m)
include hx q
theorem Ej:∀d∈dA x,(ob x.S d).Strong<12:=λd hd=>by
 obtain⟨a,b⟩:=(br (x:=x)).1 hd;rcases Int.lt_or_le (ob x.S d).Strong 12 with c | c
 .exact c
 .exact absurd (.base (pT.2 ⟨a,.inr c⟩) a) b
theorem Kp{mp:List (Int × Bool)}(h:∀s,Mk mp s↔s=0\/FJ m s):B9 m.Nodes mp=some ((dA x).map λh=>Sh.nd σ x.S (D7 h)):=by
 have hR:=hx.sh.sr;have B:=q.bn hR;have nl:=B.nl;unfold B9;refine (kE (P:=λn=>bx n mp) (p:=λn=>n.Alive && !((z8 mp n.Serial).getD false)) (λn _=>rfl) (by omega) (by omega) (by omega)).trans ?_;congr 1;rw[<-zan,zan,pm (λn _=>Bool.and_comm _ _),<-zan,q.nd.alive hR,zcs];congr 1;unfold dA Vw;refine pm λd hd=>?_;have p:=o6 hR hd;show (!((z8 mp (Sh.ce x.S (D7 d)).Val.Serial).getD false))=_;rw[<-q.gd.f d _ p.d];have h0:σ d≠0:=by have:=q.gd.ps hR hd;omega
 have:(z8 mp (σ d)).getD false=true↔bb x.S x.T (FM x) d:=by
  rw[<-Ri hx q hd];exact (h (σ d)).trans ⟨λc=>c.resolve_left h0,.inr⟩
 by_cases c:bb x.S x.T (FM x) d
 .rw[this.2 c];exact VN λe=>e c
 .have hc:(z8 mp (σ d)).getD false=false:=by
   cases e:(z8 mp (σ d)).getD false;·rfl
   .exact absurd (this.1 e) c
  rw[hc];exact VO c
theorem JP:((dA x).map λh=>Sh.nd σ x.S (D7 h)).filter LV=(jR x).map λh=>Sh.nd σ x.S (D7 h):=by
 have hR:=hx.sh.sr;rw[zcs];unfold jR;congr 1;refine pm λd hd=>?_;have hl:=cK hx d hd;have p:=o6 hR hl;rw[F1 hR p];rfl
theorem IC{l:List Int}(hl:∀h∈l,h∈lv x.S):(l.map λh=>Sh.nd σ x.S (D7 h)).map (·.Serial)=l.map σ:=by
 rw[za2];refine zt λh hh=>?_;exact (q.gd.f h _ (o6 hx.sh.sr (hl h hh)).d).symm
end
theorem r8.XY{σ:Int->Int}{x:Hp}{m:a8}(hx:K0 x)(hS:SL x)(hz:Sh.zr x = [])(q:r8 σ x m){l:List Int}(hn:l.Nodup)(hd:∀h∈l,h∈Sh.lv x.S/\due (Sh.ob x.S h)=true) :
  ∀k,k<=l.length->r8 σ ((l.take k).foldl Sh.gF x) (((l.take k).map σ).foldl qz m)
 | 0,_=>q
 | k+1,h=>by
  have ih:=r8.XY hx hS hz q hn hd k (by omega);have hsub:∀h∈l.take k,h∈l:=λh hh=>zad hh;have Q:=yB (l.take k) hx hS hz (hn.sublist (zb8 ..)) λh hh=>hd h (hsub h hh);rw[zx (by omega),mt,zal,zal];exact ih.gF Q.rt.sh Q.rt.fair (by rw[Q.lv];exact (hd _ (zh _)).1)
theorem yW{σ:Int->Int}{x:Hp}{m:a8}(hx:K0 x)(hS:SL x)(hz:Sh.zr x = [])(q:r8 σ x m){l:List Int}(hl:l.length<=24)(hn:l.Nodup)(hd:∀h∈l,h∈Sh.lv x.S/\due (Sh.ob x.S h)=true){R:Type}{K:a8->Option R} :
  (lp (S:=Int × a8) (E:=a8) (λ((s20,s21):Int × a8)=>
   if (decide (s20<((l.map σ).length:Int))) then
    (ix (l.map σ) s20).bind λv24=>
    (aX s21 v24).bind λv25=>
    some (.inl (w9 (s20+1),v25))
   else
   some (.inr s21)) (0,m)).bind K=K ((l.map σ).foldl qz m):=by
 refine kp (ca (t0:=m) l.length (λk acc=>acc=((l.take k).map σ).foldl qz m) (by omega) rfl (λk acc hk e=>.inl ⟨_,?_,rfl⟩) (λacc e=>⟨acc,?_,?_⟩))
 .subst e;have Q:=r8.XY hx hS hz q hn hd k (by omega);have hsub:∀h∈l.take k,h∈l:=λh hh=>zad hh;have D:=yB (l.take k) hx hS hz (hn.sublist (zb8 ..)) λh hh=>hd h (hsub h hh);have hR':=D.rt.sh.sr;have hlk:l[k]∈lv ((l.take k).foldl gF x).S:=by rw[D.lv];exact (hd _ (zh hk)).1
  simp only[];rw[zb (by simpa using hk),u5 (by simpa using hk),Yz,t7,Bv (Q.bn hR') (Q.bl D.rt.sh) (Q.find hR' (o6 hR' hlk).d),Yz,o5 (n:=k) (by omega),zx hk,mt,zal];rfl
 .simp only[];rw[za (by simp)]
 .rw[e,zU]
theorem HS(m:a8)(l:List Int):(AA m l).Progs=m.Progs:=by
 unfold AA;have key:∀(l:List Int) (m:a8),(l.foldl qM m).Progs=m.Progs:=λl=>by
  induction l with
  | nil=>exact λm=>rfl
  | cons s l ih=>exact λm=>(ih (qM m s)).trans (yh m s).2.2.2.2
 exact key l _
theorem Jm(m:a8)(s:Int):(qz m s).Progs=m.Progs:=by
 show (fN m s).Progs=m.Progs;rw[aJ]
theorem RA(l:List Int):∀m:a8,(l.foldl qz m).Progs=m.Progs:=by
 induction l with
 | nil=>exact λm=>rfl
 | cons s l ih=>exact λm=>(ih (qz m s)).trans (Jm m s)
theorem xf(m:a8):(kY m).Progs=m.Progs:=by
 have h1:∀m:a8,(rR m).Progs=m.Progs:=λm=>by
  unfold rR;split;·rfl
  .split;·exact Jm ..
   .exact HS ..
 have:∀n,(gj n m).Progs=m.Progs:=λn=>by
  induction n with
  | zero=>rfl
  | succ n ih=>rw[ji,h1,ih]
 exact this 100
def K3(m:a8)(r:Int):Int:=if r<0 then 0 else m.Roots.getD r.toNat 0
def qA(m:a8)(a s e:Int):a8 × Int × Int:=if e≠0 then (m,0,e) else (de m a.toNat s,s,0)
def AH(m:a8)(s k v:Int):a8 × Int × Int:=match m.Nodes.find? (λn=>n.Serial==s) with
 | none=>(m,0,2)
 | some n=>if ¬(0<=k/\k<n.Fields.length) then (m,0,5) else (xn (fN m v) (fF (fN m v).Nodes s λj=>VY j (n.Fields.set k.toNat v)),v,0)
def wA(m:a8)(s v:Int):a8 × Int × Int:=
 if v≠0/\m.Places<=((m.Pairs.filter λp=>p.Key != s).length:Int) then (m,0,8) else (Vn (fN m v) ((m.Pairs.filter λp=>p.Key != s)++if v=0 then [] else [⟨s,v⟩]),v,0)
def X8(m:a8)(o:j5):a8 × Int × Int:=
 if o.Kind=10 then (m,if K3 m o.A=K3 m o.B then 1 else 0,0)
 else if o.Kind=5 then (if K3 m o.A=0 then (m,0,2) else AH m (K3 m o.A) o.B (K3 m o.C))
 else if o.Kind=6 then (if 0<=o.B/\K3 m o.B=0 then (m,0,2) else if wb ⟨m.Tasks,30⟩ o.A=true then (m,0,7) else (KY m o.A.toNat (K3 m o.B) o.C,K3 m o.B,0))
 else if o.Kind=8 then (if K3 m o.A=0 then (m,0,2) else wA m (K3 m o.A) (K3 m o.B))
 else if o.Kind=1 then (if m.Slots.findIdx (· == 0)<m.Slots.length then (de (GJ m (m.Slots.findIdx (· == 0)) o.B.toNat o.C) o.A.toNat (m.Serial+1),m.Serial+1,0) else (m,0,4))
 else if o.Kind=2 then qA m o.A (K3 m o.B) 0
 else if o.Kind=4 then (if K3 m o.B=0 then (m,0,2) else match m.Nodes.find? (λn=>n.Serial==K3 m o.B) with
  | none=>(m,0,2)
  | some n=>if ¬(0<=o.C/\o.C<n.Fields.length) then (m,0,5) else qA m o.A (n.Fields.getD o.C.toNat 0) 0)
 else if o.Kind=7 then (if (m.b7.getD o.B.toNat cz).Target=0\/(m.b7.getD o.B.toNat cz).Intact=false then (m,0,9) else qA m o.A (m.b7.getD o.B.toNat cz).Target 0)
 else if o.Kind=9 then (if K3 m o.B=0 then (m,0,2) else match (m.Pairs.find? λp=>p.Key==K3 m o.B) with
  | none=>(m,0,9)
  | some p=>qA m o.A p.Val 0)
 else qA m o.A 0 0
def AE(m:a8)(o:j5):a8 × Int × Int:=if (X8 m o).2.2≠0 then (m,0,(X8 m o).2.2) else (kY (X8 m o).1,(X8 m o).2.1,0)
theorem Dn.fS{x z:Hp}{o:j5}{v:Int}(d:Dn x o z v):Sh.fS x o=(bA z,v,0):=by unfold Sh.fS;rw[d.mc];rfl
theorem Er.fS{x:Hp}{o:j5}{e:Int}(h:Er x o e):Sh.fS x o=(x,0,e):=by unfold Sh.fS;rw[h.2.1];rfl
section
variable{σ:Int->Int}{x:Hp}{m:a8}(hx:K0 x)(q:r8 σ x m)
include hx q
theorem r8.said(r:Int):K3 m r=σ (sd x r):=by
 unfold K3 sd;split;·exact q.gd.z.symm
 .rw[q.ro,zd,zA,zd];cases x.Roots[r.toNat]? with
  | none=>exact q.gd.z.symm
  | some v=>rfl
theorem r8.nR(r:Int):K3 m r=0↔sd x r=0:=by
 rw[q.said hx];exact q.gd.zero hx.sh.sr (MP hx.sh.sr q.gd (dV hx.sh r))
theorem r8.aH{h:Int}(hh:h=0\/h∈lv x.S):Sh.aH x h=σ h:=by
 rcases hh with e | hl
 .subst e;rw[Fg hx.sh,q.gd.z]
 .exact (q.gd.lv hx.sh.sr hl).symm
theorem r8.HO{h:Int}(hl:h∈lv x.S):m.Nodes.find? (λn=>n.Serial==σ h)=some (Sh.nd σ x.S (D7 h))/\(Sh.nd σ x.S (D7 h)).Fields=(ob x.S h).Fields.map σ:=by
 have p:=o6 hx.sh.sr hl;refine⟨q.find hx.sh.sr p.d,?_⟩;rw[F1 hx.sh.sr p];rfl
structure jZ (σ:Int->Int) (x:Hp) (m:a8) (o:j5):Prop where
 r:(∃e,e≠0/\X8 m o=(m,0,e)/\Sh.fS x o=(x,0,e))\/∃σ' z mz v,X8 m o=(mz,v,0)/\K0 z/\SL z/\r8 σ' z mz/\Sh.fS x o=(bA z,v,0)/\mz.Progs=m.Progs/\mz.Roots.length=6
theorem FY(s:Int):(fN m s).Progs=m.Progs:=by rw[aJ]
theorem yK{o:j5}{a h:Int}(hr:K0 (G2 x a.toNat h))(hs:SL (G2 x a.toNat h))(hh:h=0\/h∈lv x.S)(hp:X8 m o=(de m a.toNat (σ h),σ h,0))(hd:Sh.fS x o=(bA (G2 x a.toNat h),Sh.aH x h,0)):jZ σ x m o:=
 ⟨.inr ⟨σ,_,_,σ h,hp,hr,hs,q.G2 hx.sh hx.fair hh,by rw[hd,q.aH hx hh],by show (fN m (σ h)).Progs=_;exact FY hx q _,by
  show (m.Roots.set a.toNat (σ h)).length=6;rw[zap,q.ro,zl];exact hx.sh.r6⟩⟩
theorem ij{o:j5}{e:Int}(he:Er x o e)(hp:X8 m o=(m,0,e)):jZ σ x m o:=⟨.inl ⟨e,he.1,hp,he.fS⟩⟩
theorem XR(hS:SL x){a b c:Int}(hc:y4 2 a b c=0):jZ σ x m ⟨2,a,b,c⟩:=by
 have d:=d2 hx hS hc;refine yK hx q d.rt d.sl (dV hx.sh b) ?_ d.fS;show qA m a (K3 m b) 0=_;rw[q.said hx];rfl
theorem XS(hS:SL x){a b c:Int}(hc:y4 3 a b c=0):jZ σ x m ⟨3,a,b,c⟩:=by
 have d:=d3 hx hS hc;refine yK hx q (h:=0) d.rt d.sl (.inl rfl) ?_ (by rw[Fg hx.sh];exact d.fS);show qA m a 0 0=_;rw[q.gd.z];rfl
theorem WK(hS:SL x)(hz:zr x = []){a b c:Int}(hc:y4 10 a b c=0):jZ σ x m ⟨10,a,b,c⟩:=by
 have d:=d10 hx hS hz hc;refine⟨.inr ⟨σ,x,m,_,rfl,hx,hS,q,?_,rfl,?_⟩⟩
 .rw[d.fS];show (_,_,_)=(_,(if K3 m a=K3 m b then (1:Int) else 0),_);have:K3 m a=K3 m b↔sd x a=sd x b:=by
   rw[q.said hx,q.said hx];exact⟨λe=>q.gd.Vx hx.sh.sr (MP hx.sh.sr q.gd (dV hx.sh a)) (MP hx.sh.sr q.gd (dV hx.sh b)) e,λe=>by rw[e]⟩
  by_cases c':sd x a=sd x b
  .rw[zb c',zb (this.2 c')]
  .rw[za c',za λe=>c' (this.1 e)]
 .rw[q.ro,zl];exact hx.sh.r6
theorem XV(hS:SL x){a b c:Int}(hc:y4 7 a b c=0):jZ σ x m ⟨7,a,b,c⟩:=by
 obtain⟨h,d⟩:=d7 hx hS hc;have hg:m.b7.getD b.toNat cz=wx σ x.b7[b.toNat]:=by
  rw[q.ce,zd,zA,zc h];rfl
 have hp:X8 m ⟨7,a,b,c⟩=if (wx σ x.b7[b.toNat]).Target=0\/(wx σ x.b7[b.toNat]).Intact=false then (m,0,9) else qA m a (wx σ x.b7[b.toNat]).Target 0:=by
  rw[<-hg];rfl
 rcases d with ⟨hi,er⟩ | ⟨hi,d⟩;·exact ij hx q er (by rw[hp,zb (.inr hi)])
 .have hl:=((hx.sh.cl _ h).2.2.2.2 hi).1;refine yK hx q d.rt d.sl (.inr hl) ?_ d.fS;have h0:σ x.b7[b.toNat].Target≠0:=by have:=q.gd.ps hx.sh.sr hl;omega
  rw[hp,za];·rfl
  .rintro (e | e);·exact h0 e
   .have:x.b7[b.toNat].Intact=false:=e;rw[hi] at this;cases this
theorem XX(hS:SL x){a b c:Int}(hc:y4 9 a b c=0):jZ σ x m ⟨9,a,b,c⟩:=by
 have hR:=hx.sh.sr;have hp0:K3 m b=0->X8 m ⟨9,a,b,c⟩=(m,0,2):=λe=>by
  show (if K3 m b=0 then (m,0,2) else _)=_;rw[zb e]
 have hp1:K3 m b≠0->X8 m ⟨9,a,b,c⟩=match (m.Pairs.find? λp=>p.Key==K3 m b) with
  | none=>(m,0,9)
  | some p=>qA m a p.Val 0:=λe=>by
  show (if K3 m b=0 then (m,0,2) else _)=_;rw[za e]
 rcases d9 hx hS hc with ⟨e,er⟩ | ⟨hl,hno,er⟩ | ⟨hl,v,hv,d⟩;·exact ij hx q er (hp0 ((q.nR hx b).2 e))
 .have h0:K3 m b≠0:=λe=>eP hR ((q.nR hx b).1 e▸hl);refine ij hx q er ?_;rw[hp1 h0];have:(m.Pairs.find? λp=>p.Key==K3 m b)=none:=by
   rw[zcf];intro p hp e;obtain⟨k,v,hh,rfl⟩:=(q.p2 p).1 hp;have e:σ k=K3 m b:=by simpa using e
   rw[q.said hx] at e;have:=q.gd.inl hR (hx.sh.pr k v hh).1 hl e;subst this;exact hno v hh
  rw[this]
 .have h0:K3 m b≠0:=λe=>eP hR ((q.nR hx b).1 e▸hl);have hvl:=(hx.sh.pr _ _ hv).2;refine yK hx q d.rt d.sl (.inr hvl) ?_ d.fS;rw[hp1 h0];cases hf:(m.Pairs.find? λp=>p.Key==K3 m b) with
  | none=>
   rw[zcf] at hf;have:=hf ⟨σ (sd x b),σ v⟩ ((q.p2 _).2 ⟨_,_,hv,rfl⟩);exact absurd (by rw[q.said hx];simp) this
  | some p=>
   obtain⟨k,u,hh,rfl⟩:=(q.p2 p).1 (List.mem_of_find?_eq_some hf);have e:σ k=K3 m b:=by have:=List.find?_some hf;simpa using this
   rw[q.said hx] at e;have:=q.gd.inl hR (hx.sh.pr k u hh).1 hl e;subst this;rw[Has.fn hx.sh.hr hh hv];rfl
theorem XT(hS:SL x){a b c:Int}(hc:y4 4 a b c=0):jZ σ x m ⟨4,a,b,c⟩:=by
 have hR:=hx.sh.sr;have hp0:K3 m b=0->X8 m ⟨4,a,b,c⟩=(m,0,2):=λe=>by
  show (if K3 m b=0 then (m,0,2) else _)=_;rw[zb e]
 have hp1:sd x b∈lv x.S->X8 m ⟨4,a,b,c⟩=if ¬(0<=c/\c<(ob x.S (sd x b)).Fields.length) then (m,0,5) else qA m a (((ob x.S (sd x b)).Fields.map σ).getD c.toNat 0) 0:=λhl=>by
  have h0:K3 m b≠0:=λe=>eP hR ((q.nR hx b).1 e▸hl);obtain⟨hf,hfl⟩:=q.HO hx hl;show (if K3 m b=0 then (m,0,2) else match m.Nodes.find? (λn=>n.Serial==K3 m b) with
   | none=>(m,0,2)
   | some n=>if ¬(0<=c/\c<n.Fields.length) then (m,0,5) else qA m a (n.Fields.getD c.toNat 0) 0)=_
  rw[za h0,q.said hx,hf];dsimp only;rw[hfl,zl]
 rcases dV hx.sh b with e0 | hl
 .have er2:Er x ⟨4,a,b,c⟩ 2:=by
   rcases d4 hx hS hc with ⟨_,er⟩ | ⟨e,hf,er⟩ | ⟨hl,_⟩;·exact er
   .rw[e0] at hf;have:e=2:=by
     unfold J4 at hf;have hg:y5 x.S 0=some (z0,2):=by
      have:=ya (s:=x.S.S) (h:=0) (by decide) (λi hi=>by
       have:=((ru hR).1 hi).KJ hR;omega)
      unfold y5;rw[this];rfl
     rw[hg] at hf;have:=zJ hf;exact (zX Prod.snd this).symm
    rw[<-this];exact er
   .rw[e0] at hl;exact absurd hl (eP hR)
  exact ij hx q er2 (hp0 ((q.nR hx b).2 e0))
 .by_cases hcc:0<=c/\c<(ob x.S (sd x b)).Fields.length
  .have hp:=hp1 hl;rw[za (λd=>d hcc)] at hp;rcases d4 hx hS hc with ⟨e,_⟩ | ⟨e,hf,er⟩ | ⟨_,n,rfl,hn,d⟩;·exact absurd (e▸hl) (eP hR)
   .exfalso;obtain⟨n,rfl⟩:∃n:Nat,c=n:=⟨c.toNat,by omega⟩;rw[Ed hR hl (by omega)] at hf;exact er.1 (zX Prod.snd (zJ hf)).symm
   .refine yK hx q d.rt d.sl (hx.sh.fl _ hl _ (zh hn)) ?_ d.fS;rw[hp,zP,zd,zA,zc hn];rfl
  .refine ij hx q (e:=5) ?_ (by rw[hp1 hl,zb hcc]);rcases d4 hx hS hc with ⟨e,_⟩ | ⟨e,hf,er⟩ | ⟨_,n,rfl,hn,d⟩;·exact absurd (e▸hl) (eP hR)
   .have:e=5:=by
     unfold J4 at hf;rw[uR (A2.2 hR) hl,Yz,za (by simp),(HM hcc).1] at hf;exact (zX Prod.snd (zJ hf)).symm
    rw[<-this];exact er
   .exact absurd ⟨by omega,by omega⟩ hcc
end
section
variable{σ:Int->Int}{x:Hp}{m:a8}(hx:K0 x)(q:r8 σ x m)
include hx q
theorem r8.r6:m.Roots.length=6:=by rw[q.ro,zl];exact hx.sh.r6
theorem XU(hS:SL x){a b c:Int}(hc:y4 5 a b c=0):jZ σ x m ⟨5,a,b,c⟩:=by
 have hR:=hx.sh.sr;have hp0:K3 m a=0->X8 m ⟨5,a,b,c⟩=(m,0,2):=λe=>by
  show (if K3 m a=0 then (m,0,2) else _)=_;rw[zb e]
 have hp1:sd x a∈lv x.S->X8 m ⟨5,a,b,c⟩=if ¬(0<=b/\b<(ob x.S (sd x a)).Fields.length) then (m,0,5) else (xn (fN m (σ (sd x c))) (fF (fN m (σ (sd x c))).Nodes (σ (sd x a)) λj=>VY j (((ob x.S (sd x a)).Fields.map σ).set b.toNat (σ (sd x c)))),σ (sd x c),0):=λhl=>by
  have h0:K3 m a≠0:=λe=>eP hR ((q.nR hx a).1 e▸hl);obtain⟨hf,hfl⟩:=q.HO hx hl;show (if K3 m a=0 then (m,0,2) else AH m (K3 m a) b (K3 m c))=_;rw[za h0,q.said hx,q.said hx];unfold AH;rw[hf];dsimp only;rw[hfl,zl]
 rcases dV hx.sh a with e0 | hl
 .have er2:Er x ⟨5,a,b,c⟩ 2:=by
   rcases d5 hx hS hc with ⟨_,er⟩ | ⟨e,hf,er⟩ | ⟨hl,_⟩;·exact er
   .rw[e0] at hf;have:e=2:=by
     unfold ax J4 at hf;have hg:y5 x.S 0=some (z0,2):=by
      have:=ya (s:=x.S.S) (h:=0) (by decide) (λi hi=>by
       have:=((ru hR).1 hi).KJ hR;omega)
      unfold y5;rw[this];rfl
     rw[hg] at hf;have:=zJ hf;exact (zX Prod.snd this).symm
    rw[<-this];exact er
   .rw[e0] at hl;exact absurd hl (eP hR)
  exact ij hx q er2 (hp0 ((q.nR hx a).2 e0))
 .by_cases hcc:0<=b/\b<(ob x.S (sd x a)).Fields.length
  .have hp:=hp1 hl;rw[za (λd=>d hcc)] at hp;have hv:=dV hx.sh c;rcases xK hx hS (sd x a) b (sd x c) (jM hx.sh a) (jM hx.sh c) with ⟨e,he,f1,_⟩ | ⟨_,_,n,rfl,hn,f0,_⟩
   .exfalso;obtain⟨n,rfl⟩:∃n:Nat,b=n:=⟨b.toNat,by omega⟩;unfold ax at f1;rw[Ed hR hl (by omega),Yz,za (by simp),N2 hR (jM hx.sh c),Yz,zD hv,za (by simp)] at f1;cases g:G0 x (ob x.S (sd x a)).Fields[n] (sd x c) (⟨sd x a,n,sd x c⟩:H3) with
    | none=>rw[g] at f1;cases f1
    | some w=>
     rw[g] at f1;exact he (zX Prod.snd (zJ f1)).symm
   .rcases d5 hx hS hc with ⟨e,_⟩ | ⟨e,hf,er⟩ | ⟨_,k,hk,hkn,d⟩;·exact absurd (e▸hl) (eP hR)
    .exfalso;rcases xK hx hS (sd x a) n (sd x c) (jM hx.sh a) (jM hx.sh c) with ⟨e,he,f1,_⟩ | ⟨_,_,n',h',hn',f1,_⟩
     .rw[f0] at f1;exact he (zX Prod.snd (zJ f1)).symm
     .rw[hf] at f1;exact er.1 (zX Prod.snd (zJ f1))
    .have:k=n:=by omega
     subst this;refine⟨.inr ⟨σ,_,_,_,hp,d.rt,d.sl,?_,?_,?_,?_⟩⟩
     .rw[zP];exact q.bG hx.sh hx.fair hl hv
     .rw[d.fS,q.aH hx hv]
     .show (fN m _).Progs=_;exact FY hx q _
     .show (fN m (σ (sd x c))).Roots.length=_;rw[aJ];exact (q.r6 hx:m.Roots.length=6)
  .refine ij hx q (e:=5) ?_ (by rw[hp1 hl,zb hcc]);rcases d5 hx hS hc with ⟨e,_⟩ | ⟨e,hf,er⟩ | ⟨_,n,rfl,hn,d⟩;·exact absurd (e▸hl) (eP hR)
   .obtain rfl:e=5:=by
     unfold ax J4 at hf;rw[uR (A2.2 hR) hl,Yz,za (by simp),(HM hcc).1] at hf;exact (zX Prod.snd (zJ hf)).symm
    exact er
   .exact absurd ⟨by omega,by omega⟩ hcc
theorem r8.Yc(k:Int):Sh.wb ⟨m.Tasks,30⟩ k=Sh.wb x.Q k:=by
 rw[za8,gJ,gJ];have hk:∀t:g7,(tx σ t).Kind=t.Kind/\(t.Kind=2->(tx σ t).At=t.At):=λt=>by
  unfold tx;split;·rename_i h;exact⟨h.symm,λe=>by omega⟩
  .exact⟨rfl,λ_=>rfl⟩
 constructor
 .rintro⟨u,hu,k1,k2⟩;have hu:u∈x.Q.L.map (tx σ):=by rw[<-q.tk];exact hu
  obtain⟨t,ht,rfl⟩:=zq.1 hu;have:=(hk t).1;exact⟨t,ht,by omega,by rw[<-(hk t).2 (by omega)];exact k2⟩
 .rintro⟨t,ht,k1,k2⟩;refine⟨tx σ t,?_,by rw[(hk t).1];exact k1,by rw[(hk t).2 k1];exact k2⟩;show _∈m.Tasks;rw[q.tk];exact zby ht
theorem FI(w:Nat)(s call:Int):(KY m w s call).Progs=m.Progs/\(KY m w s call).Roots=m.Roots:=by
 unfold KY DS;split;·exact⟨rfl,rfl⟩
 .split <;> exact⟨rfl,rfl⟩
theorem pre6(hS:SL x){a b c:Int}(hc:y4 6 a b c=0):jZ σ x m ⟨6,a,b,c⟩:=by
 have hR:=hx.sh.sr;obtain⟨ha,hb,hcc⟩:=PI hc;have hp:X8 m ⟨6,a,b,c⟩=if 0<=b/\K3 m b=0 then (m,0,2) else if Sh.wb ⟨m.Tasks,30⟩ a=true then (m,0,7) else (KY m a.toNat (K3 m b) c,K3 m b,0):=rfl
 rw[q.Yc hx,q.said hx] at hp;have hl:=dV hx.sh b;have hz:σ (sd x b)=0↔sd x b=0:=by rw[<-q.said hx];exact q.nR hx b
 by_cases h0:0<=b/\sd x b=0
 .have er2:Er x ⟨6,a,b,c⟩ 2:=by
   have hm:u6 x ⟨6,a,b,c⟩=_:=Tq hc;unfold L4 at hm;rw[za (by simp;omega),je hx.sh,Yz] at hm;have has:Au x b=(0,2):=by unfold Au;rw[zb h0.2]
   rw[has,zb (by simp)] at hm;refine⟨by decide,?_,?_⟩
   .rw[hm,Yz];exact kg (e:=2) (by decide)
   .trivial
  exact ij hx q er2 (by rw[hp,zb ⟨h0.1,hz.2 h0.2⟩])
 .rw[za (λd=>h0 ⟨d.1,hz.1 d.2⟩)] at hp;have key:(∃e,R7 x a (sd x b) c=some (x,e)/\Er x ⟨6,a,b,c⟩ e)\/(wb x.Q a=false/\Dn x ⟨6,a,b,c⟩ (cH x a.toNat (sd x b) c) (aH x (sd x b))):=by
   rcases d6 hx hS hc with ⟨e,er⟩ | k | k
   .exfalso;have hb1:b = -1:=by omega
    subst hb1;have hm:u6 x ⟨6,a,-1,c⟩=_:=Tq hc;rw[er.2.1] at hm;unfold L4 at hm;rw[zb (by rfl)] at hm;rcases DE hx a 0 c (by omega) hcc with ⟨e',he',f1,_⟩ | ⟨_,n,rfl,hn,hw,f1,_⟩
    .rw[f1,Yz,Yz,kg he'] at hm;have:=FF hx ha (.inl rfl) (by omega) hcc f1 he';have:=zX (λp=>p.2.2) (zJ hm);dsimp only at this;omega
    .rw[f1,Yz,Yz] at hm;have:=RY (a:=(n:Int)) (b:=-1) (c:=c) (z:=cH x n 0 c) (vW hx hn (.inl rfl) hcc hw) (FE hx hS hn _ _) (k:=6) (r:=-1) (x:=x) (.inr ⟨.inl rfl,rfl⟩);dsimp only at hm;rw[this] at hm;have:=zX (λp=>p.2.2) (zJ hm);exact absurd (show (2:Int)=0 from this) (by decide)
   .exact .inl k
   .exact .inr k
  rcases key with ⟨e,hf,er⟩ | ⟨hw,d⟩
  .obtain rfl:=FF hx ha hl (jM hx.sh b) hcc hf er.1;refine ij hx q er ?_;rcases DE hx a (sd x b) c (jM hx.sh b) hcc with ⟨e',he',f1,_⟩ | ⟨_,n,rfl,hn,hw,f1,_⟩
   .rw[hp,zb];unfold R7 at hf;obtain⟨n,rfl⟩:∃n:Nat,a=n:=⟨a.toNat,by omega⟩;have c6:=hx.sh.c6;have q30:=hx.sh.q30;have e1:((decide ((n:Int)<0))||(decide ((n:Int)>=(x.b7.length:Int))))=false:=by rw[c6];simp;omega
    rw[e1] at hf;simp only[q9,iI,zca] at hf;have hwq:aG x.Q n=some (wb x.Q n):=xh (by omega);rw[hwq,Yz,N2 hR (jM hx.sh b),Yz,zD hl] at hf;cases hw:wb x.Q n
    .exfalso;rw[hw,za (by decide),za (by decide)] at hf;cases g1:jO x.b7 n (sd x b) c with
     | none=>rw[g1] at hf;cases hf
     | some a=>
      rw[g1,Yz] at hf;cases g2:ah ⟨x.S,x.Roots,a.1,x.T,x.Q⟩ (sd x b) 1 with
      | none=>rw[g2] at hf;cases hf
      | some b'=>
       rw[g2,Yz] at hf;cases g3:aU b' a.2.1 with
       | none=>rw[g3] at hf;cases hf
       | some d=>
        rw[g3,Yz] at hf;exact absurd (zX (λp=>p.2) (zJ hf)) (by simp)
    .rfl
   .rw[hf] at f1;exact absurd (zX Prod.snd (zJ f1)) (by simp)
  .rw[hw,za (by simp)] at hp;refine⟨.inr ⟨σ,_,_,_,hp,d.rt,d.sl,q.cH hx (by omega) hl,by rw[d.fS,q.aH hx hl],?_,?_⟩⟩;·exact (FI hx q ..).1
   .rw[(FI hx q ..).2];exact q.r6 hx
end
section
variable{σ:Int->Int}{x:Hp}{m:a8}(hx:K0 x)(q:r8 σ x m)
include hx q
theorem r8.Yt{k:Int}(hk:k∈lv x.S):(m.Pairs.filter λp=>p.Key != σ k).length=(x.T.filter λp=>p.State==1&&p.Key != k).length:=by
 have hR:=hx.sh.sr;rw[((q.perm hx.sh).filter _).length_eq,jE,za2,zcs,zl,zan];congr 1;refine pm λp hp=>?_;show ((σ p.Key != σ k)&&(p.State==1))=_;by_cases h1:p.State=1
 .obtain⟨i,hi,rfl⟩:=wt hp;have hh:Has x.T x.T[i].Key x.T[i].Val:=⟨i,⟨hi,by rw[lN hi];exact h1,by rw[lN hi]⟩,by rw[lN hi]⟩;have hl:=(hx.sh.pr _ _ hh).1;by_cases c:x.T[i].Key=k
  .rw[c];simp
  .have:σ x.T[i].Key≠σ k:=λe=>c (q.gd.inl hR hl hk e);have a1:(σ x.T[i].Key != σ k)=true:=bne_iff_ne.2 this;have a2:(x.T[i].Key != k)=true:=bne_iff_ne.2 c;rw[a1,a2,zbc,Bool.and_true]
 .have:(p.State==1)=false:=beq_eq_false_iff_ne.2 h1;rw[this,Bool.and_false,Bool.false_and]
theorem r8.full{k:Int}(hk:k∈lv x.S):m.Places<=((m.Pairs.filter λp=>p.Key != σ k).length:Int)↔(∀i,¬Fk x.T k i)/\∀i,i<x.T.length->(pt x.T i).State=1:=by
 rw[q.Yt hx hk,q.npl];have hle:=zB (λp:g6=>p.State==1&&p.Key != k) x.T;constructor
 .intro h;have e:(x.T.filter λp=>p.State==1&&p.Key != k).length=x.T.length:=by omega
  rw[List.length_filter_eq_length_iff] at e;have e':∀i,i<x.T.length->(pt x.T i).State=1/\(pt x.T i).Key≠k:=λi hi=>by
   rw[lN hi];simpa using e _ (zh hi)
  exact⟨λi hi=>(e' i hi.1).2 hi.2.2,λi hi=>(e' i hi).1⟩
 .rintro⟨h1,h2⟩;have e:(x.T.filter λp=>p.State==1&&p.Key != k).length=x.T.length:=by
   rw[List.length_filter_eq_length_iff];intro p hp;obtain⟨i,hi,rfl⟩:=wt hp;have a:=h2 i hi;have b:(pt x.T i).Key≠k:=λe=>h1 i ⟨hi,a,e⟩;rw[lN hi] at a b;simp[a,b]
  omega
theorem KC(s v:Int)(h:¬(v≠0/\m.Places<=((m.Pairs.filter λp=>p.Key != s).length:Int))):wA m s v=(Vn (fN m v) ((m.Pairs.filter λp=>p.Key != s)++if v=0 then [] else [⟨s,v⟩]),v,0):=by
 unfold wA;rw[za h]
theorem XW(hS:SL x){a b c:Int}(hc:y4 8 a b c=0):jZ σ x m ⟨8,a,b,c⟩:=by
 have hR:=hx.sh.sr;have hl:=dV hx.sh b;have hz:σ (sd x b)=0↔sd x b=0:=by rw[<-q.said hx];exact q.nR hx b
 have hp0:K3 m a=0->X8 m ⟨8,a,b,c⟩=(m,0,2):=λe=>by
  show (if K3 m a=0 then (m,0,2) else _)=_;rw[zb e]
 have hp1:sd x a∈lv x.S->X8 m ⟨8,a,b,c⟩=wA m (σ (sd x a)) (σ (sd x b)):=λha=>by
  have h0:K3 m a≠0:=λe=>eP hR ((q.nR hx a).1 e▸ha);show (if K3 m a=0 then (m,0,2) else wA m (K3 m a) (K3 m b))=_;rw[za h0,q.said hx,q.said hx]
 rcases d8 hx hS hc with ⟨e,er⟩ | ⟨hk,e,hf,er⟩ | ⟨hk,r,hr,r0,d⟩;·exact ij hx q er (hp0 ((q.nR hx a).2 e))
 .obtain rfl:=NA hx hS hk hl hf er.1;refine ij hx q er ?_;rw[hp1 hk];unfold wA;rw[zb];have k0:sd x a≠0:=λe=>eP hR (e▸hk);unfold bY at hf;rw[za (by simpa using k0),N2 hR (tz hx hS (.inr hk)),Yz,N2 hR (tz hx hS hl),zD (.inr hk),zD hl] at hf;simp only[zch,q9,iI,Yz,Bool.or_self,zC,t8] at hf;obtain⟨r,r1,_,_,r5⟩:=dK hx.sh.hr (sd x a) (sd x b);rw[r1,Yz] at hf;have hne:r.2.2≠0:=λh0=>by
   rw[za (by simpa using h0)] at hf;cases g:E0 x r.2.1 (sd x b) ⟨r.1⟩ with
   | none=>rw[g] at hf;cases hf
   | some w=>
    rw[g,Yz] at hf;exact absurd (zX (λp=>p.2) (zJ hf)) (by simp)
  rcases r5 with ⟨e,rfl⟩ | ⟨_,_,⟨i,hi,rfl⟩ | ⟨_,rfl⟩⟩ | ⟨_,hv,⟨i,hi,rfl⟩ | ⟨d,_,_,_,_,rfl⟩ | ⟨h1,h2,rfl⟩⟩;·exact absurd e k0
  .exact absurd rfl hne
  .exact absurd rfl hne
  .exact absurd rfl hne
  .exact absurd rfl hne
  .exact⟨λe=>hv (hz.1 e),(q.full hx hk).2 ⟨h1,h2⟩⟩
 .have hno:¬(σ (sd x b)≠0/\m.Places<=((m.Pairs.filter λp=>p.Key != σ (sd x a)).length:Int)):=by
   rintro⟨hv,hf⟩;obtain⟨h1,h2⟩:=(q.full hx hk).1 hf;have hv:sd x b≠0:=λe=>hv (hz.2 e);obtain⟨r',r1,_,_,r5⟩:=dK hx.sh.hr (sd x a) (sd x b);rw[hr] at r1;obtain rfl:=zJ r1;rcases r5 with ⟨e,rfl⟩ | ⟨_,e,_⟩ | ⟨_,_,⟨i,hi,rfl⟩ | ⟨j,_,hd,hs,_,rfl⟩ | ⟨_,_,rfl⟩⟩;·exact absurd r0 (by simp)
   .exact hv e
   .exact h1 i hi
   .exact hs (h2 j hd)
   .exact absurd r0 (by simp)
  have hp:=hp1 hk;rw[KC hx q _ _ hno] at hp;have S:=q.iJ hx.sh hx.fair hk hl hr r0;have hif:(if sd x b=0 then ([]:List k7) else [⟨σ (sd x a),σ (sd x b)⟩])=if σ (sd x b)=0 then [] else [⟨σ (sd x a),σ (sd x b)⟩]:=by
   by_cases e:sd x b=0
   .rw[zb e,zb (hz.2 e)]
   .rw[za e,za λf=>e (hz.1 f)]
  rw[hif] at S;refine⟨.inr ⟨σ,_,_,_,hp,d.rt,d.sl,S,by rw[d.fS,q.aH hx hl],?_,?_⟩⟩;·show (fN m _).Progs=_;exact FY hx q _
  .show (fN m (σ (sd x b))).Roots.length=_;rw[aJ];exact (q.r6 hx:m.Roots.length=6)
theorem r8.Vf{i:Nat}(hi:i<x.S.S.b7.length):Oe (Sh.ce x.S i)=0↔(Sh.ce x.S i).State=0:=by
 have hR:=hx.sh.sr;have hc:=hR.cell i hi;unfold Oe;split
 .rename_i t;have:=(hR.ok i hi t).s1;unfold Th at t;omega
 .rename_i t;unfold Th at t;split;·omega
  .omega
theorem r8.Xs:m.Slots.length=x.S.S.b7.length:=by rw[q.sl];simp
theorem r8.Ya{i:Nat}(hi:i<m.Slots.length):m.Slots[i]=Oe (Sh.ce x.S i):=by
 have:=q.sl;simp only[this,t7,List.getElem_range]
theorem r8.fst{i:Nat}(h:VE x.S i):m.Slots.findIdx (· == 0)=i:=by
 obtain⟨h1,h2,h3⟩:=h;have hi:i<m.Slots.length:=by rw[q.Xs hx];exact h1
 rw[List.findIdx_eq hi];refine⟨?_,λj hj=>?_⟩;·rw[q.Ya hx hi,pu];exact (q.Vf hx h1).2 h2
 .rw[q.Ya hx (by omega),beq_eq_false_iff_ne];exact λe=>h3 j hj ((q.Vf hx (by omega)).1 e)
theorem r8.Sp(h:∀i,i<x.S.S.b7.length->(Sh.ce x.S i).State≠0):¬m.Slots.findIdx (· == 0)<m.Slots.length:=by
 rw[List.findIdx_lt_length];rintro⟨v,hv,e⟩;obtain⟨i,hi,rfl⟩:=wt hv;have h1:i<x.S.S.b7.length:=by rw[<-q.Xs hx];exact hi
 rw[q.Ya hx hi,pu] at e;exact h i h1 ((q.Vf hx h1).1 e)
theorem XQ(hS:SL x)(hb:x.S.Serial<9223372036854775807){a b c:Int}(hc:y4 1 a b c=0):jZ σ x m ⟨1,a,b,c⟩:=by
 have hR:=hx.sh.sr;obtain⟨ha,hbb,hcc⟩:=Td hc;have hp:X8 m ⟨1,a,b,c⟩=if m.Slots.findIdx (· == 0)<m.Slots.length then (de (GJ m (m.Slots.findIdx (· == 0)) b.toNat c) a.toNat (m.Serial+1),m.Serial+1,0) else (m,0,4):=rfl
 rcases d1 hx hS hb hc with ⟨e,hf,er⟩ | ⟨hn,_,i,hF,d⟩
 .rcases MS hR hb b c with ⟨h,_⟩ | ⟨_,h,_⟩ | ⟨_,_,h,g⟩ | ⟨_,_,i,_,g⟩;·exact absurd hbb h
  .exact absurd hcc h
  .rw[hf] at g;obtain rfl:e=4:=zX (λp=>p.2.2) (zJ g);exact ij hx q er (by rw[hp,za (q.Sp hx h)])
  .rw[hf] at g;exact absurd (zX (λp=>p.2.2) (zJ g)) er.1
 .obtain⟨hi,h0,_⟩:=id hF;obtain⟨σ',S,e1⟩:=q.mk' hx hi h0 hn hcc;have hy:=yr hx hi h0 hn hcc;have hh:bX x.S i=0\/bX x.S i∈lv (wS x (dp x.S i b.toNat c)).S:=.inr (by
   show _∈lv (dp x.S i b.toNat c);rw[BA hR hi h0 hn hcc];exact t6 _ (zp.2 rfl))
  have S2:=S.G2 (r:=a.toNat) hy.sh hy.fair hh;rw[e1] at S2;rw[q.fst hx hF,zb (by rw[q.Xs hx];exact hi),q.se] at hp;refine⟨.inr ⟨σ',_,_,_,hp,d.rt,d.sl,S2,d.fS,?_,?_⟩⟩
  .show (fN (GJ m i b.toNat c) (x.S.Serial+1)).Progs=_;rw[aJ];rfl
  .show ((GJ m i b.toNat c).Roots.set a.toNat _).length=6;rw[zap];exact (q.r6 hx:m.Roots.length=6)
theorem vh(hS:SL x)(hz:zr x = [])(hb:x.S.Serial<9223372036854775807){o:j5}(hc:y4 o.Kind o.A o.B o.C=0)(hk:o.Kind<=10):jZ σ x m o:=by
 obtain⟨k,a,b,c⟩:=o;dsimp only at hc hk;have:=tt hc;have hk:k=1\/k=2\/k=3\/k=4\/k=5\/k=6\/k=7\/k=8\/k=9\/k=10:=by omega
 rcases hk with rfl | rfl | rfl | rfl | rfl | rfl | rfl | rfl | rfl | rfl
 .exact XQ hx q hS hb hc
 .exact XR hx q hS hc
 .exact XS hx q hS hc
 .exact XT hx q hS hc
 .exact XU hx q hS hc
 .exact pre6 hx q hS hc
 .exact XV hx q hS hc
 .exact XW hx q hS hc
 .exact XX hx q hS hc
 .exact WK hx q hS hz hc
end
theorem TP{l:List Int}(hl:l.length<=1000):H0 l 0=some (if l.findIdx (· == 0)<l.length then (l.findIdx (· == 0):Int) else -1):=by
 unfold H0;simp only[jn];refine fU l.length (λi=>i<=l.findIdx (· == 0)) (by omega) (zV _) (λi hi hik=>?_) (λhlk=>⟨.inr (),by simp,by rw[za (by omega)]⟩);rw[zb (by simpa using hi),u5 hi,Yz];rcases zE i (l.findIdx (· == 0)) with c | c
 .left;have:=List.not_of_lt_findIdx c;have h0:l[i]≠0:=by simpa using this
  rw[za (by simpa using λe=>h0 e.symm),o5 (by omega)];exact⟨rfl,c⟩
 .have e:i=l.findIdx (· == 0):=by omega
  right;have hlt:l.findIdx (· == 0)<l.length:=by omega
  have:(l[l.findIdx (· == 0)]==0)=true:=List.findIdx_getElem (w:=hlt) (p:=(· == 0));have h0:l[i]=0:=by simp only[e];simpa using this
  rw[zb (by rw[h0];rfl),zb hlt,e];exact⟨_,rfl,rfl⟩
theorem RO{l:List Int}(hl:l.length<=1000)(k v:Int):mf l k v=some (if 0<=k/\k<l.length then (l.set k.toNat v,0) else (l,5)):=by
 unfold mf gH;rw[Yz];by_cases c:0<=k/\k<l.length
 .obtain⟨n,rfl⟩:∃n:Nat,k=n:=⟨k.toNat,by omega⟩;have hn:n<l.length:=by omega
  rw[za (by simp;omega),ky (by omega) (by omega),Yz];have e:wX (List.replicate l.length (0:Int)) l=some l:=by
   unfold wX;rw[zb (by simp)];simp
  rw[e,Yz,u5 hn,Yz,zb c]
 .rw[za c,zb (by simp;omega)]
theorem SX(l:List Int)(k:Int):iE l k=some (if 0<=k/\k<l.length then (l.getD k.toNat 0,0) else (0,5)):=by
 by_cases c:0<=k/\k<l.length
 .obtain⟨n,rfl⟩:∃n:Nat,k=n:=⟨k.toNat,by omega⟩;have hn:n<l.length:=by omega
  unfold iE gH;rw[Yz,za (by simp;omega),u5 hn,Yz,zb c,zP,zd,zc hn];rfl
 .rw[(HM c).1,za c]
theorem Qp{l:List k9}{n:Nat}(hn:n<l.length):cD l n=some (if l[n].Target=0\/l[n].Intact=false then (0,9) else (l[n].Target,0)):=by
 unfold cD jP;have:(decide ((n:Int)>=0)&&decide ((n:Int)<(l.length:Int)))=true:=by simp;omega
 rw[this,Yz,za (by simp),u5 hn,Yz];by_cases q:l[n].Target=0\/l[n].Intact=false
 .rw[zb q,zb (by rcases q with q | q <;> simp[q])]
 .rw[za q,za (by simpa using q)]
section
variable{σ:Int->Int}{x:Hp}{m:a8}(hx:K0 x)(q:r8 σ x m)
include hx q
theorem r8.Xn{h:Int}(hh:h=0\/h∈lv x.S):σ h=0\/∃n,m.Nodes.find? (λn=>n.Serial==σ h)=some n:=by
 rcases hh with e | hl
 .left;rw[e];exact q.gd.z
 .exact .inr ⟨_,(q.HO hx hl).1⟩
theorem EC{a:Int}(ha:0<=a/\a<=5){h:Int}(hh:h=0\/h∈lv x.S):aB m a (σ h)=some (kY (de m a.toNat (σ h)),⟨σ h,0⟩):=by
 obtain⟨r,rfl⟩:∃r:Nat,a=r:=⟨a.toNat,by omega⟩;have S:=q.G2 (r:=r) hx.sh hx.fair hh;have hz:=bO hx (r:=r) (by omega) hh;have S2:=S.bA hz;have r6:=q.r6 hx;unfold aB;rw[ym (q.bn hx.sh.sr) (q.bl hx.sh) (q.Xn hx hh) (by omega),Yz,lD hz S,Yz,zP];have e:(kY (de m r (σ h))).Roots=m.Roots.set r (σ h):=by
  rw[S2.ro,(lY hz).rt,<-S.ro];rfl
 have hl:r<(kY (de m r (σ h))).Roots.length:=by rw[e,zap];omega
 rw[u5 hl,Yz];have:(kY (de m r (σ h))).Roots[r]=σ h:=by simp only[e,List.getElem_set_self]
 rw[this]
theorem yn{r:Int}(hr:r<=5):T2 m r=some (K3 m r):=by
 have r6:=q.r6 hx;unfold T2 K3;by_cases c:r<0
 .rw[zb (by simpa using c),zb c]
 .obtain⟨n,rfl⟩:∃n:Nat,r=n:=⟨r.toNat,by omega⟩;have hn:n<m.Roots.length:=by omega
  rw[za (by simp),za c,u5 hn,Yz,zP,zd,zc hn];rfl
theorem GG{r:Int}(h0:0<=r)(hr:r<=5):ix m.Roots r=some (K3 m r):=by
 have:=yn hx q hr;unfold T2 at this;rw[za (by simp;omega)] at this;cases g:ix m.Roots r with
 | none=>rw[g] at this;cases this
 | some v=>rw[g] at this;exact this
theorem tB{r:Int}(hr:r<=5):(K3 m r=0/\∃z,O0 m r=some (z,2))\/(K3 m r≠0/\sd x r∈lv x.S/\∃n,m.Nodes.find? (λn=>n.Serial==K3 m r)=some n/\n.Serial=K3 m r/\n.Fields=(ob x.S (sd x r)).Fields.map σ/\O0 m r=some (n,0)):=by
 unfold O0;rw[yn hx q hr,Yz];by_cases c:K3 m r=0
 .rw[zb (by simpa using c)];exact .inl ⟨c,_,rfl⟩
 .rw[za (by simpa using c)];have hl:=(dV hx.sh r).resolve_left λe=>c ((q.nR hx r).2 e);obtain⟨hf,hfl⟩:=q.HO hx hl;rw[<-q.said hx] at hf;obtain⟨k,hk,e1,e2⟩:=yk (q.bn hx.sh.sr) hf;rw[e2,Yz,u5 hk,Yz,e1];exact .inr ⟨c,hl,_,hf,(lz hf).1,hfl,rfl⟩
theorem Qx{k a b c:Int}(hc:y4 k a b c=0)(hk:k=2\/k=3\/k=4\/k=7\/k=9):∃v e,bJ m ⟨k,a,b,c⟩=some (v,e) /\
  X8 m ⟨k,a,b,c⟩=(if e≠0 then (m,0,e) else (de m a.toNat v,v,0))/\(e=0->∃h,(h=0\/h∈lv x.S)/\v=σ h):=by
 have r6:=q.r6 hx;rcases hk with rfl | rfl | rfl | rfl | rfl
 .obtain⟨ha,hb⟩:=LL hc;refine⟨K3 m b,0,?_,rfl,λ_=>⟨_,dV hx.sh b,q.said hx b⟩⟩;show ((ix m.Roots b).bind λv1=>some (v1,(0:Int)))=_;rw[GG hx q (by omega) (by omega)];rfl
 .exact⟨0,0,rfl,rfl,λ_=>⟨0,.inl rfl,q.gd.z.symm⟩⟩
 .obtain⟨ha,hb,hcc⟩:=Te hc;have hp:X8 m ⟨4,a,b,c⟩=if K3 m b=0 then (m,0,2) else match m.Nodes.find? (λn=>n.Serial==K3 m b) with
   | none=>(m,0,2)
   | some n=>if ¬(0<=c/\c<n.Fields.length) then (m,0,5) else qA m a (n.Fields.getD c.toNat 0) 0:=rfl
  have hm:bJ m ⟨4,a,b,c⟩=(O0 m b).bind λv2=>if (v2.2 != 0) then some (0,v2.2) else (iE v2.1.Fields c).bind λv3=>some (v3.1,v3.2):=rfl
  rcases tB hx q (r:=b) (by omega) with ⟨h0,z,e⟩ | ⟨h0,hl,n,hn,hs,hf,e⟩
  .refine⟨0,2,?_,?_,λe=>absurd e (by decide)⟩;·rw[hm,e];rfl
   .rw[hp,zb h0];rfl
  .rw[za h0,hn] at hp;dsimp only at hp;rw[e,Yz,za (by simp),SX,Yz] at hm;by_cases g:0<=c/\c<n.Fields.length
   .rw[za (λd=>d g)] at hp;rw[zb g] at hm;refine⟨n.Fields.getD c.toNat 0,0,hm,hp,λ_=>?_⟩;have hlen:c.toNat<(ob x.S (sd x b)).Fields.length:=by
     have:=g.2;rw[hf,zl] at this;omega
    refine⟨(ob x.S (sd x b)).Fields[c.toNat],hx.sh.fl _ hl _ (zh hlen),?_⟩;rw[hf,zd,zA,zc hlen];rfl
   .rw[zb g] at hp;rw[za g] at hm;exact⟨0,5,hm,hp,λe=>absurd e (by decide)⟩
 .obtain⟨ha,hb⟩:=Tg hc;obtain⟨n,rfl⟩:∃n:Nat,b=n:=⟨b.toNat,by omega⟩;have c6:=hx.sh.c6;have hnx:n<x.b7.length:=by omega
  have hn:n<m.b7.length:=by rw[q.ce,zl];exact hnx
  have hg:m.b7.getD n cz=m.b7[n]:=by rw[zd,zc hn];rfl
  have hp:X8 m ⟨7,a,n,c⟩=if (m.b7.getD n cz).Target=0\/(m.b7.getD n cz).Intact=false then (m,0,9) else qA m a (m.b7.getD n cz).Target 0:=rfl
  have hm:bJ m ⟨7,a,n,c⟩=(cD m.b7 n).bind λv4=>some (v4.1,v4.2):=rfl;rw[hg] at hp;rw[Qp hn,Yz] at hm;by_cases g:m.b7[n].Target=0\/m.b7[n].Intact=false
  .rw[zb g] at hp hm;exact⟨0,9,hm,hp,λe=>absurd e (by decide)⟩
  .rw[za g] at hp hm;refine⟨_,0,hm,hp,λ_=>⟨x.b7[n].Target,.inr (((hx.sh.cl n hnx).2.2.2.2 ?_).1),?_⟩⟩
   .have:m.b7[n].Intact=x.b7[n].Intact:=by simp only[q.ce,t7];rfl
    rw[<-this];cases hi:m.b7[n].Intact with
    | true=>rfl
    | false=>exact absurd (.inr hi) g
   .simp only[q.ce,t7];rfl
 .obtain⟨ha,hb⟩:=Tj hc;have hp:X8 m ⟨9,a,b,c⟩=if K3 m b=0 then (m,0,2) else match (m.Pairs.find? λp=>p.Key==K3 m b) with
   | none=>(m,0,9)
   | some p=>qA m a p.Val 0:=rfl
  have hm:bJ m ⟨9,a,b,c⟩=(O0 m b).bind λv5=>if (v5.2 != 0) then some (0,v5.2) else (O7 m v5.1.Serial).bind λv6=>if (decide ((v6.length:Int) > 0)) then (ix v6 0).bind λv7=>some (v7,0) else some (0,9):=rfl
  rcases tB hx q (r:=b) (by omega) with ⟨h0,z,e⟩ | ⟨h0,hl,n,hn,hs,hf,e⟩
  .refine⟨0,2,?_,?_,λe=>absurd e (by decide)⟩;·rw[hm,e];rfl
   .rw[hp,zb h0];rfl
  .rw[za h0,<-List.head?_filter] at hp;rw[e,Yz,za (by simp)] at hm;dsimp only at hm;rw[ED (q.bn hx.sh.sr) (q.bl hx.sh),Yz,hs] at hm;cases g:m.Pairs.filter λp=>p.Key==K3 m b with
   | nil=>
    rw[g] at hp hm;exact⟨0,9,hm,hp,λe=>absurd e (by decide)⟩
   | cons p l=>
    rw[g] at hp hm;have hin:p∈m.Pairs:=(zk.1 (g▸zg:p∈m.Pairs.filter λp=>p.Key==K3 m b)).1;obtain⟨k,v,hh,rfl⟩:=(q.p2 p).1 hin;refine⟨σ v,0,?_,hp,λ_=>⟨v,.inr (hx.sh.pr k v hh).2,rfl⟩⟩;rw[hm,zb (by simp)];rfl
end
theorem Ea{m:a8}{o:j5}{e:Int}(h:X8 m o=(m,0,e))(he:e≠0):AE m o=(m,0,e):=by
 unfold AE;rw[h,zb he]
theorem Be{m mz:a8}{o:j5}{v:Int}(h:X8 m o=(mz,v,0)):AE m o=(kY mz,v,0):=by
 unfold AE;rw[h,za (by simp)]
section
variable{σ:Int->Int}{x:Hp}{m:a8}(hx:K0 x)(q:r8 σ x m)
include hx q
theorem r8.Oa(hz:Sh.zr x = []):kY m=m:=by
 have h1:rR m=m:=BN (by rw[q.zr hx,hz];rfl);have:∀n,gj n m=m:=λn=>by
  induction n with
  | zero=>rfl
  | succ n ih=>rw[ji,ih,h1]
 exact this 100
theorem CK{o:j5}(P:jZ σ x m o){W:Option (a8 × Int)}{s:Int}
  (h:W=some ((X8 m o).1,(X8 m o).2.2))(hv:(X8 m o).2.2=0->(X8 m o).2.1=s) :
  (W.bind λv1=>if (v1.2 != 0) then some (m,(⟨0,v1.2⟩:g9)) else (H4 v1.1).bind λv2=>some (v2,(⟨s,0⟩:g9)))=some ((AE m o).1,⟨(AE m o).2.1,(AE m o).2.2⟩):=by
 rw[h,Yz];rcases P.r with ⟨e,he,hp,_⟩ | ⟨σ',z,mz,v,hp,hz,_,S,_,_,_⟩;·rw[Ea hp he,hp,zb (by simpa using he)]
 .rw[hp] at hv;rw[Be hp,hp,za (by simp),lD hz S,Yz,<-hv rfl]
theorem MR{a b c:Int}(hc:y4 5 a b c=0):iR m (K3 m c) ⟨5,a,b,c⟩=some ((X8 m ⟨5,a,b,c⟩).1,(X8 m ⟨5,a,b,c⟩).2.2):=by
 obtain⟨ha,hb,hcc⟩:=Tf hc;have hp:X8 m ⟨5,a,b,c⟩=if K3 m a=0 then (m,0,2) else AH m (K3 m a) b (K3 m c):=rfl
 have B:=q.bn hx.sh.sr;have C:=q.bl hx.sh;have hv:=q.Xn hx (dV hx.sh c);rw[<-q.said hx] at hv;unfold iR;dsimp only;rcases tB hx q (r:=a) (by omega) with ⟨h0,z,e⟩ | ⟨h0,hl,n,hn,hs,hf,e⟩;·rw[e,Yz,zb (by simp),hp,zb h0]
 .rw[e,Yz,za (by simp),hp,za h0];unfold AH;rw[hn];dsimp only;have hfl:=B.fl n (lz hn).2;rw[RO (by omega),Yz];by_cases g:0<=b/\b<n.Fields.length
  .rw[zb g,za (by simp),za (λd=>d g),CI B C hv,Yz];have hn2:∃n',(fN m (K3 m c)).Nodes.find? (λk=>k.Serial==n.Serial)=some n':=by
    rw[hs];unfold fN;split
    .cases hh:(ug m (K3 m c)).Nodes.find? (λk=>k.Serial==K3 m a) with
     | some n'=>exact⟨n',rfl⟩
     | none=>
      exfalso;rw[zcf] at hh;have hin:=(lz hn).2;have:(if n.Serial=K3 m c then Dv n else n)∈(ug m (K3 m c)).Nodes:=by
       show _∈fF m.Nodes (K3 m c) Dv;exact zby hin
      have hse:(if n.Serial=K3 m c then Dv n else n).Serial=K3 m a:=by
       split;·exact hs
       .exact hs
      exact hh _ this (pu.2 hse)
    .exact⟨n,hn⟩
   obtain⟨n',hn2⟩:=hn2;rw[Uc (B.fN _) hn2,Yz,hs]
  .rw[za g,zb (by simp),zb g]
theorem Ue{a b c:Int}(hc:y4 6 a b c=0):fh m (K3 m b) ⟨6,a,b,c⟩=some ((X8 m ⟨6,a,b,c⟩).1,(X8 m ⟨6,a,b,c⟩).2.2):=by
 obtain⟨ha,hb,hcc⟩:=PI hc;have hp:X8 m ⟨6,a,b,c⟩=if 0<=b/\K3 m b=0 then (m,0,2) else if Sh.wb ⟨m.Tasks,30⟩ a=true then (m,0,7) else (KY m a.toNat (K3 m b) c,K3 m b,0):=rfl
 have B:=q.bn hx.sh.sr;have C:=q.bl hx.sh;have tl:=C.tl;have wl:=C.wl;have c6:m.b7.length=6:=by rw[q.ce,zl,hx.sh.c6]
 obtain⟨n,rfl⟩:∃n:Nat,a=n:=⟨a.toNat,by omega⟩;have hn:n<m.b7.length:=by omega
 unfold fh;dsimp only;by_cases g:0<=b/\K3 m b=0
 .rw[zb (by simp[g.1,g.2]),hp,zb g]
 .rw[za (by simpa using g),hp,za g,yo,Yz,show aG (⟨m.Tasks,30⟩:k8) (n:Int)=some (Sh.wb ⟨m.Tasks,30⟩ n) from xh (q:=⟨m.Tasks,30⟩) (by show m.Tasks.length<=1000;omega),Yz];cases hw:Sh.wb ⟨m.Tasks,30⟩ (n:Int)
  .rw[za (by simp),za (by simp),FH (by omega) hn,Yz,za (by simp)];dsimp only;have hg:m.b7.getD n cz=m.b7[n]:=by rw[zd,zc hn];rfl
   rw[yl (m:=RN m (m.b7.set n (fE (K3 m b) c))) ⟨B.nl,B.up,B.fl,B.sg,B.gg,B.gl⟩ ⟨C.rl,by show (m.b7.set n _).length<=30;rw[zap];exact C.wl,C.pa,C.tl⟩,Yz,zP];unfold KY;rw[hg]
  .rw[zb rfl,zb rfl]
theorem MQ{a b c:Int}(hc:y4 8 a b c=0):iQ m (K3 m b) ⟨8,a,b,c⟩=some ((X8 m ⟨8,a,b,c⟩).1,(X8 m ⟨8,a,b,c⟩).2.2):=by
 obtain⟨ha,hb⟩:=Ti hc;have hp:X8 m ⟨8,a,b,c⟩=if K3 m a=0 then (m,0,2) else wA m (K3 m a) (K3 m b):=rfl
 have B:=q.bn hx.sh.sr;have C:=q.bl hx.sh;have pa:=C.pa;have hv:=q.Xn hx (dV hx.sh b);rw[<-q.said hx] at hv;unfold iQ;dsimp only;rcases tB hx q (r:=a) (by omega) with ⟨h0,z,e⟩ | ⟨h0,hl,n,hn,hs,hf,e⟩;·rw[e,Yz,zb (by simp),hp,zb h0]
 .rw[e,Yz,za (by simp),hp,za h0];have hpk:D0 m.Pairs n=some (m.Pairs.filter λp=>p.Key != n.Serial):=by
   unfold D0;exact kE (P:=λp=>ff p n) (λp _=>rfl) (by omega) (by omega) (by omega)
  rw[hpk,Yz,hs];unfold wA;have hfl:=zB (λp:k7=>p.Key != K3 m a) m.Pairs;by_cases v0:K3 m b=0
  .rw[zb (by simpa using v0),za (λd=>d.1 v0),zb v0,zau];unfold fN;rw[za (λd=>d.1 v0)]
  .rw[za (by simpa using v0)];by_cases g:m.Places<=((m.Pairs.filter λp=>p.Key != K3 m a).length:Int)
   .rw[zb (by simpa using g),zb ⟨v0,g⟩]
   .rw[za (by simpa using g),za (λd=>g d.2),CI B C hv,Yz,FZ (by omega) (Ix (m:=100) (by omega) (by omega) (by omega)),Yz,za v0]
theorem Ko(hS:SL x)(hb:x.S.Serial<9223372036854775807){a b c:Int}(hc:y4 1 a b c=0):cZ m ⟨1,a,b,c⟩=some ((AE m ⟨1,a,b,c⟩).1,⟨(AE m ⟨1,a,b,c⟩).2.1,(AE m ⟨1,a,b,c⟩).2.2⟩):=by
 obtain⟨ha,hbb,hcc⟩:=Td hc;have hR:=hx.sh.sr;have B:=q.bn hR;have hp:X8 m ⟨1,a,b,c⟩=if m.Slots.findIdx (· == 0)<m.Slots.length then (de (GJ m (m.Slots.findIdx (· == 0)) b.toNat c) a.toNat (m.Serial+1),m.Serial+1,0) else (m,0,4):=rfl
 obtain⟨n,rfl⟩:∃n:Nat,b=n:=⟨b.toNat,by omega⟩;have gl:=B.gl;have nl:=B.nl;unfold cZ;have hv:qn (⟨1,a,(n:Int),c⟩:j5).B=some (List.replicate n 0,0):=by
  unfold qn;rw[za (by simp;omega)];show ((mk 8 (n:Int) (0:Int)).bind _)=_;rw[ky (by omega) (by omega),Yz]
 rw[hv,Yz,za (by simp),TP (by omega),Yz];rcases MS hR hb n c with ⟨h,_⟩ | ⟨_,h,_⟩ | ⟨_,_,h,g⟩ | ⟨_,_,i,hF,g⟩;·exact absurd hbb h
 .exact absurd hcc h
 .have:=q.Sp hx h;rw[za this] at hp |-;rw[zb (by simp),Ea hp (by decide)]
 .obtain⟨hi,h0,_⟩:=id hF;have hsi:i<m.Slots.length:=by rw[q.Xs hx];exact hi
  have hn:n<=4:=by omega
  rw[q.fst hx hF,zb hsi] at hp |-;rw[zP] at hp;rw[Be hp,za (by simp)];have hs':=hR.aH;have hw:w9 (m.Serial+1)=m.Serial+1:=by rw[q.se];exact T5 (by omega) (by omega)
  have hc1:y7 m.Slots=some m.Slots:=dm (by omega) (Ix (m:=30) (by omega) (by omega) (by omega));have hc2:r7 m.Nodes=some m.Nodes:=dm (by omega) (Ix (m:=30) (by omega) (by omega) (by omega));rw[hc1,Yz,u5 hsi,Yz,hc2,Yz,hw,FZ (by omega) (Ix (m:=100) (by omega) (by omega) (by omega)),Yz,zP];obtain⟨σ',S,e1⟩:=q.mk' hx hi h0 hn hcc;have hy:=yr hx hi h0 hn hcc;have hh:bX x.S i=0\/bX x.S i∈lv (wS x (dp x.S i n c)).S:=.inr (by
   show _∈lv (dp x.S i n c);rw[BA hR hi h0 hn hcc];exact t6 _ (zp.2 rfl))
  have T:=EC hy S ha hh;rw[e1,<-q.se] at T;dsimp only;rw[show aB ⟨m.Nodes ++ [⟨m.Serial+1,i,c,false,true,false,List.replicate n 0⟩],m.Slots.set i (m.Serial+1),m.Gens,m.Last,m.Places,m.Serial+1,m.Roots,m.b7,m.Pairs,m.Tasks,m.Progs⟩ a (m.Serial+1)=_ from T,Yz]
theorem Ub(hS:SL x)(hz:zr x = [])(hb:x.S.Serial<9223372036854775807){o:j5}(hc:y4 o.Kind o.A o.B o.C=0)(hk:o.Kind<=10):bK m o=some ((AE m o).1,⟨(AE m o).2.1,(AE m o).2.2⟩):=by
 have P:=vh hx q hS hz hb hc hk;obtain⟨k,a,b,c⟩:=o;dsimp only at hc hk;have:=tt hc;have asks:(k=2\/k=3\/k=4\/k=7\/k=9)->(0<=a/\a<=5)->bK m ⟨k,a,b,c⟩=((bJ m ⟨k,a,b,c⟩).bind λv10=>if (v10.2 != 0) then some (m,(⟨0,v10.2⟩:g9)) else (aB m a v10.1).bind λv11=>some (v11.1,v11.2))->bK m ⟨k,a,b,c⟩=some ((AE m ⟨k,a,b,c⟩).1,⟨(AE m ⟨k,a,b,c⟩).2.1,(AE m ⟨k,a,b,c⟩).2.2⟩):=λhk ha e=>by
  obtain⟨v,er,h1,h2,h3⟩:=Qx hx q hc hk;rw[e,h1,Yz];by_cases g:er=0
  .obtain⟨h,hh,rfl⟩:=h3 g;rw[za (by simp[g])] at h2 |-;dsimp only;rw[EC hx q ha hh,Yz,Be h2]
  .rw[zb g] at h2;rw[zb (by simpa using g),Ea h2 g]
 have hk:k=1\/k=2\/k=3\/k=4\/k=5\/k=6\/k=7\/k=8\/k=9\/k=10:=by omega
 rcases hk with rfl | rfl | rfl | rfl | rfl | rfl | rfl | rfl | rfl | rfl
 .show ((cZ m ⟨1,a,b,c⟩).bind λv9=>some (v9.1,v9.2))=_;rw[Ko hx q hS hb hc];rfl
 .exact asks (by simp) (LL hc).1 rfl
 .exact asks (by simp) (VK hc) rfl
 .exact asks (by simp) (Te hc).1 rfl
 .show ((T2 m c).bind λv3=>(J7 m v3 ⟨5,a,b,c⟩).bind λv4=>some (v4.1,v4.2))=_;rw[yn hx q (by have:=Tf hc;omega),Yz];unfold J7;rw[CK hx q P (MR hx q hc)];·rfl
  .show (if K3 m a=0 then (m,0,2) else AH m (K3 m a) b (K3 m c)).2.2=0->(if K3 m a=0 then (m,0,2) else AH m (K3 m a) b (K3 m c)).2.1=K3 m c;unfold AH;split;·exact λe=>absurd (show (2:Int)=0 from e) (by decide)
   .split;·exact λe=>absurd (show (2:Int)=0 from e) (by decide)
    .split;·exact λe=>absurd (show (5:Int)=0 from e) (by decide)
     .exact λ_=>rfl
 .show ((T2 m b).bind λv3=>(I2 m v3 ⟨6,a,b,c⟩).bind λv4=>some (v4.1,v4.2))=_;rw[yn hx q (by have:=PI hc;omega),Yz];unfold I2;rw[CK hx q P (Ue hx q hc)];·rfl
  .show (if 0<=b/\K3 m b=0 then (m,0,2) else if Sh.wb ⟨m.Tasks,30⟩ a=true then (m,0,7) else (KY m a.toNat (K3 m b) c,K3 m b,0)).2.2=0->(if 0<=b/\K3 m b=0 then (m,0,2) else if Sh.wb ⟨m.Tasks,30⟩ a=true then (m,0,7) else (KY m a.toNat (K3 m b) c,K3 m b,0)).2.1=K3 m b;split;·exact λe=>absurd (show (2:Int)=0 from e) (by decide)
   .split;·exact λe=>absurd (show (7:Int)=0 from e) (by decide)
    .exact λ_=>rfl
 .exact asks (by simp) (Tg hc).1 rfl
 .show ((T2 m b).bind λv3=>(J6 m v3 ⟨8,a,b,c⟩).bind λv4=>some (v4.1,v4.2))=_;rw[yn hx q (by have:=Ti hc;omega),Yz];unfold J6;rw[CK hx q P (MQ hx q hc)];·rfl
  .show (if K3 m a=0 then (m,0,2) else wA m (K3 m a) (K3 m b)).2.2=0->(if K3 m a=0 then (m,0,2) else wA m (K3 m a) (K3 m b)).2.1=K3 m b;unfold wA;split;·exact λe=>absurd (show (2:Int)=0 from e) (by decide)
   .split;·exact λe=>absurd (show (8:Int)=0 from e) (by decide)
    .exact λ_=>rfl
 .exact asks (by simp) (Tj hc).1 rfl
 .obtain⟨ha,hb⟩:=RX hc;have hp:X8 m ⟨10,a,b,c⟩=(m,if K3 m a=K3 m b then 1 else 0,0):=rfl;show ((ix m.Roots a).bind λv1=>(ix m.Roots b).bind λv2=>if (v1==v2) then some (m,(⟨1,0⟩:g9)) else some (m,(⟨0,0⟩:g9)))=_;rw[GG hx q ha.1 ha.2,Yz,GG hx q hb.1 hb.2,Yz,Be hp,q.Oa hx hz];by_cases g:K3 m a=K3 m b
  .rw[zb (by simpa using g),zb g]
  .rw[za (by simpa using g),za g]
theorem r8.fS(hS:SL x)(hz:Sh.zr x = [])(hb:x.S.Serial<9223372036854775807){o:j5}(hc:y4 o.Kind o.A o.B o.C=0)(hk:o.Kind<=10):(∃σ',r8 σ' (Sh.fS x o).1 (AE m o).1)/\(AE m o).2=(Sh.fS x o).2:=by
 rcases (vh hx q hS hz hb hc hk).r with ⟨e,he,hp,hd⟩ | ⟨σ',z,mz,v,hp,hzr,_,S,hd,_,_⟩;·rw[Ea hp he,hd];exact⟨⟨σ,q⟩,rfl⟩
 .rw[Be hp,hd];have S2:=S.bA hzr;generalize Sh.bA z=y at S2 |-;generalize kY mz=my at S2 |-;exact⟨⟨σ',S2⟩,rfl⟩
end
def Um(m:a8):Prop:=∀c∈m.b7,∀n∈m.Nodes,n.Alive=true->n.Serial=c.Target->c.Intact=true
def NS(l l':List b8):Prop:=∀n'∈l',n'.Alive=true->∃n∈l,n.Alive=true/\n.Serial=n'.Serial
theorem NS.refl(l:List b8):NS l l:=λn h a=>⟨n,h,a,rfl⟩
theorem NS.trans{a b c:List b8}(h:NS a b)(k:NS b c):NS a c:=λn hn ha=>by
 obtain⟨n1,h1,a1,e1'⟩:=k n hn ha;obtain⟨n2,h2,a2,e2'⟩:=h n1 h1 a1;exact⟨n2,h2,a2,e2'.trans e1'⟩
theorem NS.fF(l:List b8)(s:Int){f:b8->b8}(hf:∀n,(f n).Serial=n.Serial/\((f n).Alive=true->n.Alive=true)):NS l (Sh.fF l s f):=λn' hn ha=>by
 obtain⟨n,h,rfl⟩:=zq.1 hn;by_cases c:n.Serial=s
 .rw[zb c] at ha |-;exact⟨n,h,(hf n).2 ha,(hf n).1.symm⟩
 .rw[za c] at ha |-;exact⟨n,h,ha,rfl⟩
theorem NS.fN(m:a8)(s:Int):NS m.Nodes (Sh.fN m s).Nodes:=by
 unfold Sh.fN;split;·exact NS.fF _ _ λn=>⟨rfl,id⟩
 .exact NS.refl _
theorem NS.DS(m:a8)(s:Int):NS m.Nodes (Sh.DS m s).Nodes:=by
 unfold Sh.DS;split;·exact NS.refl _
 .split;·exact NS.refl _
  .exact λn hn ha=>⟨n,(zk.1 hn).1,ha,rfl⟩
theorem JN(m:a8)(s:Int):(DS m s).b7=m.b7:=by
 unfold DS;split;·rfl
 .split <;> rfl
theorem Um.of{m m':a8}(h:Um m)(hc:m'.b7=m.b7)(hn:NS m.Nodes m'.Nodes):Um m':=λc hcm n' hn' ha e=>by
 obtain⟨n,h1,h2,h3⟩:=hn n' hn' ha;rw[hc] at hcm;exact h c hcm n h1 h2 (h3.trans e)
theorem pP(m:a8)(s:Int):(fN m s).b7=m.b7:=by rw[aJ]
theorem Um.Xr{m:a8}(h:Um m)(r:Nat)(s:Int):Um (de m r s):=h.of (show (fN m s).b7=_ from pP m s) (NS.fN m s)
theorem Um.Yl{m:a8}(h:Um m)(s:Int):Um (qz m s):=h.of (show (fN m s).b7=_ from pP m s) ((NS.fN m s).trans (NS.fF _ _ λn=>⟨rfl,id⟩))
theorem Um.Yb{l:List Int}:∀ {m:a8},Um m->Um (l.foldl qz m):=by
 induction l with
 | nil=>exact λh=>h
 | cons s l ih=>exact λh=>ih (h.Yl s)
theorem TW(m:a8)(s:Int):NS m.Nodes (qM m s).Nodes/\∀n∈(qM m s).Nodes,n.Alive=true->n.Serial≠s:=by
 refine⟨(NS.fF m.Nodes s (f:=lr) λn=>⟨rfl,λh=>by cases h⟩).trans (NS.DS (xn m (fF m.Nodes s lr)) s),λn hn ha e=>?_⟩;have:NS (fF m.Nodes s lr) (qM m s).Nodes:=NS.DS (xn m (fF m.Nodes s lr)) s;obtain⟨n1,h1,a1,e1'⟩:=this n hn ha;obtain⟨n2,h2,rfl⟩:=zq.1 h1;by_cases c:n2.Serial=s
 .rw[zb c] at a1;cases a1
 .rw[za c] at e1';exact c (e1'.trans e)
theorem Iv:∀(S:List Int) (m:a8),NS m.Nodes (S.foldl qM m).Nodes/\(∀n∈(S.foldl qM m).Nodes,n.Alive=true->n.Serial∉S)/\(S.foldl qM m).b7=m.b7
 | [],m=>⟨NS.refl _,λ_ _ _=>by simp,rfl⟩
 | s::S,m=>by
  obtain⟨a,b,c⟩:=Iv S (qM m s);obtain⟨k1,k2⟩:=TW m s;rw[zah];refine⟨k1.trans a,λn hn ha h=>?_,c.trans (yh m s).2.1⟩;rcases zM.1 h with e | e
  .obtain⟨n1,h1,a1,e1'⟩:=a n hn ha;exact k2 n1 h1 a1 (e1'.trans e)
  .exact b n hn ha e
theorem Um.Yg{m:a8}(h:Um m)(S:List Int):Um (AA m S):=λc hc n hn ha e=>by
 obtain⟨a,b,c'⟩:=Iv S (Vn (FC (RN m (lk m.b7 S)) (m.Tasks++jr m.b7 S)) (m.Pairs.filter λp=>decide (p.Key∉S)));have hc:c∈lk m.b7 S:=by rw[<-show (AA m S).b7=lk m.b7 S from c'];exact hc
 obtain⟨d,hd,rfl⟩:=zq.1 hc;rw[(ow S d).1] at e;obtain⟨n1,h1,a1,e1'⟩:=a n hn ha;have hi:=h d hd n1 h1 a1 (e1'.trans e);refine (ow S d).2.2.2 ⟨hi,?_⟩;unfold iO;have:d.Target∉S:=λk=>b n hn ha (e▸k);simp[this]
theorem Um.kY{m:a8}(h:Um m):Um (kY m):=by
 have h1:∀m:a8,Um m->Um (rR m):=λm h=>by
  unfold rR;split;·exact h
  .split;·exact h.Yl _
   .exact h.Yg _
 have:∀n,Um (gj n m):=λn=>by
  induction n with
  | zero=>exact h
  | succ n ih=>rw[ji];exact h1 _ ih
 exact this 100
section
variable{σ:Int->Int}{x:Hp}{m:a8}(hx:K0 x)(q:r8 σ x m)
include hx q
theorem Um.wk(h:Um m)(w:Nat)(s call:Int):Um (KY m w s call):=by
 unfold KY;have h1:Um (RN m (m.b7.set w (fE s call))):=λc hc n hn ha e=>by
  rcases zas hc with k | k
  .exact h c k n hn ha e
  .subst k;have:=(q.nd.pos hx.sh.sr hn).1;have e:n.Serial=s:=e;show (s != 0)=true;have:s≠0:=by omega
   simpa using this
 exact h1.of (JN _ _) (NS.DS _ _)
theorem Um.new(h:Um m)(i n:Nat)(p:Int):Um (GJ m i n p):=λc hc k hk ha e=>by
 rcases zu.1 hk with k1 | k1
 .exact h c hc k k1 ha e
 .exfalso;rw[zp] at k1;subst k1;have e:m.Serial+1=c.Target:=e;have hc:c∈x.b7.map (wx σ):=by rw[<-q.ce];exact hc
  obtain⟨d,hd,rfl⟩:=zq.1 hc;have e:m.Serial+1=σ d.Target:=e;have hs:=hx.sh.sr.aH;have hse:=q.se;rcases lj hx.sh hd with z | ⟨j,a⟩
  .rw[z,q.gd.z] at e;omega
  .rw[q.gd.f _ j a] at e;have:=(hx.sh.sr.ok j a.1 a.2.1).s2;omega
theorem Um.Yx(h:Um m)(a s e:Int):Um (qA m a s e).1:=by
 unfold qA;split;·exact h
 .exact h.Xr _ _
omit hx q in
theorem dY {c:Prop} [Decidable c] {a b:a8 × Int × Int} (ha:Um a.1) (hb:Um b.1):Um (if c then a else b).1:=by
 by_cases k:c
 .rw[zb k];exact ha
 .rw[za k];exact hb
theorem Um.Vv(h:Um m)(s k v:Int):Um (AH m s k v).1:=by
 unfold AH;split;·exact h
 .exact dY h (h.of (show (fN m v).b7=_ from pP m v) ((NS.fN m v).trans (NS.fF _ _ λn=>⟨rfl,id⟩)))
theorem Um.Vz(h:Um m)(s v:Int):Um (wA m s v).1:=dY h (h.of (show (fN m v).b7=_ from pP m v) (NS.fN m v))
theorem Um.pre(h:Um m)(o:j5):Um (X8 m o).1:=by
 have t:=λa s e=>h.Yx hx q a s e;refine dY h (dY (dY h (h.Vv hx q _ _ _)) (dY (dY h (dY h (h.wk hx q _ _ _))) (dY (dY h (h.Vz hx q _ _)) (dY (dY ((h.new hx q _ _ _).Xr _ _) h) (dY (t _ _ _) (dY (dY h ?_) (dY (dY h (t _ _ _)) (dY (dY h ?_) (t _ _ _)))))))))
 .split;·exact h
  .exact dY h (t _ _ _)
 .split;·exact h
  .exact t _ _ _
theorem Um.do(h:Um m)(o:j5):Um (AE m o).1:=by
 have hp:=h.pre hx q o;unfold AE;generalize X8 m o=r at hp |-;by_cases k:r.2.2≠0
 .rw[zb k];exact h
 .rw[za k];have h2:=hp.kY;generalize Sh.kY r.1=M at h2 |-;exact h2
end
theorem EB{σ:Int->Int}{x:Hp}{m:a8}(hx:K0 x)(hS:SL x)(hz:Sh.zr x = [])(q:r8 σ x m):∃m',dq m=some (m',⟨LJ x-((jR x).length:Int),0⟩)/\r8 σ (Av x) m'/\m'.Progs=m.Progs/\(Um m->Um m'):=by
 have hR:=hx.sh.sr;have B:=q.bn hR;have C:=q.bl hx.sh;obtain⟨mp,h1,h2⟩:=Kq (λs r=>Rj hx q r) B C (λn hn=>by have:=q.nd.pos hR hn;omega) (λp hp=>by
  obtain⟨k,v,hh,rfl⟩:=(q.p2 p).1 hp;have:=q.gd.ps hR (hx.sh.pr k v hh).1;show σ k≠0;omega)
 have hgl:(dA x).length<=24:=zO (Z3 (eG hx) (cK hx)) (K9 (A2.2 hR));have hbl:(jR x).length<=24:=zO (zB ..) hgl;have hbs:I5 ((jR x).map λh=>Sh.nd σ x.S (D7 h))=some ((jR x).map σ):=by
  rw[uS (by rw[zl];omega),IC hx q λh hh=>(mF h hh).1]
 have hgs:I5 ((dA x).map λh=>Sh.nd σ x.S (D7 h))=some ((dA x).map σ):=by
  rw[uS (by rw[zl];omega),IC hx q (cK hx)]
 have hpo:D3 ((dA x).map λh=>Sh.nd σ x.S (D7 h))=some ((jR x).map λh=>Sh.nd σ x.S (D7 h)):=by
  unfold D3;rw[<-JP hx q];exact kE (λn _=>rfl) (by omega) (by omega) (by rw[zl];omega)
 have QL:=r8.XY hx hS hz q (xz hx) mF (jR x).length (zG _);rw[zU] at QL;unfold dq;rw[h1,Yz,Kp hx q h2,Yz,hpo,Yz,hbs,Yz];by_cases hb:jR x = []
 .have hcol:Av x=gK x (dA x):=by unfold Av;rw[zb hb]
  have Qb:=q.gK hx (eG hx) (cK hx) (Ej hx q);have hrb:=dP hx;have Qs:=Qb.bA hrb;rw[xW hx,<-hcol] at Qs;refine⟨_,?_,Qs,by rw[xf,HS],λh=>(h.Yg _).kY⟩;refine (yW hx hS hz q hbl (xz hx) mF).trans ?_;simp only[];have hv:LJ x-((jR x).length:Int)=w9 (((Fp x).length:Int)-((Fp (Av x)).length:Int)):=by
   have l1:(lv x.S).length<=24:=K9 (A2.2 hR);have l2:(lv (Av x).S).length<=24:=by rw[hcol];exact K9 (A2.2 hrb.sh.sr)
   unfold LJ;rw[zb hb,hb,Of,Of,vy (by omega) (by omega)];simp
  rw[hb,List.map_nil,List.foldl_nil,za (by simp),hgs,Yz,EA hx q (eG hx) (cK hx) (Ej hx q),Yz,lD hrb Qb,Yz,CJ hR q,Yz,CJ (by rw[hcol];exact hrb.sh.sr) Qs,Yz];rw[hb] at hv;rw[<-hv]
 .have hcol:Av x=(jR x).foldl gF x:=by unfold Av;rw[za hb]
  refine⟨_,?_,by rw[hcol];exact QL,RA _ _,λh=>h.Yb⟩;refine (yW hx hS hz q hbl (xz hx) mF).trans ?_;have hpos:0<(jR x).length:=List.length_pos_iff.2 hb;simp only[];rw[zb (by rw[zl];simpa using hpos),zl,vy (by omega) (by omega)];unfold LJ;rw[za hb]
def Pg(ps:List (List j5)):Prop:=Mp ps/\∀p∈ps,∀o∈p,y4 o.Kind o.A o.B o.C=0/\o.Kind<=10
theorem WJ{l:List (List j5)}(h:fk l=true):Pg l:=by
 unfold fk at h;rw[zy,zf] at h;have key:∀p∈l,p.length<=6/\∀o∈p,pf o=true:=λp hp=>by
  have:=h.2 p hp;unfold tR at this;rw[zy,zF,zf] at this;exact this
 refine⟨λp hp=>(key p hp).1,λp hp o ho=>?_⟩;have:=(key p hp).2 o ho;unfold pf at this;simp only[zy,zF,pu] at this;exact⟨this.2,this.1.2⟩
theorem Pg.ER{ps:List (List j5)}(h:Pg ps)(n:Int):∀o∈Sh.ER ps n,y4 o.Kind o.A o.B o.C=0/\o.Kind<=10:=by
 intro o ho;unfold Sh.ER at ho;split at ho;·cases ho
 .rename_i c;have hk:n.toNat<ps.length:=by omega
  rw[zd,zc hk] at ho;exact h.2 _ (zh hk) o ho
theorem r8.uA{σ:Int->Int}{x:Hp}{m:a8}(q:r8 σ x m)(ts:List g7):r8 σ (Sh.uA x ts) (FC m (ts.map (tx σ))):=
 ⟨q.gd,q.nd,q.sl,q.ge,q.la,q.npl,q.se,q.ro,q.ce,q.p1,q.p2,rfl⟩
def vA(ps:List (List j5))(x:Hp)(m:a8):Prop:=(∃σ,r8 σ x m)/\m.Progs=ps/\Um m
section
variable{ps:List (List j5)}{x:Hp}{m:a8}(hx:Oh x)(g:vA ps x m)
include hx g
theorem Il(hb:x.S.Serial<9223372036854775807){o:j5}(hc:y4 o.Kind o.A o.B o.C=0)(hk:o.Kind<=10):∃m',bK m o=some (m',⟨(fS x o).2.1,(fS x o).2.2⟩)/\vA ps (fS x o).1 m':=by
 obtain⟨⟨σ,q⟩,hp,hu⟩:=g;obtain⟨S,e⟩:=q.fS hx.rt hx.sl hx.zr hb hc hk;refine⟨(AE m o).1,?_,S,?_,hu.do hx.rt q o⟩;·rw[Ub hx.rt q hx.sl hx.zr hb hc hk,e]
 .rcases (vh hx.rt q hx.sl hx.zr hb hc hk).r with ⟨e,he,hp',_⟩ | ⟨σ',z,mz,v,hp',_,_,_,_,hpr,_⟩;·rw[Ea hp' he];exact hp
  .rw[Be hp'];show (kY mz).Progs=ps;rw[xf,hpr,hp]
theorem TD{l:List j5}(hl:∀o∈l,y4 o.Kind o.A o.B o.C=0/\o.Kind<=10)(hl2:l.length<=1000)(hb:x.S.Serial+l.length<9223372036854775807):∃m',jc m l=some m'/\vA ps (runs x l).1 m':=by
 have all:=yO hx.rt hx.sl hx.zr l hb (λ_=>True) trivial (λ_ _ _ _ _ _=>trivial);unfold jc;simp only[jn];obtain⟨e,h1,h2⟩:∃e,lp (S:=Int × a8) (E:=a8) (λ((s11,s12):Int × a8)=>
   if (decide (s11<(l.length:Int))) then
    (ix l s11).bind λv15=>
    (bK s12 v15).bind λv16=>
    some (.inl (w9 (s11+1),v16.1))
   else
   some (.inr s12)) (0,m)=some e/\vA ps (runs x l).1 e:=by
  refine jA l.length (λk t=>vA ps (runs x (l.take k)).1 t) (λe=>vA ps (runs x l).1 e) (by omega) g (λk t hk hP=>?_) (λt hP=>⟨t,?_,?_⟩)
  .obtain⟨a1,a2,a3,a4,a5,_⟩:=all k (by omega);obtain⟨hc,hk'⟩:=hl _ (zh hk);obtain⟨m',e1',e2'⟩:=Il ⟨a1,a2,a3⟩ hP (by omega) hc hk';refine .inl ⟨m',?_,?_⟩
   .dsimp only;rw[zb (by simpa using hk),u5 hk,Yz,e1',Yz,o5 (n:=k) (by omega)]
   .rw[U4 hk,qg];exact e2'
  .dsimp only;rw[za (by simp)]
  .rw[zU] at hP;exact hP
 exact⟨e,by rw[h1];rfl,h2⟩
theorem Qa(hg:Pg ps){t:g7}{ts:List g7}(hq:x.Q.L=t::ts)(hb:x.S.Serial<8000000000000000000):∃u us,m.Tasks=u::us/\u.Prog=t.Prog/\∃m',dc m u=some m'/\vA ps (JV ps x t ts) m':=by
 obtain⟨⟨σ,q⟩,hp,hu⟩:=g;have hR:=hx.rt.sh.sr;have htk:m.Tasks=tx σ t::ts.map (tx σ):=by rw[q.tk,hq,zR]
 have hl6:=CW hg.1 t.Prog;have hpr:(tx σ t).Prog=t.Prog:=by unfold tx;split <;> rfl
 have hkd:(tx σ t).Kind=t.Kind:=by
  unfold tx;split;·rename_i h;exact h.symm
  .rfl
 refine⟨_,_,htk,hpr,?_⟩;have pok:=GR hx hq;have pse:=CV hx hq;obtain⟨rok,_,rse⟩:=Df hx hq ps (by omega);have hnx:∀M:a8,M.Tasks=tx σ t::ts.map (tx σ)->ba (⟨M.Tasks,30⟩:k8)=some (⟨ts.map (tx σ),30⟩,tx σ t,0):=λM h=>by
  rw[yX,h];rfl
 have run:∀M,vA ps (pre x t ts) M->∃M',((dy M.Progs (tx σ t).Prog).bind λv9=>jc M v9)=some M'/\vA ps (UM ps x t ts) M':=λM hM=>by
  rw[vi,Yz,hM.2.1,hpr];exact TD pok hM (hg.ER t.Prog) (by omega) (by omega)
 unfold dc;simp only[jn];by_cases hk:t.Kind=1
 .have hk':(tx σ t).Kind=1:=by rw[hkd];exact hk
  have hat:(tx σ t).At=σ t.At:=by unfold tx;rw[zb hk]
  obtain⟨hl,_⟩:=Gx hx.rt hq hk;have hfr:=ly hx.rt hq hk;have r6:=q.r6 hx.rt;have kb:((tx σ t).Kind==1)=true:=by simp[hk']
  simp only[kb,wn];rw[hat,show V1 m 5 (σ t.At)=some (de m 5 (σ t.At)) from ym (q.bn hR) (q.bl hx.rt.sh) (q.Xn hx.rt (.inr hl)) (r:=5) (by omega),Yz,yo,Yz,hnx (de m 5 (σ t.At)) (by
   show (fN m (σ t.At)).Tasks=_;rw[aJ];exact htk),Yz]
  dsimp only;have S0:=(q.uA ts).Sx (DB hx.rt hq) (r:=5) (h:=t.At) (k:=DL m (σ t.At)) (.inr hl) λhl' hs=>by
   have:=hx.rt.fair t.At hl hs;rw[H9] at this;rw[q.lK hx.rt.sh hl];exact this
  have S1:r8 σ (G2 (Sh.uA x ts) 5 t.At) (FC (de m 5 (σ t.At)) (ts.map (tx σ))):=by
   have e:FC (de m 5 (σ t.At)) (ts.map (tx σ))=Xt (if σ t.At≠0/\11<=DL m (σ t.At) then ug (FC m (ts.map (tx σ))) (σ t.At) else FC m (ts.map (tx σ))) (m.Roots.set 5 (σ t.At)):=by
    unfold de fN;split <;> rfl
   rw[e];exact S0
  have S2:r8 σ (wm x ts t.At) (FC (de m 5 (σ t.At)) (ts.map (tx σ))):=S1.OI (dd (x:=Sh.uA x ts) hx.rt.sh.sr 5 t.At).sr t.At;rw[show H4 ⟨(de m 5 (σ t.At)).Nodes,(de m 5 (σ t.At)).Slots,(de m 5 (σ t.At)).Gens,(de m 5 (σ t.At)).Last,(de m 5 (σ t.At)).Places,(de m 5 (σ t.At)).Serial,(de m 5 (σ t.At)).Roots,(de m 5 (σ t.At)).b7,(de m 5 (σ t.At)).Pairs,ts.map (tx σ),(de m 5 (σ t.At)).Progs⟩=_ from lD hfr S2,Yz];have G1:vA ps (pre x t ts) (kY (FC (de m 5 (σ t.At)) (ts.map (tx σ)))):=by
   have hu2:Um (FC (de m 5 (σ t.At)) (ts.map (tx σ))):=(hu.Xr 5 (σ t.At)).of rfl (NS.refl _);refine⟨⟨σ,?_⟩,?_,hu2.kY⟩;·unfold pre;rw[zb hk];exact S2.bA hfr
   .rw[xf];show (fN m (σ t.At)).Progs=ps;rw[aJ];exact hp
  obtain⟨M',h1,⟨σ',S3⟩,h3,hu3⟩:=run _ G1;rw[vi,Yz] at h1 |-;rw[h1,Yz];have rr:=bO rok.rt (r:=5) (by decide) (h:=0) (.inl rfl);have S4:=S3.G2 (r:=5) rok.rt.sh rok.rt.fair (.inl rfl);rw[S3.gd.z] at S4;have r6':=S3.r6 rok.rt;rw[show V1 M' 5 0=some (de M' 5 0) from ym (S3.bn rok.rt.sh.sr) (S3.bl rok.rt.sh) (.inl rfl) (r:=5) (by omega),Yz,lD rr S4,Yz];refine⟨_,rfl,⟨σ',?_⟩,?_,(hu3.Xr 5 0).kY⟩;·unfold JV;rw[zb hk];exact S4.bA rr
  .rw[xf];show (fN M' 0).Progs=ps;rw[aJ];exact h3
 .have kb:((tx σ t).Kind==1)=false:=by rw[hkd];simp[hk]
  simp only[kb,zC,t8];rw[yo,Yz,hnx m htk,Yz];dsimp only;have G1:vA ps (pre x t ts) (FC m (ts.map (tx σ))):=by
   refine⟨⟨σ,?_⟩,hp,hu.of rfl (NS.refl _)⟩;unfold pre;rw[za hk];exact q.uA ts
  obtain⟨M',h1,h2⟩:=run _ G1;rw[vi,Yz] at h1 |-;rw[show jc ⟨m.Nodes,m.Slots,m.Gens,m.Last,m.Places,m.Serial,m.Roots,m.b7,m.Pairs,ts.map (tx σ),m.Progs⟩ _=_ from h1,Yz];refine⟨_,rfl,?_⟩;unfold JV;rw[za hk];exact h2
end
section
variable{ps:List (List j5)}{x:Hp}{m:a8}(hx:Oh x)(g:vA ps x m)(hg:Pg ps)
include hx g hg
theorem GC{f:Int}(hf:0<=f)(hf2:f<=1000000)(hb:x.S.Serial<7900000000000000000):∃m',gD m f=some (m',⟨(dn ps (x,f):Int),Sc (dr ps (x,f))⟩)/\vA ps (dr ps (x,f)).1 m':=by
 obtain⟨a1,a2,a3⟩:=HZ ps (p:=(x,f)) hf;have all:=Cg ps (p:=(x,f)) hx hf (by show x.S.Serial+f<_;omega);dsimp only at a1;unfold gD;simp only[jn];obtain⟨e,h1,h2⟩:∃e,lp (S:=Int × Int × a8) (E:=(a8 × g9) ⊕ (Int × a8)) (λ((s15,s16,s17):Int × Int × a8)=>
   if (decide ((s17.Tasks.length:Int) > 0)) then
    (ix s17.Tasks 0).bind λv20=>
    (bF s17.Progs v20).bind λv21=>
    if (decide (v21 > s15)) then
     some (.inr (.inl (s17,(⟨s16,12⟩:g9))))
    else
    (dc s17 v20).bind λv22=>
    some (.inl (w9 (s15-v21),w9 (s16+1),v22))
   else
   some (.inr (.inr (s16,s17)))) (f,0,m)=some e/\∃m',vA ps (dr ps (x,f)).1 m'/\((e = .inl (m',⟨(dn ps (x,f):Int),12⟩)/\Sc (dr ps (x,f))=12)\/(e = .inr ((dn ps (x,f):Int),m')/\Sc (dr ps (x,f))=0)):=by
  refine rz (λs=>∃k:Nat,k<=dn ps (x,f)/\s.1=(dN ps k (x,f)).2/\s.2.1=(k:Int)/\vA ps (dN ps k (x,f)).1 s.2.2) _ (λs=>dn ps (x,f)-s.2.1.toNat) ⟨0,zV _,rfl,rfl,g⟩ (by show dn ps (x,f)-_<_;omega) ?_;rintro⟨s1,s2,M⟩ ⟨k,hk,e1',e2',G⟩;dsimp only at e1' e2' G;subst e1' e2';obtain⟨b1,b2,b3,b4⟩:=all k;dsimp only at b2 b3 b4;obtain⟨⟨σ,q⟩,hp,_⟩:=id G;have hlen:M.Tasks.length=(dN ps k (x,f)).1.Q.L.length:=by rw[q.tk,zl]
  rcases zE k (dn ps (x,f)) with c | c
  .obtain⟨t,ts,e,cc⟩:=a3 k c;left;obtain⟨u,us,hu,hup,M',h3,h4⟩:=Qa b1 G hg e (by omega);have hc:=sz ps t;have hcs:Bd ps u=Bd ps t:=by unfold Bd;rw[hup]
   refine⟨((dN ps (k+1) (x,f)).2,((k+1:Nat):Int),M'),?_,⟨k+1,c,rfl,rfl,?_⟩,by show _-_<_-_;dsimp only;omega⟩
   .dsimp only;rw[zb (by rw[hlen,e];simp),hu];show ((bF M.Progs u).bind _)=_;rw[hp,wW hg.1,Yz,hcs,za (by simp;omega),h3,Yz,T5 (by omega) (by omega),o5,sA,pe ps e,zb cc]
   .dsimp only;rw[sA,pe ps e,zb cc];exact h4
  .have hkk:k=dn ps (x,f):=by omega
   subst hkk;right;cases e:(dN ps (dn ps (x,f)) (x,f)).1.Q.L with
   | nil=>
    refine⟨_,?_,M,G,.inr ⟨rfl,?_⟩⟩
    .dsimp only;rw[za (by rw[hlen,e];simp)]
    .unfold Sc dr;rw[e];rfl
   | cons t ts=>
    have hc:¬Bd ps t<=(dN ps (dn ps (x,f)) (x,f)).2:=λq=>a2 ((DT ps e).2 q);have htk:M.Tasks=tx σ t::ts.map (tx σ):=by rw[q.tk,e,zR]
    have hpr:(tx σ t).Prog=t.Prog:=by unfold tx;split <;> rfl
    have hcs:Bd ps (tx σ t)=Bd ps t:=by unfold Bd;rw[hpr]
    refine⟨_,?_,M,G,.inl ⟨rfl,?_⟩⟩
    .dsimp only;rw[zb (by rw[hlen,e];simp),htk];show ((bF M.Progs (tx σ t)).bind _)=_;rw[hp,wW hg.1,Yz,hcs,zb (by simp;omega)]
    .unfold Sc dr;rw[e];rfl
 obtain⟨m',h3,⟨rfl,h5⟩ | ⟨rfl,h5⟩⟩:=h2;·exact⟨m',by rw[h1,h5];rfl,h3⟩
 .exact⟨m',by rw[h1,h5];rfl,h3⟩
theorem Wb(hb:x.S.Serial<7000000000000000000)(row:List Int):∃m',pb m row=some (m',⟨(er ps x row).2.1,(er ps x row).2.2⟩)/\vA ps (er ps x row).1 m':=by
 unfold pb;rw[(DZ row).1,Yz];by_cases h:(aL row).2=0
 .have hc:=Ch h;have he:er ps x row=eo ps x (aL row).1:=by unfold er;rw[za (λc=>c h)]
  rw[za (by simpa using h),he];unfold eo;by_cases h11:(aL row).1.Kind=11
  .rw[zb (by simpa using h11),zb h11];obtain⟨⟨σ,q⟩,hp,hu⟩:=g;obtain⟨m',k1,k2,k3,k4⟩:=EB hx.rt hx.sl hx.zr q;rw[k1,Yz];exact⟨m',rfl,⟨σ,k2⟩,by rw[k3,hp],k4 hu⟩
  .rw[za (by simpa using h11),za h11];by_cases h12:(aL row).1.Kind=12
   .rw[zb (by simpa using h12),zb h12];rw[h12] at hc;have:=LK hc;obtain⟨m',k1,k2⟩:=GC hx g hg (f:=(aL row).1.A) (by omega) (by omega) (by omega);rw[k1,Yz];exact⟨m',rfl,k2⟩
   .rw[za (by simpa using h12),za h12];have:=tt hc;obtain⟨m',k1,k2⟩:=Il hx g (by omega) hc (by omega);rw[k1,Yz];exact⟨m',rfl,k2⟩
 .have he:er ps x row=(x,0,(aL row).2):=by unfold er;rw[zb h]
  rw[zb (by simpa using h),he];exact⟨m,rfl,g⟩
def Xf(p:Int × Int):g9:=⟨p.1,p.2⟩
theorem Mu{rows:List (List Int)}(hl:rows.length<=1000)(hb:x.S.Serial<1000000000000):∃m',aW m rows=some (m',(jv ps x rows).2.map Xf)/\vA ps (jv ps x rows).1 m':=by
 unfold aW;simp only[jn];obtain⟨e,h1,h2⟩:∃e,lp (S:=Int × a8 × (List g9)) (E:=(a8 × (List g9))) (λ((s15,s16,s17):Int × a8 × (List g9))=>
   if (decide (s15<(rows.length:Int))) then
    (ix rows s15).bind λv20=>
    (pb s16 v20).bind λv21=>
    (app 16 s17 [v21.2]).bind λv22=>
    some (.inl (w9 (s15+1),v21.1,v22))
   else
   some (.inr (s16,s17))) (0,m,[])=some e/\(e.2=(jv ps x rows).2.map Xf/\vA ps (jv ps x rows).1 e.1):=by
  refine jA (T:=a8 × List g9) rows.length (λk t=>t.2=(jv ps x (rows.take k)).2.map Xf/\vA ps (jv ps x (rows.take k)).1 t.1) _ (by omega) ⟨rfl,g⟩ (λk t hk hP=>?_) (λt hP=>⟨t,?_,?_⟩)
  .obtain⟨M,acc⟩:=t;obtain⟨hacc,hM⟩:=hP;dsimp only at hacc hM;obtain⟨a1,a2⟩:=Gs hg.1 hx (rows.take k) (by rw[zav];omega);rw[zav] at a2;obtain⟨m',e1',e2'⟩:=Wb a1 hM hg (by omega) rows[k];have hla:acc.length=k:=by rw[hacc,zl,Ic,zav];omega
   refine .inl ⟨(m',acc ++ [⟨(er ps (jv ps x (rows.take k)).1 rows[k]).2.1,(er ps (jv ps x (rows.take k)).1 rows[k]).2.2⟩]),?_,?_,?_⟩
   .dsimp only;rw[zb (by simpa using hk),u5 hk,Yz,e1',Yz,FZ (by omega) (by omega),Yz,o5 (n:=k) (by omega)]
   .dsimp only;rw[U4 hk,xI,mt,hacc];rfl
   .rw[U4 hk,xI];exact e2'
  .dsimp only;rw[za (by simp)]
  .rw[zU] at hP;exact hP
 exact⟨e.1,by rw[h1];show some _=_;rw[<-h2.1],h2.2⟩
end
theorem Vl(l:List (List j5)):∃b,hZ l=some b/\(b=true->l.length<=10/\∀p∈l,p.length<=10):=by
 unfold hZ;simp only[jn];refine VP (Q:=λb=>b=true->l.length<=10/\(∀p∈l,p.length<=10)) (min l.length 10) (λk=>∀h:k<l.length,(l[k]).length<=10) (by have:min l.length 10<=10:=Nat.min_le_right ..;omega) (λk hk=>?_) ?_ (λhP=>?_) (λhP=>?_)
 .have hkl:k<l.length:=by omega
  have hk10:k<10:=by omega
  have c:((decide (((k:Nat):Int)<(l.length:Int)))&&(decide (((k:Nat):Int)<10)))=true:=by simp;omega
  by_cases q:(l[k]).length<=10
  .refine⟨_,?_,.inl ⟨λ_=>q,rfl⟩⟩;rw[zb c,u5 hkl,Yz,za (by simp;omega),o5]
  .refine⟨_,?_,.inr ⟨λh=>q (h hkl),rfl⟩⟩;rw[zb c,u5 hkl,Yz,zb (by simp;omega)]
 .rw[za (by simp;omega)]
 .refine⟨_,rfl,λh=>?_⟩;have h10:l.length<=10:=by have:=zbi h;omega
  refine⟨h10,λp hp=>?_⟩;obtain⟨k,hk,rfl⟩:=wt hp;exact hP k (by omega) hk
 .exact⟨false,rfl,λh=>by cases h⟩
theorem Rw(l:List (List Int))(m:Int):∃b,gm l m=some b/\(b=true->(l.length:Int)<=m):=by
 unfold gm;simp only[jn];refine VP (Q:=λb=>b=true->(l.length:Int)<=m) (min l.length 200) (λk=>∀h:k<l.length,(l[k]).length<=10) (by have:min l.length 200<=200:=Nat.min_le_right ..;omega) (λk hk=>?_) ?_ (λhP=>?_) (λhP=>?_)
 .have hkl:k<l.length:=by omega
  have hk10:k<200:=by omega
  have c:((decide (((k:Nat):Int)<(l.length:Int)))&&(decide (((k:Nat):Int)<200)))=true:=by simp;omega
  by_cases q:(l[k]).length<=10
  .refine⟨_,?_,.inl ⟨λ_=>q,rfl⟩⟩;rw[zb c,u5 hkl,Yz,za (by simp;omega),o5]
  .refine⟨_,?_,.inr ⟨λh=>q (h hkl),rfl⟩⟩;rw[zb c,u5 hkl,Yz,zb (by simp;omega)]
 .rw[za (by simp;omega)]
 .exact⟨_,rfl,λh=>zbi h⟩
 .exact⟨false,rfl,λh=>by cases h⟩
def CX:List (List j5):=[[(⟨2,2,5,0⟩:j5)]]
def nm:List (List Int):=[[1,0,1,0],[5,0,0,0],[3,0,0,0],[11,0,0,0],[12,9,0,0],[3,2,0,0],[11,0,0,0],[2,9,0,0]]
def CM:a8:=⟨[],[0,0,0],[0,0,0],5,8,0,List.replicate 6 0,List.replicate 6 ⟨0,false,-1⟩,[],[],CX⟩
def Yk:a8:=⟨[],[],[],0,0,0,[],[],[],[],[]⟩
def Uk(k:Nat)(l:Int)(p:Nat)(ps:List (List j5)):a8:=⟨[],List.replicate k 0,List.replicate k 0,l,p,0,List.replicate 6 0,List.replicate 6 ⟨0,false,-1⟩,[],[],ps⟩
theorem Nf(k:Nat)(l:Int)(p i:Nat):ce (pV k l p).S i=⟨0,0,z0⟩:=by
 unfold ce pV;dsimp only;rw[zd,List.getElem?_replicate];split <;> rfl
theorem Ul(k:Nat)(l:Int)(p:Nat)(ps:List (List j5)):r8 (λ_=>0) (pV k l p) (Uk k l p ps):=by
 have nt:∀i,¬Th (ce (pV k l p).S i):=λi=>by rw[Nf];unfold Th;decide
 have rep:∀(f:Nat->Int),(∀i,f i=0)->List.replicate k (0:Int)=(List.range (pV k l p).S.S.b7.length).map f:=λf hf=>by
  symm
  rw[List.eq_replicate_iff];refine⟨by rw[zl,zb9];exact List.length_replicate ..,λb hb=>?_⟩;obtain⟨i,_,rfl⟩:=zq.1 hb;exact hf i
 refine⟨⟨rfl,λh i a=>absurd a.2.1 (nt i)⟩,⟨List.Pairwise.nil,λn=>⟨λh=>(nomatch h),λ⟨i,_,t,_⟩=>absurd t (nt i)⟩⟩,rep _ λi=>?_,rep _ λi=>by rw[Nf],rfl,?_,rfl,rfl,rfl,List.Pairwise.nil,λq=>⟨λh=>(nomatch h),λ⟨a,v,h,_⟩=>?_⟩,rfl⟩
 .unfold Oe;rw[za (nt i),Nf];rfl
 .show (p:Int)=((List.replicate p _).length:Nat);rw[List.length_replicate]
 .obtain⟨i,hi,_⟩:=h;have:=hi.2.1;rw[show (pV k l p).T=List.replicate p ⟨0,0,0⟩ from rfl,vj] at this;cases this
theorem So{n last places:Int}{ps:List (List j5)}(hl:ps.length<=12)(hp:∀p∈ps,p.length<=12) :
  (∃e E,e≠0/\P6 n last places ps=some (E,e)/\aV n last places ps=some (Yk,e)/\(e=13\/e=1/\¬((1<=n/\n<=24)/\(0<=last/\last<=9)/\1<=places/\places<=8))) \/
  (∃k p:Nat,n=k/\places=p/\(1<=k/\k<=24)/\Pg ps/\Rs (pV k last p) 0/\P6 n last places ps=some (⟨pV k last p,ps⟩,0)/\aV n last places ps=some (Uk k last p ps,0)/\vA ps (pV k last p) (Uk k last p ps)):=by
 rcases WB (n:=n) (last:=last) (places:=places) hl hp with ⟨e,e1,_,e3⟩ | ⟨k,p,rfl,rfl,hk,hm,hr,e1,_⟩
 .left;have he:e≠0:=by omega
  refine⟨e,_,he,e1,?_,e3⟩;unfold aV;rw[e1,Yz,zb (by simpa using he)];rfl
 .right;have hpg:fk ps=true:=by
   cases hq:fk ps with
   | true=>rfl
   | false=>
    have e2:fP ps=some (fk ps):=ES (by omega) hp;unfold P6 at e1;rw[e2,Yz,hq,zb (show (!false)=true from rfl)] at e1;exact absurd (zX (λp=>p.2) (zJ e1)) (by simp)
  refine⟨k,p,rfl,rfl,hk,WJ hpg,hr,e1,?_,⟨_,Ul k last p ps⟩,rfl,λc _ n hn=>(nomatch hn)⟩;unfold aV;rw[e1,Yz,za (by simp),ky (by omega) (by omega),Yz,show mk 8 6 (0:Int)=some (List.replicate 6 0) from rfl,Yz];refine rX (a:=List.replicate 6 ⟨0,false,-1⟩) (by kernel_rfl) ?_;rfl
theorem Rx:gn=some true:=by
 have hp:∀p∈CX,p.length<=12:=λp h=>by
  have:p = [⟨2,2,5,0⟩]:=zp.1 h;subst this;decide
 rcases So (n:=3) (last:=5) (places:=8) (ps:=CX) (by decide) hp with ⟨e,E,he,e1,e2,_⟩ | ⟨k,p,hk,hpp,_,hg,hr0,e1,e2,G⟩
 .have h3:aV 3 5 8 CX=some (CM,0):=by kernel_rfl
  rw[e2] at h3;exact absurd (zX (λp=>p.2) (zJ h3)) he
 .obtain rfl:k=3:=by omega
  obtain rfl:p=8:=by omega
  have h3:aW (Uk 3 5 8 CX) nm=some ((aW CM nm).getD (CM,[])):=by kernel_rfl
  obtain⟨m',k1,_⟩:=Mu hr0.oh G hg (rows:=nm) (by decide) (by have:=hr0.aH;omega);rw[h3] at k1;have k2:(jv CX (pV 3 5 8) nm).2.map Xf=((aW CM nm).getD (CM,[])).2:=(zX (λp=>p.2) (zJ k1)).symm;have k3:(jv CX (pV 3 5 8) nm).2.map OE=((aW CM nm).getD (CM,[])).2:=k2;have b1:=VW hg.1 hr0.oh nm (by decide) (by have:=hr0.aH;omega);rw[k3] at b1;unfold gn;refine rX (a:=(Uk 3 5 8 CX,(0:Int))) e2 ?_;refine rX (a:=((⟨pV 3 5 8,CX⟩:s6),(0:Int))) e1 ?_;refine rX (a:=(aW CM nm).getD (CM,[])) h3 ?_;refine rX b1 ?_;kernel_rfl
theorem Wc{l:List (List j5)}{rows:List (List Int)}{m:Int}{K:Option Bool}(h:hZ l=some true->l.length<=10->(∀p∈l,p.length<=10)->(rows.length:Int)<=m->K=some true) :
  ((hZ l).bind λv1=>(D4 ((!v1)==false) false (gm rows m)).bind λv2=>(D4 (((!v1)||(!v2))==false) false gn).bind λv3=>if (((!v1)||(!v2))||(!v3)) then (gn).bind λv4=>some v4 else K)=some true:=by
 obtain⟨b,h1,h2⟩:=Vl l;obtain⟨c,h3,h4⟩:=Rw rows m;rw[h1,Yz,Rx];cases b;·rfl
 .rw[show D4 ((!true)==false) false (gm rows m)=gm rows m from rfl,h3,Yz];cases c;·rfl
  .exact h h1 (h2 rfl).1 (h2 rfl).2 (h4 rfl)
theorem Ve{ps:List (List j5)}{x:Hp}{m:a8}(hx:Oh x)(g:vA ps x m)(ht:hZ ps=some true):uu m=some true:=by
 obtain⟨⟨σ,q⟩,hp,_⟩:=g;have B:=q.bn hx.rt.sh.sr;have C:=q.bl hx.rt.sh;have nl:=B.nl;have hR:=hx.rt.sh;have r6:=q.r6 hx.rt;have c6:m.b7.length=6:=by rw[q.ce,zl,hR.c6]
 have tl:m.Tasks.length<=30:=by rw[q.tk,zl];exact hR.q30
 have pl8:m.Pairs.length<=8:=by
  rw[(q.perm hR).length_eq,zl];unfold jE;rw[zl];exact zO (zB ..) hR.hr.l8
 have gl:=B.gl;unfold uu;simp only[jn];refine fU m.Nodes.length (λ_=>True) (by omega) trivial (λk hk _=>.inl ⟨?_,trivial⟩) (λ_=>⟨.inr (),?_,?_⟩)
 .have c:((decide (((k:Nat):Int)<(m.Nodes.length:Int)))&&(decide (((k:Nat):Int)<60)))=true:=by simp;omega
  have:=B.fl _ (zh hk);rw[zb c,u5 hk,Yz,za (by simp;omega),o5]
 .rw[za (by simp)]
 .have e:((((((((decide ((m.Nodes.length:Int)<=50))&&(decide ((m.Pairs.length:Int)<=20)))&&(decide ((m.Tasks.length:Int)<=100)))&&(decide ((m.b7.length:Int)<=20)))&&(decide ((m.Roots.length:Int)<=20)))&&(decide ((m.Slots.length:Int)<=30)))&&(decide ((m.Gens.length:Int)<=30))))=true:=by
   simp;omega
  dsimp only;rw[e,hp];simp only[q9,iI];rw[ht];rfl
theorem vA.r6{ps:List (List j5)}{x:Hp}{m:a8}(hx:Oh x)(g:vA ps x m):m.Roots.length=6:=by
 obtain⟨⟨σ,q⟩,_⟩:=g;exact q.r6 hx.rt
theorem vA.lives{ps:List (List j5)}{x:Hp}{m:a8}(hx:Oh x)(g:vA ps x m):ai m=some (Fp x):=by
 obtain⟨⟨σ,q⟩,_⟩:=g;exact CJ hx.rt.sh.sr q
theorem Rk{n:Int}(h0:0<=n)(h1:n<=255){b:Int}(hb:0<b):rem (w9 n) b=some (n % b):=by rw[T5 (by omega) (by omega),Dh h0 hb]
theorem Ui{n last:Int}(h0:0<=n)(h1:n<=255){ps:List (List j5)}(hl:ps.length<=12)(hp:∀p∈ps,p.length<=12)(hL:0<=last/\last<=9) :
  (∃E,P6 (w9 (1+n % 24)) last 8 ps=some (E,13)/\aV (w9 (1+n % 24)) last 8 ps=some (Yk,13)) \/
  (∃k:Nat,1+n % 24=k/\(1<=k/\k<=24)/\Pg ps/\Rs (pV k last 8) 0/\P6 (w9 (1+n % 24)) last 8 ps=some (⟨pV k last 8,ps⟩,0)/\aV (w9 (1+n % 24)) last 8 ps=some (Uk k last 8 ps,0)/\vA ps (pV k last 8) (Uk k last 8 ps)):=by
 have hw:w9 (1+n % 24)=1+n % 24:=T5 (by omega) (by omega);rw[hw];rcases So (n:=1+n % 24) (last:=last) (places:=8) (ps:=ps) hl hp with ⟨e,E,he,e1,e2,e3⟩ | ⟨k,p,hk,hpp,hk2,hg,hr,e1,e2,G⟩
 .rcases e3 with rfl | ⟨_,h⟩
  .exact .inl ⟨E,e1,e2⟩
  .exact absurd ⟨by omega,hL,by omega,by omega⟩ h
 .obtain rfl:p=8:=by omega
  exact .inr ⟨k,hk,hk2,hg,hr,e1,e2,G⟩
section
variable{σ:Int->Int}{x:Hp}{m:a8}(hx:Oh x)(q:r8 σ x m)
include hx q
end
section
variable{σ:Int->Int}{x:Hp}{m:a8}(hx:Oh x)(q:r8 σ x m)
include hx q
end
section
variable{σ:Int->Int}{x:Hp}{m:a8}(hx:Oh x)(q:r8 σ x m)
include hx q
end
theorem Ac(h:Int):∀l:List Int,0<Q0 l h↔h∈l/\h≠0
 | []=>by rw[H9];simp
 | v::l=>by
  rw[H2,zM];have ih:=Ac h l;by_cases c:v=h/\h≠0
  .rw[zb c];exact⟨λ_=>⟨.inl c.1.symm,c.2⟩,λ_=>by omega⟩
  .rw[za c,za7,ih];constructor;·exact λk=>⟨.inr k.1,k.2⟩
   .rintro⟨k | k,h0⟩;·exact absurd ⟨k.symm,h0⟩ c
    .exact⟨k,h0⟩
theorem modelWeak{n last a b:Int}{l:List (List j5)}{rows:List (List Int)}(h0:0<=n)(h1:n<=255)(g0:0<=last)(g1:last<=255)(a0:0<=a)(a1:a<=255)(b0:0<=b)(b1:b<=255):ld n last l rows a b=some true:=by
 unfold ld;refine Wc λht hl hp hr=>?_;have hp12:∀p∈l,p.length<=12:=λp q=>by have:=hp p q;omega
 rw[Rk h0 h1 (by decide),Yz,Rk g0 g1 (by decide),Yz];rcases Ui (last:=last % 10) h0 h1 (ps:=l) (by omega) hp12 (by omega) with ⟨E,e1,e2⟩ | ⟨k,hk,hk2,hg,hr0,e1,e2,G⟩
 .rw[e2,Yz,e1,Yz];rfl
 .have hs:=hr0.aH;obtain⟨m',k1,k2⟩:=Mu hr0.oh G hg (rows:=rows) (by omega) (by omega);obtain⟨o1,o2⟩:=Gs hg.1 hr0.oh rows (by omega);rw[e2,Yz,e1,Yz];dsimp only;rw[za (by simp),k1,Yz,VW hg.1 hr0.oh rows (by omega) (by omega),Yz];dsimp only;rw[Ve o1 k2 ht,Yz];have hser:(jv l (pV k (last % 10) 8) rows).1.S.Serial<7000000000000000000:=by omega
  generalize (jv l (pV k (last % 10) 8) rows).1=x at *;have hS:=o1.rt.sh;have hR:=hS.sr;have klv:=k2.lives o1;obtain⟨⟨σ,q⟩,hpr,hum⟩:=k2;have c6x:=hS.c6;have c6:m'.b7.length=6:=by rw[q.ce,zl,c6x]
  rw[c6,za (by simp),Rk a0 a1 (by decide),Yz,Rk b0 b1 (by decide)];obtain⟨w,hw⟩:∃w:Nat,a % 6=w:=⟨(a % 6).toNat,by omega⟩;have hw6:w<6:=by omega
  have hwm:w<m'.b7.length:=by omega
  have hwx:w<x.b7.length:=by omega
  rw[hw,u5 hwm,Yz,Yz,Yi hg.1 o1 hser,Yz];have hc:m'.b7[w]=wx σ x.b7[w]:=by simp only[q.ce,t7]
  have hr7:0<=b % 6/\b % 6<=5:=by omega
  have i0:∀ {n l m e:Int},l<=n/\n<=m->M3 n l m e=0:=λh=>by unfold M3;rw[za (by omega)]
  have c7:y4 7 (b % 6) (w:Int) 0=0:=by
   show bH (M3 (b % 6) 0 5 6) (M3 (w:Int) 0 5 7) 0=0;rw[i0 hr7,i0 (by omega)];rfl
  have hdec:aL [7,b % 6,(w:Int),0]=(⟨7,b % 6,(w:Int),0⟩,0):=by
   unfold aL;rw[Ci,za (by simp[c7])];rfl
  have her:er l x [7,b % 6,(w:Int),0]=fS x ⟨7,b % 6,(w:Int),0⟩:=by
   unfold er;rw[hdec,za (by simp)];unfold eo;rw[za (show ¬((7:Int)=11) by decide),za (show ¬((7:Int)=12) by decide)]
  rw[her];obtain⟨hb,d⟩:=d7 o1.rt o1.sl c7;simp only[zP] at d;have hsl:(Fp x).length<=24:=Ry hR;have hin:m'.b7[w].Intact=((m'.b7[w].Target != 0)&&decide ((Q0 (Fp x) m'.b7[w].Target:Int) > 0)):=by
   rw[za8,zy,bne_iff_ne,zF];constructor
   .intro hi;have hi':x.b7[w].Intact=true:=by rw[hc] at hi;exact hi
    have hl':=((hS.cl w hwx).2.2.2.2 hi').1;have hp:=q.gd.ps hR hl';have ht':m'.b7[w].Target=σ x.b7[w].Target:=by rw[hc];rfl
    rw[ht'];have:0<Q0 (Fp x) (σ x.b7[w].Target):=(Ac _ _).2 ⟨by
     have:=q.aH o1.rt (.inr hl');rw[<-this];exact zby hl',by omega⟩
    omega
   .rintro⟨h0',hp⟩;have:0<Q0 (Fp x) m'.b7[w].Target:=by omega
    obtain⟨hm,_⟩:=(Ac _ _).1 this;unfold Fp at hm;obtain⟨h,hh,e⟩:=zq.1 hm;have p:=o6 hR hh;refine hum _ (zh hwm) (Sh.nd σ x.S (D7 h)) (q.nd.at hR p.1 p.d.2.1) ?_ ?_
    .show decide ((Sh.ce x.S (D7 h)).State=1)=true;rw[zD p.2.1]
    .rw[<-e];show (Sh.ce x.S (D7 h)).Val.Serial=(ob x.S h).Serial;rw[F1 hR p]
  have hend:(if (!m'.b7[w].Intact) then (some (((OE (fS x ⟨7,b % 6,(w:Int),0⟩).2).V==0)&&(((OE (fS x ⟨7,b % 6,(w:Int),0⟩).2).E==9)&&true)):Option Bool) else some (((OE (fS x ⟨7,b % 6,(w:Int),0⟩).2).V==m'.b7[w].Target)&&(((OE (fS x ⟨7,b % 6,(w:Int),0⟩).2).E==0)&&true)))=some true:=by
   rcases d with ⟨hi,er'⟩ | ⟨hi,dn'⟩
   .have:m'.b7[w].Intact=false:=by rw[hc];exact hi
    rw[this,er'.fS,zb (by simp)];simp[OE]
   .have:m'.b7[w].Intact=true:=by rw[hc];exact hi
    have hl':=((hS.cl w hwx).2.2.2.2 hi).1;have ht':m'.b7[w].Target=aH x x.b7[w].Target:=by rw[hc,q.aH o1.rt (.inr hl')];rfl
    rw[this,dn'.fS,za (by simp),ht'];simp[OE]
  by_cases t0:m'.b7[w].Target=0
  .have hf:m'.b7[w].Intact=false:=by rw[hin,t0];rfl
   rw[t0];simp only[zcj,zC,D4,beq_false,Bool.not_false,t8,Yz];rw[t0] at hend;simpa[hf] using hend
  .have hb':(m'.b7[w].Target != 0)=true:=by simpa using t0
   rw[hb'];simp only[q9,iI];rw[klv,Yz,Hk _ _ (by omega),Yz];rw[hb'] at hin;rw[<-hin,za (by simp)];exact hend
end Go.Sh
