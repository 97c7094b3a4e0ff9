/- A part. -/
import Derived.Test.YtmgbbnfgfmfgaaaGreatQ22gT2
set_option linter.unusedVariables false
set_option linter.unusedSimpArgs false
set_option linter.unusedSectionVars false
namespace Go.Sh
def MC(m:a8)(w:Nat)(s call:Int):a8:=Fc (TW m (m.b7.set w (fV s call))) (m.b7.getD w cz).Target
theorem Hw{m:a8}{s:Int}{n:b8}(h:m.Nodes.find? (λn=>n.Serial==s)=some n):Fc m s=if n.Alive=true\/0<jy m.b7 s then m else yL m n:=by
 unfold Fc;rw[h]
theorem Ni{m:a8}{s:Int}(h:m.Nodes.find? (λn=>n.Serial==s)=none):Fc m s=m:=by
 unfold Fc;rw[h]
theorem Kb{σ:Int->Int}{x:Hp}{m:a8}(hR:SR x.S)(q:p8 σ x m){i:Nat}(hi:i<x.S.S.b7.length)(ht:Th (ce x.S i))(d:Int):p8 σ (wS x (lV x.S i d)) m:=by
 refine q.alike hR (K6 ..) rfl rfl λj hj=>?_;rw[fw hR hi ht];split;·rename_i e;subst e;exact⟨rfl,rfl,rfl,rfl,rfl,rfl,rfl⟩
 .exact⟨rfl,rfl,rfl,rfl,rfl,rfl,rfl⟩
theorem lI{x:Hp}(hS:kH x){c:k8}(hc:c∈x.b7):c.Target=0\/∃i,U9 x.S c.Target i:=by
 obtain⟨i,hi,rfl⟩:=un hc;by_cases e:x.b7[i].Target=0
 .exact .inl e
 .exact .inr ((hS.cl i hi).2.2.2.1 e)
theorem p8.cW{σ:Int->Int}{x:Hp}{m:a8}(hx:K1 x)(q:p8 σ x m){w:Nat}(hw:w<6){h call:Int}(hh:h=0\/h∈lv x.S):p8 σ (cW x w h call) (MC m w (σ h) call):=by
 have hS:=hx.sh;have hR:=hS.sr;have hwl:w<x.b7.length:=by rw[hS.c6];exact hw
 have hz:(σ h != 0)=(h != 0):=by
  have:=q.gd.zero hR (Oy hR q.gd hh);rw[zbj];simp[this]
 have q1:p8 σ (wC x (x.b7.set w (fV h call))) (TW m (m.b7.set w (fV (σ h) call))):=by
  refine⟨q.gd,q.nd,q.sl,q.ge,q.la,q.npl,q.se,q.ro,?_,q.p1,q.p2,q.tk⟩;show m.b7.set w (fV (σ h) call)=(x.b7.set w (fV h call)).map (wx σ);rw[q.ce,zcq];congr 1;unfold wx fV;rw[hz]
 have hold:(m.b7.getD w cz).Target=σ (mD x w):=by
  unfold mD;rw[q.ce,zd,zB,zd,zc hwl];rfl
 have htg:mD x w=x.b7[w].Target:=by unfold mD;rw[zd,zc hwl];rfl
 unfold Sh.cW MC;rw[hold];generalize hy:iN (wC x (x.b7.set w (fV h call))) h 1=y;generalize hm:TW m (m.b7.set w (fV (σ h) call))=m1 at q1;have k:∃s2,y=wS (wC x (x.b7.set w (fV h call))) s2/\SR s2/\p8 σ y m1/\s2.S.b7.length=x.S.S.b7.length/\∀i,i<x.S.S.b7.length->(Sh.ce s2 i).State=(Sh.ce x.S i).State/\(Sh.ce s2 i).Gen=(Sh.ce x.S i).Gen/\(Sh.ce s2 i).Val.Weak=(Sh.ce x.S i).Val.Weak+if h=cy x.S i/\Th (Sh.ce x.S i) then 1 else 0:=by
  subst hy;unfold iN;split
  .rename_i c;have c:U9 x.S h (E3 h):=c;refine⟨_,rfl,vL hR c.1 c.2.1 (by have:=(hR.ok _ c.1 c.2.1).wk;omega),Kb (x:=wC x (x.b7.set w (fV h call))) hR q1 c.1 c.2.1 1,K6 ..,λi hi=>?_⟩;show (Sh.ce (lV x.S (E3 h) 1) i).State=_/\(Sh.ce (lV x.S (E3 h) 1) i).Gen=_/\(Sh.ce (lV x.S (E3 h) 1) i).Val.Weak=_;rw[fw hR c.1 c.2.1];split
   .rename_i e;subst e;exact⟨rfl,rfl,by rw[zb ⟨c.2.2,c.2.1⟩]⟩
   .rename_i e;refine⟨rfl,rfl,?_⟩;rw[za λd=>?_];·omega
    .exact e (U9.one hR (d.1▸xF hi d.2) c)
  .rename_i c;refine⟨_,rfl,hR,q1,rfl,λi hi=>⟨rfl,rfl,?_⟩⟩;rw[za λd=>?_];·omega
   .refine c ?_;have:=xF hi d.2;show U9 x.S h (E3 h);rw[d.1,this.E3 hR];exact this
 obtain⟨s2,ey,hR2,q2,hl2,hc2⟩:=k;have hcf:∀c∈x.b7.set w (fV h call),c.Target=0\/∃i,U9 x.S c.Target i:=λc hc=>by
  rcases zan hc with hc | rfl
  .exact lI hS hc
  .exact Oy hR q.gd hh
 rcases lI hS (zh hwl) with e0 | ⟨p,hp⟩
 .rw[<-htg] at e0;rw[e0,q.gd.z,Ni (q2.Yf (by rw[ey];exact hR2))];unfold qh;rw[za];·exact q2
  .intro c;have:=c.Ml (by rw[ey];exact hR2);omega
 .rw[<-htg] at hp;have hpp:=hp.E3 hR;obtain⟨s1',g1,w1⟩:=hc2 p hp.1;have hT2:Th (Sh.ce s2 p):=by unfold Th;rw[s1'];exact hp.2.1
  have hp2:U9 s2 (mD x w) p:=⟨by rw[hl2];exact hp.1,hT2,by rw[g1];exact hp.2.2⟩;have hp2y:U9 y.S (mD x w) p:=by rw[ey];exact hp2
  have hRy:SR y.S:=by rw[ey];exact hR2
  have h0:mD x w≠0:=by have:=hp.Ml hR;omega
  have s0:σ (mD x w)≠0:=by have:=q.gd.pos hR hp;omega
  have ehd:mD x w=cy x.S p:=hp.2.2;have hnm:(Sh.ce y.S p).Val.Weak=(Sh.jy (x.b7.set w (fV h call)) (mD x w):Int)+1:=by
   rw[ey];show (Sh.ce s2 p).Val.Weak=_;have a:=Kd hwl (fV h call) h0;have b:(Sh.ce x.S p).Val.Weak=(Sh.jy x.b7 (mD x w):Int):=by rw[ehd];exact (hx.wk p hp.1 hp.2.1).1
   rw[w1,b];rw[htg] at a |-;rw[zb rfl] at a;by_cases c:h=x.b7[w].Target
   .rw[zb ⟨by rw[c,<-htg];exact ehd,hp.2.1⟩];rw[zb (show (fV h call).Target=_ from c)] at a;omega
   .rw[za λd=>c (by rw[d.1,<-htg];exact ehd.symm)];rw[za (show ¬(fV h call).Target=_ from c)] at a;omega
  have q3:p8 σ (wS y (lV y.S p (-1))) m1:=Kb hRy q2 hp2y.1 hp2y.2.1 (-1);have hR3:SR (lV y.S p (-1)):=vL hRy hp2y.1 hp2y.2.1 (by rw[hnm];omega);have hp3:U9 (wS y (lV y.S p (-1))).S (mD x w) p:=(xG hp2y.1 _).2 hp2y;have hf:=q3.find hR3 hp3;have hst:(Sh.ce (lV y.S p (-1)) p).State=(Sh.ce y.S p).State:=by rw[fw hRy hp2y.1 hp2y.2.1,zb rfl]
  have hcm:Sh.jy m1.b7 (σ (mD x w))=Sh.jy (x.b7.set w (fV h call)) (mD x w):=by
   have:m1.b7=(x.b7.set w (fV h call)).map (wx σ):=by
    have:=q2.ce;rw[ey] at this;exact this
   rw[this];exact q.jy hR (λc hc e=>q.gd.XH hR (hcf c hc) (.inr ⟨p,hp⟩) e) h0 s0
  rw[Hw hf,hcm];unfold qh;rw[hpp,zb hp2y];by_cases c:(Sh.ce y.S p).State=2/\(Sh.ce y.S p).Val.Weak=1
  .rw[zb c,za];·exact q3.yL hR3 hp3.1 hp3.2.1
   .rintro (d | d)
    .have:(Sh.ce (lV y.S p (-1)) p).State=1:=by simpa[Sh.nd] using d
     rw[hst,c.1] at this;exact absurd this (by decide)
    .have:=c.2;rw[hnm] at this;omega
  .rw[za c,zb];·exact q3
   .by_cases d:(Sh.ce y.S p).State=2
    .right;have:(Sh.ce y.S p).Val.Weak≠1:=λe=>c ⟨d,e⟩;rw[hnm] at this;omega
    .left;have:(Sh.ce y.S p).State=1:=hp2y.2.1.resolve_right d;unfold Sh.nd;exact zE (hst.trans this)
def lM(n:b8):b8:=⟨n.Serial,n.Slot,n.Prog,n.Started,false,n.Stuck,[]⟩
def rz(m:a8)(s:Int):a8:=Fc (ye m (dF m.Nodes s lM)) s
theorem tH(s:Int){f:b8->b8}(hf:∀n,(f n).Serial=n.Serial):∀l:List b8,(dF l s f).find? (λn=>n.Serial==s)=(l.find? λn=>n.Serial==s).map f
 | []=>rfl
 | n::l=>by
  unfold dF at *;rw[zQ,zck,zck];by_cases e:n.Serial=s
  .rw[zb e];have:(f n).Serial=s:=(hf n).trans e;simp[e,this]
  .rw[za e];have:(n.Serial==s)=false:=by simpa using e
   rw[this];exact tH s hf l
theorem rY(s:Int){f:b8->b8}(hf:∀n,(f n).Serial=n.Serial):∀l:List b8,(dF l s f).filter (λn=>n.Serial != s)=l.filter λn=>n.Serial != s
 | []=>rfl
 | n::l=>by
  unfold dF at *;rw[zQ,mt,mt];by_cases e:n.Serial=s
  .rw[zb e];have:(f n).Serial=s:=(hf n).trans e;simp only[this,e,zb7];exact rY s hf l
  .rw[za e];have:(n.Serial != s)=true:=by simpa using e
   simp only[this,we];have ih:=rY s hf l;unfold dF at ih;rw[ih]
theorem p8.rz{σ:Int->Int}{x:Hp}{m:a8}(hR:SR x.S)(q:p8 σ x m){d:Int}(hd:d∈lv x.S)(hst:(ob x.S d).Strong<12)(hw:(ob x.S d).Weak=Sh.jy x.b7 d)
  (hinj:∀c∈x.b7,σ c.Target=σ d->c.Target=d):p8 σ (wS x (xl x.S d)) (rz m (σ d)):=by
 have p:=o5 hR hd;have h0:d≠0:=by have:=I7 hR hd;omega
 have s0:σ d≠0:=by have:=q.gd.ps hR hd;omega
 have hf:=q.find hR p.d;have hsd:(Sh.nd σ x.S (E3 d)).Serial=σ d:=(q.gd.f d _ p.d).symm;have hcm:Sh.jy m.b7 (σ d)=Sh.jy x.b7 d:=by rw[q.ce];exact q.jy hR hinj h0 s0
 have hf2:(ye m (dF m.Nodes (σ d) lM)).Nodes.find? (λn=>n.Serial==σ d)=some (lM (Sh.nd σ x.S (E3 d))):=by
  show (dF m.Nodes (σ d) lM).find? _=_;rw[tH _ (f:=lM) (λ_=>rfl),hf];rfl
 unfold Sh.rz;rw[Hw hf2];have hcm':Sh.jy (ye m (dF m.Nodes (σ d) lM)).b7 (σ d)=Sh.jy x.b7 d:=hcm;rw[hcm'];unfold xl;rw[G2 hR p] at hw hst;by_cases c:(Sh.ce x.S (E3 d)).Val.Weak=0
 .have e:Ha x.S (E3 d)=Hb x.S (E3 d):=by unfold Ha Hb;rw[zb c]
  rw[e,za]
  .have:Sh.yL (ye m (dF m.Nodes (σ d) lM)) (lM (Sh.nd σ x.S (E3 d)))=Sh.yL m (Sh.nd σ x.S (E3 d)):=by
    unfold Sh.yL lM;dsimp only;rw[hsd];have:=rY (σ d) (f:=lM) (λ_=>rfl) m.Nodes;unfold lM at this;rw[this]
   rw[this];exact q.yL hR p.1 p.d.2.1
  .rintro (a | a);·exact absurd a (by unfold lM;simp)
   .rw[c] at hw;omega
 .have e:Ha x.S (E3 d)=⟨2,(Sh.ce x.S (E3 d)).Gen,Lw (Sh.ce x.S (E3 d)).Val⟩:=by unfold Ha;rw[za c]
  rw[e,zb (.inr (by have:=(hR.ok _ p.1 p.d.2.1).wk;omega))];have hc:=λj=>L6 p.1 ⟨2,(Sh.ce x.S (E3 d)).Gen,Lw (Sh.ce x.S (E3 d)).Val⟩ j;have hl:=W9 x.S (E3 d) ⟨2,(Sh.ce x.S (E3 d)).Gen,Lw (Sh.ce x.S (E3 d)).Val⟩;generalize hs':I8 x.S (E3 d) ⟨2,(Sh.ce x.S (E3 d)).Gen,Lw (Sh.ce x.S (E3 d)).Val⟩=s' at hc hl;have hsl:s'.S.Last=x.S.S.Last/\s'.Serial=x.S.Serial:=by subst hs';exact⟨rfl,rfl⟩
  have same:∀i,(Th (Sh.ce s' i)↔Th (Sh.ce x.S i))/\(Sh.ce s' i).Gen=(Sh.ce x.S i).Gen/\(Sh.ce s' i).Val.Serial=(Sh.ce x.S i).Val.Serial:=λi=>by
   rw[hc i];split;·rename_i e2;subst e2;exact⟨⟨λ_=>p.d.2.1,λ_=>.inr rfl⟩,rfl,rfl⟩
   .exact⟨Iff.rfl,rfl,rfl⟩
  refine⟨q.gd.up λk i a=>⟨⟨by have:=a.1;rw[<-hl];exact this,(same i).1.1 a.2.1,?_⟩,(same i).2.2⟩,?_,?_,?_,by rw[q.la];exact hsl.1.symm,q.npl,by rw[q.se];exact hsl.2.symm,q.ro,q.ce,q.p1,q.p2,q.tk⟩
  .have:=a.2.2;change k=1+(i:Int)+32*(Sh.ce s' i).Gen at this
   rw[(same i).2.1] at this;exact this
  .have:=q.nd.x6 (s':=s') hR p.1 hl (λj hj=>by rw[hc j,za hj]) p.d.2.1 ((same _).1.2 p.d.2.1) (same _).2.2 (f:=lM) (by
    unfold Sh.nd lM;rw[hc,zb rfl];dsimp only;rw[zZ (show ¬(12:Int)<=(Sh.ce x.S (E3 d)).Val.Strong by omega)];rfl)
   rw[q.gd.f d _ p.d];exact this
  .show m.Slots=List.map _ (List.range s'.S.b7.length);rw[hl,q.sl];refine U6 λi hi=>?_;unfold PZ;by_cases c2:Th (Sh.ce x.S i)
   .rw[zb c2,zb ((same i).1.2 c2),(same i).2.2]
   .rw[za c2,za λd=>c2 ((same i).1.1 d),hc i,za (show i≠E3 d from λe2=>c2 (e2▸p.d.2.1))]
  .show m.Gens=List.map _ (List.range s'.S.b7.length);rw[hl,q.ge];exact U6 λi hi=>(same i).2.1.symm
theorem p8.VU{σ:Int->Int}:∀(ds:List Int) {x:Hp} {m:a8},SR x.S->p8 σ x m->ds.Nodup->(∀d∈ds,d∈lv x.S/\(ob x.S d).Strong<12/\(ob x.S d).Weak=Sh.jy x.b7 d)->(∀d∈ds,∀c∈x.b7,σ c.Target=σ d->c.Target=d) ->
  p8 σ (wS x (oR x.S ds)) ((ds.map σ).foldl Sh.rz m)
 | [],x,m,hR,q,_,_,_=>q
 | d::ds,x,m,hR,q,hn,hm,hi=>by
  rw[zaa] at hn;obtain⟨a1,a2,a3⟩:=hm d zg;have Q:=q.rz hR a1 a2 a3 (hi d zg);show p8 σ (wS x (oR (xl x.S d) ds)) ((ds.map σ).foldl Sh.rz (Sh.rz m (σ d)));refine p8.VU ds (x:=wS x (xl x.S d)) (Dl hR a1) Q hn.2 (λk hk=>?_) λk hk=>hi k (zo _ hk);obtain⟨b1,b2,b3⟩:=hm k (zo _ hk);have hne:k≠d:=λe=>hn.1 (e▸hk);refine⟨by show k∈lv (xl x.S d);rw[NV hR a1,zi];exact⟨b1,by simpa using hne⟩,?_⟩;show (ob (xl x.S d) k).Strong<12/\(ob (xl x.S d) k).Weak=_;rw[NW hR a1 b1 hne];exact⟨b2,b3⟩
def yo(m:a8)(S:List Int):a8:=S.foldl rz (Xw (GS (TW m (lJ m.b7 S)) (m.Tasks++jJ m.b7 S)) (m.Pairs.filter λp=>decide (p.Key∉S)))
theorem TZ{t:Tb}(hT:HR t)(ks:List Int)(hks:ks.length<=1000):(lF t ks).1.length=t.length:=by
 obtain⟨a,had,h1,_,h2,_⟩:=xd hT ks hks;unfold lF;rw[h1];exact h2
section
variable{σ:Int->Int}{x:Hp}{m:a8}(hx:K1 x)(q:p8 σ x m)
include hx q
theorem JK{ds:List Int}(hm:∀d∈ds,d∈lv x.S){c:k8}(hc:c∈x.b7):jd (ds.map σ) (wx σ c)=jd ds c:=by
 have hR:=hx.sh.sr;obtain⟨i,hi,rfl⟩:=un hc;unfold jd wx;cases e:x.b7[i].Intact;·rfl
 .have hl:=((hx.sh.cl i hi).2.2.2.2 e).1;have a:=q.gd.ps hR hl;have b:=I7 hR hl;have:(σ x.b7[i].Target∈ds.map σ)↔x.b7[i].Target∈ds:=by
   rw[zq];exact⟨λ⟨d,hd,e2⟩=>(q.gd.inl hR (hm d hd) hl e2)▸hd,λh=>⟨_,h,rfl⟩⟩
  rw[zbj];simp[this];omega
theorem RL{ds:List Int}(hm:∀d∈ds,d∈lv x.S):lJ m.b7 (ds.map σ)=(lJ x.b7 ds).map (wx σ):=by
 unfold lJ;rw[q.ce,zaw,zaw];refine zw λc hc=>?_;show rQ (ds.map σ) (wx σ c)=wx σ (rQ ds c);unfold rQ;rw[JK hx q hm hc];split <;> rfl
theorem RN{ds:List Int}(hm:∀d∈ds,d∈lv x.S):jJ m.b7 (ds.map σ)=jJ x.b7 ds:=by
 have hg:∀w,w<x.b7.length->(x.b7.map (wx σ)).getD w cz=wx σ (x.b7.getD w cz):=λw hw=>by
  rw[zd,zB,zd,zc hw];rfl
 have hh:∀w,w<x.b7.length->jd (ds.map σ) (wx σ (x.b7.getD w cz))=jd ds (x.b7.getD w cz):=λw hw=>by
  rw[zd,zc hw];exact JK hx q hm (zh hw)
 have hcls:cls m.b7 (ds.map σ)=cls x.b7 ds:=by
  unfold cls;rw[q.ce,zl];refine or λw hw=>?_;rw[za6] at hw;rw[hg w hw,hh w hw];rfl
 unfold jJ;rw[hcls];refine zw λw hw=>?_;have hw:w<x.b7.length:=by
  unfold cls at hw;exact za6.1 (zi.1 hw).1
 rw[q.ce,hg w hw];rfl
theorem p8.Uj{ds:List Int}(hn:ds.Nodup)(hm:∀d∈ds,d∈lv x.S):p8 σ (⟨x.S,x.Roots,lJ x.b7 ds,(lF x.T ds).1,⟨x.Q.L++jJ x.b7 ds,x.Q.Cap⟩⟩:Hp) (Xw (GS (TW m (lJ m.b7 (ds.map σ))) (m.Tasks++jJ m.b7 (ds.map σ))) (m.Pairs.filter λp=>decide (p.Key∉ds.map σ))):=by
 have hS:=hx.sh;have hR:=hS.sr;have hlen:ds.length<=24:=zN (ai hn hm) (N3 (A3.2 hR));obtain⟨_,w2,_,_,w5,_⟩:=kp hS.hr ds (by omega);refine⟨q.gd,q.nd,q.sl,q.ge,q.la,?_,q.se,q.ro,RL hx q hm,q.p1.filter _,λp=>?_,?_⟩
 .show m.Places=(((lF x.T ds).1.length:Nat):Int);rw[TZ hS.hr ds (by omega)];exact q.npl
 .show p∈List.filter _ _↔∃k v,Has (lF x.T ds).1 k v/\_;rw[zi,q.p2,zC];constructor
  .rintro⟨⟨k,v,h,rfl⟩,c⟩;exact⟨k,v,(w5 k v).2 ⟨λhk=>c (zq.2 ⟨k,hk,rfl⟩),h⟩,rfl⟩
  .rintro⟨k,v,h,rfl⟩;obtain⟨h1,h2⟩:=(w5 k v).1 h;refine⟨⟨k,v,h2,rfl⟩,λc=>?_⟩;obtain⟨d,hd,e⟩:=zq.1 c;exact h1 (q.gd.inl hR (hm d hd) (hS.pr _ _ h2).1 e▸hd)
 .show m.Tasks++jJ m.b7 (ds.map σ)=(x.Q.L++jJ x.b7 ds).map (tx σ);rw[qr,q.tk,RN hx q hm];congr 1;conv=>lhs;rw[<-List.map_id (jJ x.b7 ds)]
  refine zw λt ht=>?_;obtain⟨w,_,rfl,_⟩:=gP.1 ht;unfold tx;rw[za (show ¬(2:Int)=1 by decide)];rfl
theorem p8.gY{ds:List Int}(hn:ds.Nodup)(hm:∀d∈ds,d∈lv x.S)(hs:∀d∈ds,(ob x.S d).Strong<12):p8 σ (gY x ds) (yo m (ds.map σ)):=by
 have hS:=hx.sh;have hR:=hS.sr;unfold Sh.gY yo;refine p8.YS (x:=jH x ds (lF x.T ds).1) _ (ff ds hR hn hm).sr ?_;have q1:=q.Uj hx hn hm;have:=p8.VU (x:=(⟨x.S,x.Roots,lJ x.b7 ds,(lF x.T ds).1,⟨x.Q.L++jJ x.b7 ds,x.Q.Cap⟩⟩:Hp)) ds hR q1 hn (λd hd=>⟨hm d hd,hs d hd,?_⟩) λd hd c hc e=>?_;·exact this
 .show (ob x.S d).Weak=(Sh.jy (lJ x.b7 ds) d:Int);have p:=o5 hR (hm d hd);rw[DG,G2 hR p];have:=(hx.wk _ p.1 p.d.2.1).1;rw[<-p.2.2] at this;exact this
 .refine q.gd.XH hR ?_ (.inr ⟨_,(o5 hR (hm d hd)).d⟩) e;have hc:c∈lJ x.b7 ds:=hc;unfold lJ at hc;obtain⟨c',hc',rfl⟩:=zq.1 hc;rw[(oZ ds c').1];exact lI hS hc'
end
def GM(n:b8):b8:=⟨n.Serial,n.Slot,n.Prog,true,n.Alive,n.Stuck,n.Fields⟩
def Ip(m:a8)(s:Int):Int:=((m.Nodes.find? λn=>n.Serial==s).map (·.Prog)).getD 0
def qc(m:a8)(s:Int):a8:=GS (ye (fW m s) (dF (fW m s).Nodes s GM)) (m.Tasks ++ [⟨1,s,Ip m s⟩])
theorem Jv(s:Int){f g:b8->b8}(hf:∀n,(f n).Serial=n.Serial)(l:List b8):dF (dF l s f) s g=dF l s (λn=>g (f n)):=by
 unfold dF;rw[zaw];refine zw λn _=>?_;by_cases e:n.Serial=s
 .have h1:(f n).Serial=s:=(hf n).trans e;simp only[Function.comp,zb e,zb h1]
 .simp only[Function.comp,za e]
theorem p8.gT{σ:Int->Int}{x:Hp}{m:a8}(hS:kH x)(hf:aT x [])(q:p8 σ x m){h:Int}(hh:h∈lv x.S):p8 σ (gT x h) (qc m (σ h)):=by
 have hR:=hS.sr;have ho:=L1 hR hh;have p:=o5 hR hh;have hno:Bc x.S (fR (ob x.S h)):=⟨ho.s1,ho.s2,ho.st,ho.wk,ho.p1,ho.p2,ho.fl⟩;have q1:=q.put (o:=fR (ob x.S h)) hR hh rfl hno (f:=GM) (by
  unfold Sh.nd GM;rw[G2 hR p,zE p.2.1])
 have hpr:Ip m (σ h)=(ob x.S h).Prog:=by
  unfold Ip;rw[q.find hR p.d,G2 hR p];rfl
 have q2:p8 σ (⟨dh x.S h (fR (ob x.S h)),x.Roots,x.b7,x.T,⟨x.Q.L ++ [Bf x h],x.Q.Cap⟩⟩:Hp) (GS (ye m (dF m.Nodes (σ h) GM)) (m.Tasks ++ [⟨1,σ h,Ip m (σ h)⟩])):=by
  refine⟨q1.gd,q1.nd,q1.sl,q1.ge,q1.la,q1.npl,q1.se,q1.ro,q1.ce,q1.p1,q1.p2,?_⟩;show m.Tasks++_=(x.Q.L ++ [Bf x h]).map (tx σ);rw[qr,q.tk,hpr];congr 1
 have hR1:SR (dh x.S h (fR (ob x.S h))):=cd hR hh rfl hno;have hl1:h∈lv (dh x.S h (fR (ob x.S h))):=by rw[iV (o:=fR (ob x.S h)) hR hh rfl hno];exact hh
 have q3:=q2.Xd hR1 (h:=h) (.inr hl1) (k:=EH m (σ h)) (λ_ hs=>by
  have e:ob (dh x.S h (fR (ob x.S h))) h=fR (ob x.S h):=by
   rw[gB (o:=fR (ob x.S h)) hR hh rfl hno (by have:=I7 hR hh;omega),zb rfl]
  change (ob (dh x.S h (fR (ob x.S h))) h).Strong<12 at hs
  show (ob (dh x.S h (fR (ob x.S h))) h).Strong=_;rw[e] at hs |-;rw[q.mb hS hh];show (ob x.S h).Strong=_;rw[hf h hh hs,J0];rfl)
 have e:(if σ h≠0/\11<=EH m (σ h) then uW (GS (ye m (dF m.Nodes (σ h) GM)) (m.Tasks ++ [⟨1,σ h,Ip m (σ h)⟩])) (σ h) else (GS (ye m (dF m.Nodes (σ h) GM)) (m.Tasks ++ [⟨1,σ h,Ip m (σ h)⟩])))=qc m (σ h):=by
  unfold qc fW;split
  .unfold uW;dsimp only;rw[Jv (f:=GM) _ (λ_=>rfl),Jv (f:=uU) _ (λ_=>rfl)];rfl
  .rfl
 rw[e] at q3;exact q3
def Ic(m:a8)(i n:Nat)(p:Int):a8:=⟨m.Nodes ++ [⟨m.Serial+1,i,p,false,true,false,List.replicate n 0⟩],m.Slots.set i (m.Serial+1),m.Gens,m.Last,m.Places,m.Serial+1,m.Roots,m.b7,m.Pairs,m.Tasks,m.Progs⟩
theorem p8.mk'{σ:Int->Int}{x:Hp}{m:a8}(hx:K1 x)(q:p8 σ x m){i:Nat}(hi:i<x.S.S.b7.length)(h0:(Sh.ce x.S i).State=0){n:Nat}(hn:n<=4){p:Int}(hp : -1<=p/\p<=5) :
  ∃σ',p8 σ' (wS x (dI x.S i n p)) (Ic m i n p)/\σ' (cy x.S i)=x.S.Serial+1:=by
 have hS:=hx.sh;have hR:=hS.sr;have hc:=λj=>lW hR hi h0 hn hp j;have hl:=jT hR hi h0 hn hp;have hT0:¬Th (Sh.ce x.S i):=by unfold Th;rw[h0];decide
 have hpos:=tV hR hi;have old:∀ {k:Int} {j:Nat},U9 x.S k j->k≠cy x.S i:=λ{k j} a e=>by
  have hj:=Ac hR hi h0 hn hp a;have h1:=a.2.2;rw[e] at h1;unfold cy at h1;have:=a.1;have:=hR.len;omega
 refine⟨λh=>if h=cy x.S i then x.S.Serial+1 else σ h,?_,zb rfl⟩;generalize hσ:(λh=>if h=cy x.S i then x.S.Serial+1 else σ h)=σ';have sn:σ' (cy x.S i)=x.S.Serial+1:=by subst hσ;exact zb rfl
 have so:∀k,(k=0\/∃j,U9 x.S k j)->σ' k=σ k:=λk hk=>by
  subst hσ;refine za ?_;rcases hk with e | ⟨j,a⟩
  .omega
  .exact old a
 have nd':∀j,Th (Sh.ce x.S j)->j<x.S.S.b7.length->Sh.nd σ' x.S j=Sh.nd σ x.S j:=λj hj hjl=>by
  unfold Sh.nd;congr 1;refine zw λv hv=>so v ?_;rcases hj with h1 | h2
  .have hA:At x.S (cy x.S j) j:=⟨hjl,h1,rfl⟩;have hlv:=(ig hR).2 ⟨j,hA⟩;rw[<-G2 hR hA] at hv;exact Oy hR q.gd (hS.fl _ hlv v hv)
  .rw[((hx.wk j hjl (.inr h2)).2 h2).2.1] at hv;cases hv
 have sn0:Sn σ' x.S m.Nodes:=⟨q.nd.up,λk=>(q.nd.mem k).trans ⟨λ⟨j,a,b,c⟩=>⟨j,a,b,c.trans (nd' j b a).symm⟩,λ⟨j,a,b,c⟩=>⟨j,a,b,c.trans (nd' j b a)⟩⟩⟩;refine⟨⟨?_,λk j a=>?_⟩,?_,?_,?_,q.la,q.npl,?_,?_,?_,q.p1,λk=>?_,?_⟩;·rw[so 0 (.inl rfl)];exact q.gd.z
 .rcases (OG hR hi h0 hn hp).1 a with b | ⟨rfl,rfl⟩
  .rw[so k (.inr ⟨j,b⟩),q.gd.f k j b];show _=(Sh.ce (dI x.S i n p) j).Val.Serial;rw[hc,za (Ac hR hi h0 hn hp b)]
  .rw[sn];show _=(Sh.ce (dI x.S j n p) j).Val.Serial;rw[hc,zb rfl]
 .have:=sn0.add (s':=dI x.S i n p) hR hi hl (λj hj=>by rw[hc,za hj]) hT0 (by rw[hc,zb rfl];exact .inl rfl) (by rw[hc,zb rfl];show x.S.Serial<x.S.Serial+1;omega);have e:Sh.nd σ' (dI x.S i n p) i=⟨m.Serial+1,i,p,false,true,false,List.replicate n 0⟩:=by
   unfold Sh.nd;rw[hc,zb rfl];dsimp only;rw[q.se,zE rfl,zZ (by decide),zcg,so 0 (.inl rfl),q.gd.z]
  rw[e] at this;exact this
 .show m.Slots.set i (m.Serial+1)=List.map (λj=>PZ (Sh.ce (dI x.S i n p) j)) (List.range (dI x.S i n p).S.b7.length);rw[hl,q.sl,wc,q.se];refine U6 λj hj=>?_;rw[hc];by_cases c:j=i
  .rw[zb c,zb c];rfl
  .rw[za c,za c]
 .show m.Gens=List.map (λj=>(Sh.ce (dI x.S i n p) j).Gen) (List.range (dI x.S i n p).S.b7.length);rw[hl,q.ge];refine U6 λj hj=>?_;rw[hc];split;·rename_i c;rw[c]
  .rfl
 .show m.Serial+1=x.S.Serial+1;rw[q.se]
 .show m.Roots=x.Roots.map σ';rw[q.ro];exact zw λv hv=>(so v (Oy hR q.gd (hS.rt v hv))).symm
 .show m.b7=x.b7.map (wx σ');rw[q.ce];refine zw λc hcc=>?_;unfold wx;rw[so _ (lI hS hcc)]
 .show k∈m.Pairs↔∃a b,Has x.T a b/\k=⟨σ' a,σ' b⟩;rw[q.p2];have hh:∀a b,Has x.T a b->σ' a=σ a/\σ' b=σ b:=λa b h=>⟨so a (Oy hR q.gd (.inr (hS.pr a b h).1)),so b (Oy hR q.gd (.inr (hS.pr a b h).2))⟩;constructor
  .rintro⟨a,b,h,rfl⟩;exact⟨a,b,h,by rw[(hh a b h).1,(hh a b h).2]⟩
  .rintro⟨a,b,h,rfl⟩;exact⟨a,b,h,by rw[(hh a b h).1,(hh a b h).2]⟩
 .show m.Tasks=x.Q.L.map (tx σ');rw[q.tk];refine zw λt ht=>?_;unfold tx;split
  .rename_i c;rcases (hS.tk t ht).2.2 with d | d
   .rw[so _ (Oy hR q.gd (.inr d.2.1))]
   .rw[d.1] at c;exact absurd c (by decide)
  .rfl
def Ua(m:a8)(n:b8):Bool:=n.Alive&&(!n.Stuck&&EH m n.Serial==0)
def NA(n:b8):Bool:=decide (0<=n.Prog) && !n.Started
def sJ(m:a8):a8:=match m.Nodes.find? (Ua m) with
 | none=>m
 | some n=>if NA n then qc m n.Serial else yo m [n.Serial]
def gC:Nat->a8->a8
 | 0,m=>m
 | n+1,m=>gC n (sJ m)
theorem jD(n:Nat)(m:a8):gC (n+1) m=sJ (gC n m):=by
 induction n generalizing m with
 | zero=>rfl
 | succ n ih=>show gC (n+1) (sJ m)=_;rw[ih];rfl
def kG(m:a8):a8:=gC 100 m
section
variable{σ:Int->Int}{x:Hp}{m:a8}(hx:K1 x)(q:p8 σ x m)
include hx q
theorem p8.zr:m.Nodes.find? (Ua m)=(Sh.zr x).head?.map λh=>Sh.nd σ x.S (E3 h):=by
 have hR:=hx.sh.sr;have e:m.Nodes.filter (Ua m)=(Sh.zr x).map λh=>Sh.nd σ x.S (E3 h):=by
  have:Ua m=λn=>n.Alive&&(!n.Stuck&&EH m n.Serial==0):=rfl;rw[this,<-zap,zap,or (λn _=>Bool.and_comm _ _),<-zap,q.nd.alive hR,zcu];congr 1;unfold Sh.zr;refine or λh hh=>?_;have p:=o5 hR hh;show (!decide (12<=(Sh.ce x.S (E3 h)).Val.Strong)&&EH m (Sh.ce x.S (E3 h)).Val.Serial==0)=_;rw[<-q.gd.f h _ p.d,q.mb hx.sh hh,<-G2 hR p];by_cases c:(ob x.S h).Strong<12
  .have:=hx.fair h hh c;rw[J0] at this;rw[zZ (by omega),zbj];simp;omega
  .rw[zE (by omega),zbj];simp;omega
 rw[<-List.head?_filter,e,List.head?_map]
theorem p8.He:p8 σ (Sh.He x) (sJ m):=by
 have hR:=hx.sh.sr;unfold sJ;rw[q.zr hx];cases e:Sh.zr x with
 | nil=>
  rw[nW e];exact q
 | cons z l=>
  rw[kl e];obtain⟨hz,h0⟩:=dg.1 (e▸zg:z∈Sh.zr x);have p:=o5 hR hz;show p8 σ _ (if NA (Sh.nd σ x.S (E3 z)) then qc m (Sh.ce x.S (E3 z)).Val.Serial else yo m [(Sh.ce x.S (E3 z)).Val.Serial]);rw[<-q.gd.f z _ p.d,G2 hR p];show p8 σ _ (if due (Sh.ce x.S (E3 z)).Val then _ else _);split;·exact q.gT hx.sh hx.fair hz
  .exact q.gY hx (ds:=[z]) (zaa.2 ⟨by simp,zb2⟩) (λd hd=>by rw[zn] at hd;rw[hd];exact hz) λd hd=>by
    rw[zn] at hd;rw[hd,h0];decide
end
theorem p8.oO{σ:Int->Int}{x:Hp}{m:a8}(hx:K1 x)(q:p8 σ x m):∀n,p8 σ (Sh.oO n x) (gC n m)
 | 0=>q
 | n+1=>by
  rw[Sh.fS,jD];exact (p8.oO hx q n).He (Q5 hx n)
theorem p8.bN{σ:Int->Int}{x:Hp}{m:a8}(hx:K1 x)(q:p8 σ x m):p8 σ (Sh.bN x) (kG m):=q.oO hx 100
theorem Fa{α:Type}{b:Nat}{acc:List α}{x:α}(hb:0<b)(h:(acc.length+1)*b<=140737488355328):app b acc [x]=some (acc ++ [x]):=I6 hb (by simpa using h)
theorem JT{n b m:Nat}(h:n<=m)(hb:b<=1000)(hm:m<=1000000):n*b<=140737488355328:=by
 have h1:n*b<=1000000*1000:=Nat.mul_le_mul (by omega) hb;omega
theorem ld{α:Type}{b:Nat}{l:List α}{P:α->Option Bool}{p:α->Bool}(hP:∀x∈l,P x=some (p x))(hb:0<b)(hb2:b<=1000)(hl:l.length<=100000) :
  jn (λ(j15:List α)=>some j15) (λκ14=>
  (lp (S:=Int × (List α)) (E:=(List α)) (λ((s17,s18):Int × (List α))=>
   if (decide (s17<(l.length:Int))) then
    jn (λ(j25:List α)=>
     some (.inl (x4 (s17+1),j25))) (λκ24=>
     (ix l s17).bind λv26=>
     (P v26).bind λv27=>
     if v27 then
      (app b s18 [v26]).bind λv28=>
      κ24 v28
     else
     κ24 s18)
   else
   some (.inr s18)) (0,[])).bind λe16=>
  κ14 e16)=some (l.filter p):=by
 show (lp _ _).bind (λe16=>some e16)=_;rw[V9 (f:=_) l (λb x=>if p x then b ++ [x] else b) (λb=>b) (λk b=>b.length<=k) (by omega) (zX _) (λk hk b hb'=>?_) (λb _=>?_)];·rw[a0A,foldl_filter,zcj]
 .constructor
  .simp only[jn];rw[zb (by simpa using hk),u4 hk,a0A,hP _ (zh hk),a0A,n9 (by omega)];by_cases c:p l[k]=true
   .rw[c,zb rfl,zb rfl,Fa hb (JT (m:=1000000) (by omega) hb2 (by omega)),a0A]
   .rw[Bool.not_eq_true] at c;rw[c,za (by simp),za (by simp)]
  .split;·simp;omega
   .omega
 .simp only[];rw[za (by simp)]
theorem map_eq{α β:Type}{b:Nat}{l:List α}{P:α->Option β}{p:α->β}(hP:∀x∈l,P x=some (p x))(hb:0<b)(hb2:b<=1000)(hl:l.length<=100000) :
  jn (λ(j10:List β)=>some j10) (λκ9=>
  (lp (S:=Int × (List β)) (E:=(List β)) (λ((s12,s13):Int × (List β))=>
   if (decide (s12<(l.length:Int))) then
    (ix l s12).bind λv16=>
    (P v16).bind λv17=>
    (app b s13 [v17]).bind λv18=>
    some (.inl (x4 (s12+1),v18))
   else
   some (.inr s13)) (0,[])).bind λe11=>
  κ9 e11)=some (l.map p):=by
 show (lp _ _).bind (λe16=>some e16)=_;have key:∀(l:List α) (acc:List β),l.foldl (λb x=>b ++ [p x]) acc=acc++l.map p:=by
  intro l;induction l with
  | nil=>intro acc;simp
  | cons x l ih=>intro acc;rw[pm,ih];simp
 rw[V9 (f:=_) l (λb x=>b ++ [p x]) (λb=>b) (λk b=>b.length<=k) (by omega) (zX _) (λk hk b hb'=>?_) (λb _=>?_)];·rw[a0A,key,zcj]
 .constructor
  .simp only[];rw[zb (by simpa using hk),u4 hk,a0A,hP _ (zh hk),a0A,Fa hb (JT (m:=1000000) (by omega) hb2 (by omega)),a0A,n9 (by omega)]
  .simp;omega
 .simp only[];rw[za (by simp)]
theorem FN{α:Type}{l:List α}{P:α->Option Bool}{p:α->Bool}(hP:∀x∈l,P x=some (p x))(hl:l.length<=1000){a:α}(h:l.find? p=some a):∃k:Nat,∃hk:k<l.length,l[k]=a /\
  jn (λ(_:Unit)=>some (-1)) (λκ6=>
  (lp (S:=Int) (E:=Int ⊕ Unit) (λ(s9:Int)=>
   if (decide (s9<(l.length:Int))) then
    (ix l s9).bind λv11=>
    (P v11).bind λv12=>
    if v12 then
     some (.inr (.inl s9))
    else
    some (.inl (x4 (s9+1)))
   else
   some (.inr (.inr ()))) 0).bind λe8=>
  match e8 with
  | .inl w=>some w
  | .inr w=>κ6 w)=some (k:Int):=by
 obtain⟨h1,k,hk,e,hn⟩:=List.find?_eq_some_iff_getElem.1 h;refine⟨k,hk,e,?_⟩;simp only[jn];refine aK l.length (λi=>i<=k) (by omega) (zX _) (λi hi hik=>?_) (λhlk=>by omega);rw[zb (by simpa using hi),u4 hi,a0A,hP _ (zh hi),a0A];rcases zF i k with c | c
 .left;have:=hn i c;simp only[zb8] at this;rw[this,za (by simp),n9 (by omega)];exact⟨rfl,c⟩
 .have:i=k:=by omega
  subst this;right;rw[e,h1,zb rfl];exact⟨_,rfl,rfl⟩
theorem FM{α:Type}{l:List α}{P:α->Option Bool}{p:α->Bool}(hP:∀x∈l,P x=some (p x))(hl:l.length<=1000)(h:l.find? p=none) :
  jn (λ(_:Unit)=>some (-1)) (λκ6=>
  (lp (S:=Int) (E:=Int ⊕ Unit) (λ(s9:Int)=>
   if (decide (s9<(l.length:Int))) then
    (ix l s9).bind λv11=>
    (P v11).bind λv12=>
    if v12 then
     some (.inr (.inl s9))
    else
    some (.inl (x4 (s9+1)))
   else
   some (.inr (.inr ()))) 0).bind λe8=>
  match e8 with
  | .inl w=>some w
  | .inr w=>κ6 w)=some (-1:Int):=by
 rw[zch] at h;simp only[jn];refine aK l.length (λ_=>True) (by omega) trivial (λi hi _=>.inl ⟨?_,trivial⟩) (λ_=>⟨.inr (),by simp,rfl⟩);have:=h _ (zh hi);rw[Bool.not_eq_true] at this;rw[zb (by simpa using hi),u4 hi,a0A,hP _ (zh hi),a0A,this,za (by simp),n9 (by omega)]
theorem kS{E R:Type}{x:Option E}{e:E}{K:E->Option R}(h:x.bind some=some e):x.bind K=K e:=by
 cases x with
 | none=>cases h
 | some v=>obtain rfl:=zK h;rfl
theorem Ff{α R:Type}{b:Nat}{l:List (List α)}(hb:0<b)(hb2:b<=1000)(hl:l.length<=1000)(hs:l.flatten.length<=100000){K:List α->Option R} :
  (lp (S:=Int × (List α)) (E:=(List α)) (λ((s25,s26):Int × (List α))=>
      if (decide (s25<(l.length:Int))) then
       (ix l s25).bind λv29=>
       (app b s26 v29).bind λv30=>
       some (.inl (x4 (s25+1),v30))
      else
      some (.inr s26)) (0,[])).bind K=K l.flatten:=by
 refine kS (Z0 (t0:=([]:List α)) l.length (λk acc=>acc=(l.take k).flatten) (by omega) (by simp) (λk acc hk e=>.inl ⟨(l.take (k+1)).flatten,?_,rfl⟩) (λacc e=>⟨l.flatten,?_,rfl⟩))
 .subst e;have h2:(l.take (k+1)).flatten=(l.take k).flatten++l[k]:=by
   rw[zt hk,zbx];simp
  have h3:(l.take (k+1)).flatten.length<=l.flatten.length:=by
   conv=>rhs;rw[<-zb3 (k+1) l,zbx,zJ]
   omega
  simp only[];rw[zb (by simpa using hk),u4 hk,a0A,I6 hb (JT (m:=100000) (by rw[h2,zJ] at h3;omega) hb2 (by omega)),a0A,n9 (by omega),h2]
 .subst e;simp only[];rw[za (by simp),zR]
theorem RI{R:Type}{α:Type}{l:List (List α)}(hl:l.length<=1000)(hs:l.flatten.length<=100000){K:Int->Option R} :
  (lp (S:=Int × Int) (E:=Int) (λ((s48,s49):Int × Int)=>
   if (decide (s49<(l.length:Int))) then
    jn (λ(j54:Int)=>
     some (.inl (j54,x4 (s49+1)))) (λκ53=>
     (ix l s49).bind λv55=>
     if (decide ((x4 (s48+(v55.length:Int)))<0)) then
      none
     else
     κ53 (x4 (s48+(v55.length:Int))))
   else
   some (.inr s48)) (0,0)).bind K=K (l.flatten.length:Int):=by
 refine kS (Sx (t0:=(0:Int)) l.length (λk acc=>acc=((l.take k).flatten.length:Int)) (by omega) (by simp) (λk acc hk e=>⟨((l.take (k+1)).flatten.length:Int),?_,rfl⟩) (λacc e=>⟨(l.flatten.length:Int),?_,rfl⟩))
 .subst e;have h2:(l.take (k+1)).flatten.length=(l.take k).flatten.length+l[k].length:=by
   rw[zt hk,zbx];simp
  have h3:(l.take (k+1)).flatten.length<=l.flatten.length:=by
   conv=>rhs;rw[<-zb3 (k+1) l,zbx,zJ]
   omega
  simp only[jn];rw[zb (by simpa using hk),u4 hk,a0A,wz (by omega) (by omega),za (by simp;omega),n9 (by omega),h2];congr 4
 .subst e;simp only[];rw[za (by simp),zR]
theorem HA{α:Type}{b:Nat}{z:α}{l:List (List α)}(hb:0<b)(hb2:b<=1000)(hl:l.length<=1000)(hs:l.flatten.length<=100000) :
 jn (λ(j11:Int)=>
  jn (λ(_:Unit)=>
   if (decide ((x4 (j11-(x4 (0-0)))) > 0)) then
    (mk b (x4 (j11-(x4 (0-0)))) z).bind λv14=>
    jn (λ(j23:List α)=>
     some j23) (λκ22=>
     (lp (S:=Int × (List α)) (E:=(List α)) (λ((s25,s26):Int × (List α))=>
      if (decide (s25<(l.length:Int))) then
       (ix l s25).bind λv29=>
       (app b s26 v29).bind λv30=>
       some (.inl (x4 (s25+1),v30))
      else
      some (.inr s26)) (0,[])).bind λe24=>
     κ22 e24)
   else
   jn (λ(j39:List α)=>
    some j39) (λκ38=>
    (lp (S:=Int × (List α)) (E:=(List α)) (λ((s41,s42):Int × (List α))=>
     if (decide (s41<(l.length:Int))) then
      (ix l s41).bind λv45=>
      (app b s42 v45).bind λv46=>
      some (.inl (x4 (s41+1),v46))
     else
     some (.inr s42)) (0,[])).bind λe40=>
    κ38 e40)) (λκ12=>
   if (decide (j11<0)) then
    none
   else
   κ12 ())) (λκ10=>
  (lp (S:=Int × Int) (E:=Int) (λ((s48,s49):Int × Int)=>
   if (decide (s49<(l.length:Int))) then
    jn (λ(j54:Int)=>
     some (.inl (j54,x4 (s49+1)))) (λκ53=>
     (ix l s49).bind λv55=>
     if (decide ((x4 (s48+(v55.length:Int)))<0)) then
      none
     else
     κ53 (x4 (s48+(v55.length:Int))))
   else
   some (.inr s48)) (0,0)).bind λe47=>
  κ10 e47)=some l.flatten:=by
 refine (RI hl hs).trans ?_;simp only[jn];have h0:x4 (0-0)=0:=rfl;rw[za (by simp),h0,Int.sub_zero,wz (by omega) (by omega)];have hm:mk b ((l.flatten.length:Nat):Int) z=some (List.replicate l.flatten.length z):=kW (by rw[Nat.mul_comm];have:=JT (n:=l.flatten.length) (m:=100000) hs hb2 (by omega);omega) (by omega);split
 .rw[hm,a0A];exact Ff hb hb2 hl hs
 .exact Ff hb hb2 hl hs
structure Bn (m:a8):Prop where
 nl:m.Nodes.length<=24
 up:m.Nodes.Pairwise λa b=>a.Serial<b.Serial
 fl:∀n∈m.Nodes,n.Fields.length<=4
 sg:∀n∈m.Nodes,0<=n.Slot/\n.Slot.toNat<m.Slots.length/\n.Slot.toNat<m.Gens.length
 gg:∀g∈m.Gens,0<=g/\g<=9
 gl:m.Slots.length<=24/\m.Gens.length<=24
structure Bl (m:a8):Prop where
 rl:m.Roots.length<=30
 wl:m.b7.length<=30
 pa:m.Pairs.length<=30
 tl:m.Tasks.length<=200
theorem p8.bn{σ:Int->Int}{x:Hp}{m:a8}(hR:SR x.S)(q:p8 σ x m):Bn m:=by
 refine⟨q.nd.len hR,q.nd.up,λn hn=>?_,λn hn=>?_,λg hg=>?_,?_,?_⟩
 .obtain⟨i,hi,ti,rfl⟩:=(q.nd.mem n).1 hn;show ((Sh.ce x.S i).Val.Fields.map σ).length<=4;rw[zl];exact (hR.ok i hi ti).fl
 .obtain⟨i,hi,ti,rfl⟩:=(q.nd.mem n).1 hn;rw[q.sl,q.ge,zl,zl,zca];unfold Sh.nd;simp;exact hi
 .rw[q.ge] at hg;obtain⟨i,hi,rfl⟩:=zq.1 hg;have:=hR.cell i (za6.1 hi);have:=hR.l9;omega
 .rw[q.sl,zl,zca];exact hR.len
 .rw[q.ge,zl,zca];exact hR.len
theorem p8.bl{σ:Int->Int}{x:Hp}{m:a8}(hS:kH x)(q:p8 σ x m):Bl m:=by
 refine⟨?_,?_,?_,?_⟩;·rw[q.ro,zl,hS.r6];omega
 .rw[q.ce,zl,hS.c6];omega
 .rw[(q.perm hS).length_eq,zl];have:=sC hS.hr.l8;omega
 .rw[q.tk,zl];have:=hS.q30;omega
theorem YG(m:a8):EH m 0=0:=by
 have h:∀l:List Int,R4 l 0=0:=λl=>by unfold R4;rw[zb rfl]
 unfold EH;rw[h,h,h];have:((m.Nodes.filter (·.Alive)).map λn=>R4 n.Fields 0)=(m.Nodes.filter (·.Alive)).map λ_=>0:=zw λn _=>h _;rw[this];have hz:∀l:List b8,(l.map λ_=>0).sum=0:=λl=>by
  induction l with
  | nil=>rfl
  | cons a l ih=>rw[zQ,zbc,ih]
 rw[hz]
theorem Aa(m:a8):X9 m=some ⟨m.Tasks,30⟩:=rfl
theorem JW{m:a8}(B:Bn m):B3 m.Nodes=some (m.Nodes.filter (·.Alive)):=by
 unfold B3;exact ld (λn _=>rfl) (by omega) (by omega) (by have:=B.nl;omega)
theorem NM:∀(l:List b8),(∀n∈l,n.Fields.length<=4)->(l.map (·.Fields)).flatten.length<=4*l.length
 | [],_=>by simp
 | n::l,h=>by
  have h1:=NM l λk hk=>h k (zo _ hk);have h2:=h n zg;simp only[zQ,List.flatten_cons,zJ,zH];omega
theorem wP(y:Int):∀l:List b8,R4 (l.map (·.Fields)).flatten y=(l.map λn=>R4 n.Fields y).sum
 | []=>J0 y
 | x::l=>by rw[zQ,List.flatten_cons,G6,wP y l,zQ,zbc]
theorem JY{m:a8}(B:Bn m)(C:Bl m)(s:Int):eM m s=some (EH m s:Int):=by
 have hv:B8 m.Pairs=some (m.Pairs.map (·.Val)):=by
  unfold B8;exact map_eq (λn _=>rfl) (by omega) (by omega) (by have:=C.pa;omega)
 have hh:gD ⟨m.Tasks,30⟩=some (kB m):=Qe (q:=⟨m.Tasks,30⟩) (by have:=C.tl;show m.Tasks.length<=1000;omega);have hal:(m.Nodes.filter (·.Alive)).length<=24:=zN (zA ..) B.nl;have hfl:((m.Nodes.filter (·.Alive)).map (·.Fields)).flatten.length<=96:=by
  have:=NM (m.Nodes.filter (·.Alive)) λn hn=>B.fl n (zi.1 hn).1;omega
 have LK:(kB m).length<=200:=by
  unfold kB px;rw[zl];exact zN (zA ..) C.tl
 have fk:(m.Pairs.map (·.Val)).length<=30:=by rw[zl];exact C.pa
 unfold eM;simp only[jn];rw[show kX m=some m from rfl,a0A,hv,a0A,Aa,a0A,hh,a0A,JW B,a0A];refine (kS (e:=[m.Roots,m.Pairs.map (·.Val),kB m]++(m.Nodes.filter (·.Alive)).map (·.Fields)) (Z0 (t0:=[m.Roots,m.Pairs.map (·.Val),kB m]) (m.Nodes.filter (·.Alive)).length (λk acc=>acc = [m.Roots,m.Pairs.map (·.Val),kB m]++((m.Nodes.filter (·.Alive)).take k).map (·.Fields)) (by omega) (by simp) (λk acc hk e=>.inl ⟨_,?_,rfl⟩) (λacc e=>⟨acc,?_,?_⟩))).trans ?_
 .subst e;simp only[];rw[zb (by simpa using hk),u4 hk,a0A,Fa (by omega) (by
   rw[zJ,zl,me];simp;omega),a0A,n9 (by omega),zt hk,qr,zai]
  rfl
 .simp only[];rw[za (by simp)]
 .subst e;rw[zR]
 .have hlen:([m.Roots,m.Pairs.map (·.Val),kB m]++(m.Nodes.filter (·.Alive)).map (·.Fields)).length<=30:=by
   rw[zJ,zl];simp;omega
  have hfla:([m.Roots,m.Pairs.map (·.Val),kB m]++(m.Nodes.filter (·.Alive)).map (·.Fields)).flatten.length<=400:=by
   rw[zbx,zJ];simp only[List.flatten_cons,List.flatten_nil,zay,zJ];have:=C.rl;omega
  have hc:G4 ([m.Roots,m.Pairs.map (·.Val),kB m]++(m.Nodes.filter (·.Alive)).map (·.Fields))=some ([m.Roots,m.Pairs.map (·.Val),kB m]++(m.Nodes.filter (·.Alive)).map (·.Fields)).flatten:=by
   unfold G4;exact HA (by omega) (by omega) (by omega) (by omega)
  rw[hc,a0A];have hn:EH m s=R4 ([m.Roots,m.Pairs.map (·.Val),kB m]++(m.Nodes.filter (·.Alive)).map (·.Fields)).flatten s:=by
   rw[zbx,G6,wP];simp only[List.flatten_cons,List.flatten_nil,zay,G6];unfold EH;omega
  rw[hn];generalize ([m.Roots,m.Pairs.map (·.Val),kB m]++(m.Nodes.filter (·.Alive)).map (·.Fields)).flatten=l at hfla |-;refine Z0 (t0:=(0:Int)) l.length (λk acc=>acc=(R4 (l.take k) s:Int)) (by omega) (by simp[J0]) (λk acc hk e=>.inl ⟨_,?_,rfl⟩) (λacc e=>⟨_,?_,rfl⟩)
  .subst e;have hlt:=IH (l.take k) s;rw[me] at hlt;rw[zt hk,G6,I1,J0];simp only[];rw[zb (by simpa using hk),u4 hk,a0A,n9 (by omega)];by_cases c:l[k]=s/\s≠0
   .rw[zb (by simpa using ⟨c.2,c.1⟩),zb c,wz (by omega) (by omega)];congr 4
   .rw[za (by simpa using λa b=>c ⟨b,a⟩),za c];rfl
  .subst e;simp only[];rw[za (by simp),zR]
theorem yW{m:a8}(B:Bn m){s:Int}{n:b8}(h:m.Nodes.find? (λn=>n.Serial==s)=some n):∃k:Nat,∃hk:k<m.Nodes.length,m.Nodes[k]=n/\K3 m s=some (k:Int):=by
 obtain⟨k,hk,e,r⟩:=FN (P:=λa=>fE a s) (p:=λn=>n.Serial==s) (λn _=>rfl) (by have:=B.nl;omega) h;refine⟨k,hk,e,?_⟩;unfold K3 y9;exact sQ r rfl
theorem SA{m:a8}(B:Bn m){s:Int}(h:m.Nodes.find? (λn=>n.Serial==s)=none):K3 m s=some (-1):=by
 have r:=FM (P:=λa=>fE a s) (p:=λn=>n.Serial==s) (λn _=>rfl) (by have:=B.nl;omega) h;unfold K3 y9;exact sQ r rfl
theorem lP{l:List b8}{s:Int}{n:b8}(h:l.find? (λn=>n.Serial==s)=some n):n.Serial=s/\n∈l:=by
 have:=List.find?_some h;exact⟨by simpa using this,List.mem_of_find?_eq_some h⟩
theorem RJ{l:List b8}(up:l.Pairwise λa b=>a.Serial<b.Serial){k:Nat}(hk:k<l.length){s:Int}(hs:l[k].Serial=s)(f:b8->b8):l.set k (f l[k])=dF l s f:=by
 unfold dF;refine zb1 (by simp) λj h1 h2=>?_;rw[zcr,t8];rw[zl] at h2;by_cases c:k=j
 .subst c;rw[zb rfl,zb hs]
 .have hne:l[j].Serial≠s:=by
   rw[<-hs];rcases zF k j with d | d
   .have:=za4.1 up k j hk h2 d;omega
   .have:=za4.1 up j k h2 hk (by omega);omega
  rw[za c,za hne]
theorem th{m:a8}(B:Bn m){s:Int}{n:b8}(h:m.Nodes.find? (λn=>n.Serial==s)=some n){F:b8->Option b8}{f:b8->b8}(hF:∀k,F k=some (f k)) :
  ((K3 m s).bind λv1=>(r7 m.Nodes).bind λv2=>(ix v2 v1).bind λv3=>(F v3).bind λv4=>
   some (⟨(v2.set (v1).toNat v4),m.Slots,m.Gens,m.Last,m.Places,m.Serial,m.Roots,m.b7,m.Pairs,m.Tasks,m.Progs⟩:a8))=some (ye m (dF m.Nodes s f)):=by
 obtain⟨k,hk,e,r⟩:=yW B h;have hc:r7 m.Nodes=some m.Nodes:=cu (by omega) (JT (m:=24) B.nl (by omega) (by omega));rw[r,a0A,hc,a0A,u4 hk,a0A,hF,a0A];rw[zT,RJ B.up hk (s:=s) (by rw[e];exact (lP h).1)]
theorem SC{m:a8}(B:Bn m){s:Int}{n:b8}(h:m.Nodes.find? (λn=>n.Serial==s)=some n):S9 m s=some (uW m s):=th B h λ_=>rfl
theorem Wc{m:a8}(B:Bn m){s:Int}{n:b8}(h:m.Nodes.find? (λn=>n.Serial==s)=some n):O0 m s=some (ye m (dF m.Nodes s GM)):=th B h λ_=>rfl
theorem Yt{m:a8}(B:Bn m){s:Int}{n:b8}(h:m.Nodes.find? (λn=>n.Serial==s)=some n):D5 m s=some (ye m (dF m.Nodes s lM)):=th B h λ_=>rfl
theorem Wb{m:a8}(B:Bn m){s:Int}{n:b8}(h:m.Nodes.find? (λn=>n.Serial==s)=some n)(l:List Int):P6 m s l=some (ye m (dF m.Nodes s λn=>Ye n l)):=th B h (F:=λk=>fG k l) λ_=>rfl
theorem Bn.dF{m:a8}(B:Bn m){s:Int}{f:b8->b8}(h:∀n∈m.Nodes,n.Serial=s->(f n).Serial=n.Serial/\(f n).Slot=n.Slot/\(f n).Fields.length<=4):Bn (ye m (Sh.dF m.Nodes s f)):=by
 have hser:∀n∈m.Nodes,(if n.Serial=s then f n else n).Serial=n.Serial/\(if n.Serial=s then f n else n).Slot=n.Slot/\(if n.Serial=s then f n else n).Fields.length<=4:=λn hn=>by
  split;·rename_i e;exact h n hn e
  .exact⟨rfl,rfl,B.fl n hn⟩
 refine⟨by show (Sh.dF m.Nodes s f).length<=24;unfold Sh.dF;rw[zl];exact B.nl,?_,λn hn=>?_,λn hn=>?_,B.gg,B.gl⟩
 .show (Sh.dF m.Nodes s f).Pairwise _;unfold Sh.dF;rw[zbt];refine zbp (λ{a b} ha hb q=>?_) B.up;rw[(hser a ha).1,(hser b hb).1];exact q
 .obtain⟨k,hk,rfl⟩:=zq.1 (show n∈Sh.dF m.Nodes s f from hn);exact (hser k hk).2.2
 .obtain⟨k,hk,rfl⟩:=zq.1 (show n∈Sh.dF m.Nodes s f from hn);rw[(hser k hk).2.1];exact B.sg k hk
theorem Bn.fW{m:a8}(B:Bn m)(s:Int):Bn (fW m s):=by
 unfold Sh.fW;split;·exact B.dF λn hn _=>⟨rfl,rfl,B.fl n hn⟩
 .exact B
theorem DC{m:a8}(B:Bn m)(C:Bl m){s:Int}(h:s=0\/∃n,m.Nodes.find? (λn=>n.Serial==s)=some n):dZ m s=some (fW m s):=by
 unfold dZ fW;rw[JY B C,a0A];by_cases c:EH m s<11
 .rw[zb (by simp;omega),za (by omega)]
 .have h0:s≠0:=λe=>by subst e;rw[YG] at c;omega
  obtain⟨n,hn⟩:=h.resolve_left h0;rw[za (by simp;omega),zb ⟨h0,by omega⟩,SC B hn,a0A]
theorem yY{m:a8}(B:Bn m)(C:Bl m){s:Int}(h:s=0\/∃n,m.Nodes.find? (λn=>n.Serial==s)=some n){r:Nat}(hr:r<m.Roots.length):W3 m r s=some (dy m r s):=by
 have hro:(fW m s).Roots=m.Roots:=by rw[aU]
 have hc:y7 m.Roots=some m.Roots:=cu (by omega) (JT (m:=30) C.rl (by omega) (by omega));unfold W3;rw[DC B C h,a0A,hro,hc,a0A,u4 hr,a0A,zT];rfl
theorem Fu{m:a8}{s:Int}{n:b8}(h:m.Nodes.find? (λn=>n.Serial==s)=some n):∃n',(fW m s).Nodes.find? (λn=>n.Serial==s)=some n'/\n'.Prog=n.Prog:=by
 unfold fW;split
 .refine⟨uU n,?_,rfl⟩;show (dF m.Nodes s uU).find? _=_;rw[tH _ (f:=uU) (λ_=>rfl),h];rfl
 .exact⟨n,h,rfl⟩
theorem Cj{m:a8}(B:Bn m)(C:Bl m){s:Int}{n:b8}(h:m.Nodes.find? (λn=>n.Serial==s)=some n):bj m s=some (qc m s):=by
 obtain⟨n',hn',ep⟩:=Fu h;have B':=B.fW s;obtain⟨k,hk,e,r⟩:=yW B' hn';unfold bj;rw[DC B C (.inr ⟨n,h⟩),a0A,r,a0A,u4 hk,a0A,e,Wc B' hn',a0A];have ht:(fW m s).Tasks=m.Tasks:=by rw[aU]
 have hc:H0 m.Tasks=some m.Tasks:=cu (by omega) (JT (m:=200) C.tl (by omega) (by omega));dsimp only;rw[ht,hc,a0A,Fa (by omega) (JT (m:=201) (by have:=C.tl;omega) (by omega) (by omega)),a0A,ep];unfold qc Ip;rw[h];rw[aU];rfl
theorem yX{m:a8}(B:Bn m)(C:Bl m)(s:Int):P7 m s=some (Fc m s):=by
 unfold P7;cases h:m.Nodes.find? (λn=>n.Serial==s) with
 | none=>
  rw[SA B h,a0A,Ni h];simp[A6]
 | some n=>
  obtain⟨k,hk,e,r⟩:=yW B h;obtain⟨hs,hm⟩:=lP h;have hd:decide ((k:Int)<0)=false:=zZ (by omega);rw[r,a0A,hd,Hw h];rw[show (false==false)=true from rfl,bK,u4 hk,a0A,e,zcb];have hnm:eU m.b7 s=some (jy m.b7 s:Int):=LV _ (by have:=C.wl;omega) s;cases ha:n.Alive
  .rw[show (false==false)=true from rfl,bK,hnm,a0A,zcb];by_cases c:0<jy m.b7 s
   .rw[zb (by simpa using c),zb (.inr c)]
   .rw[za (by simpa using c),za (by simp[c])];obtain⟨g1,g2,g3⟩:=B.sg n hm;have hp:C8 m.Nodes s=some (m.Nodes.filter λk=>k.Serial != s):=by
     unfold C8;exact ld (P:=λa=>cH a s) (λn _=>rfl) (by omega) (by omega) (by have:=B.nl;omega)
    have hc1:y7 m.Slots=some m.Slots:=cu (by omega) (JT (m:=24) B.gl.1 (by omega) (by omega));have hc2:y7 m.Gens=some m.Gens:=cu (by omega) (JT (m:=24) B.gl.2 (by omega) (by omega));rw[a0A,hp,a0A,hc1,a0A,hc2,a0A,Om g1 g3,a0A];have hg:m.Gens.getD n.Slot.toNat 0=m.Gens[n.Slot.toNat]:=by rw[zd,zc g3];rfl
    unfold yL;rw[hg,hs];by_cases d:m.Gens[n.Slot.toNat]=m.Last
    .rw[zb (by simpa using d),Om g1 g2,a0A,zb d,zb d]
    .have hb:=B.gg _ (zh g3);rw[za (by simpa using d),Om g1 g2,a0A,za d,za d,wz (by omega) (by omega)]
  .rw[show (true==false)=false from rfl,Kj,a0A];simp
theorem yT(m:a8)(s:Int):(rz m s).Roots=m.Roots/\(rz m s).b7=m.b7/\(rz m s).Pairs=m.Pairs/\(rz m s).Tasks=m.Tasks/\(rz m s).Progs=m.Progs:=by
 unfold rz Fc;split;·exact⟨rfl,rfl,rfl,rfl,rfl⟩
 .split <;> exact⟨rfl,rfl,rfl,rfl,rfl⟩
theorem Bl.rz{m:a8}(C:Bl m)(s:Int):Bl (rz m s):=by
 obtain⟨a,b,c,d,_⟩:=yT m s;exact⟨by rw[a];exact C.rl,by rw[b];exact C.wl,by rw[c];exact C.pa,by rw[d];exact C.tl⟩
theorem Yu{m:a8}(B:Bn m)(C:Bl m){s:Int}{n:b8}(h:m.Nodes.find? (λn=>n.Serial==s)=some n):((D5 m s).bind λv21=>P7 v21 s)=some (rz m s):=by
 rw[Yt B h,a0A,yX (B.dF (s:=s) (f:=lM) λn hn _=>⟨rfl,rfl,zX _⟩) ⟨C.rl,C.wl,C.pa,C.tl⟩];rfl
theorem Oo{σ:Int->Int}{x:Hp}{m:a8}(hR:SR x.S)(q:p8 σ x m)(C:Bl m){ds:List Int}(hl:ds.length<=24)(hn:ds.Nodup)(hm:∀d∈ds,d∈lv x.S/\(ob x.S d).Strong<12/\(ob x.S d).Weak=Sh.jy x.b7 d)(hi:∀d∈ds,∀c∈x.b7,σ c.Target=σ d->c.Target=d){R:Type}{K:a8->Option R} :
  (lp (S:=Int × a8) (E:=a8) (λ((s16,s17):Int × a8)=>
   if (decide (s16<((ds.map σ).length:Int))) then
    (ix (ds.map σ) s16).bind λv20=>
    (D5 s17 v20).bind λv21=>
    (P7 v21 v20).bind λv22=>
    some (.inl (x4 (s16+1),v22))
   else
   some (.inr s17)) (0,m)).bind K=K ((ds.map σ).foldl Sh.rz m):=by
 refine kS (Z0 (t0:=m) ds.length (λk acc=>acc=(((ds.take k).map σ).foldl Sh.rz m)/\Bl acc) (by omega) ⟨by simp,C⟩ (λk acc hk e=>.inl ⟨_,?_,rfl,e.2.rz (σ ds[k]) |> λh=>?_⟩) (λacc e=>⟨acc,?_,?_⟩))
 .obtain⟨rfl,C'⟩:=e;have hsub:∀d∈ds.take k,d∈ds:=λd hd=>zaf hd;have Q:=p8.VU (ds.take k) hR q (hn.sublist (zb9 ..)) (λd hd=>hm d (hsub d hd)) λd hd=>hi d (hsub d hd);obtain⟨r1,r2⟩:=yU (y:=x) hR hn (λd hd=>(hm d hd).1) hk;have hf:=Q.find r1 (o5 r1 r2).d;have hstep:=Yu (Q.bn r1) C' hf;simp only[];rw[zb (by simpa using hk),u4 (by simpa using hk),a0A,t8];have:((D5 ((List.map σ (List.take k ds)).foldl Sh.rz m) (σ ds[k])).bind λv21=>(P7 v21 (σ ds[k])).bind λv22=>some (Sum.inl (β:=a8) (x4 ((k:Int)+1),v22)))=some (Sum.inl (((k+1:Nat):Int),Sh.rz ((List.map σ (List.take k ds)).foldl Sh.rz m) (σ ds[k]))):=by
   rw[<-Option.bind_assoc,hstep,a0A,n9 (by omega)]
  rw[this,zt hk,qr,zaj];rfl
 .rw[zt hk,qr,zaj];rw[e.1] at h;exact h
 .simp only[];rw[za (by simp)]
 .rw[e.1,zR]
theorem FT{σ:Int->Int}{x:Hp}{m:a8}(hx:K1 x)(q:p8 σ x m){ds:List Int}(hn:ds.Nodup)(hm:∀d∈ds,d∈lv x.S)(hs:∀d∈ds,(ob x.S d).Strong<12):fz m (ds.map σ)=some (yo m (ds.map σ)):=by
 have hS:=hx.sh;have hR:=hS.sr;have C:=q.bl hS;have hlen:ds.length<=24:=zN (ai hn hm) (N3 (A3.2 hR));have hln:(ds.map σ).length<=24:=by rw[zl];exact hlen
 have hcl:(cls m.b7 (ds.map σ)).length<=30:=by
  unfold cls;refine zN (zA ..) ?_;rw[zca];exact C.wl
 have hct:(jJ m.b7 (ds.map σ)).length<=30:=by rw[nb];exact hcl
 have h2:C2 (ua (cls m.b7 (ds.map σ))) (lJ m.b7 (ds.map σ))=some (jJ m.b7 (ds.map σ)):=by
  unfold C2;refine (map_eq (P:=λa=>fA a (lJ m.b7 (ds.map σ))) (p:=λa:Int=>(⟨2,a,((lJ m.b7 (ds.map σ)).getD a.toNat cz).Call⟩:g5)) (λa ha=>?_) (by omega) (by omega) (by unfold ua;rw[zl];omega)).trans ?_
  .unfold ua at ha;obtain⟨w,hw,rfl⟩:=zq.1 ha;have hwl:w<(lJ m.b7 (ds.map σ)).length:=by unfold lJ;rw[zl];exact HE hw
   unfold fA;rw[u4 hwl,a0A,zT,zd,zc hwl];rfl
  .unfold jJ ua;rw[zaw];congr 1;refine zw λw hw=>?_;have hwl:=HE hw;show (⟨2,(w:Int),_⟩:g5)=_;congr 1;unfold lJ;rw[zT,zd,zB,zc hwl,zd,zc hwl];exact (oZ _ _).2.1
 have h3:F9 [m.Tasks,jJ m.b7 (ds.map σ)]=some (m.Tasks++jJ m.b7 (ds.map σ)):=by
  unfold F9;refine (HA (by omega) (by omega) (by simp) (by have:=C.tl;simp;omega)).trans ?_;simp
 have h4:D7 m.Pairs (ds.map σ)=some (m.Pairs.filter λp=>decide (p.Key∉ds.map σ)):=by
  unfold D7;refine ld (P:=λa=>fB a (ds.map σ)) (λp _=>?_) (by omega) (by omega) (by have:=C.pa;omega);unfold fB;rw[contains_eq _ _ (by omega),a0A];congr 1;by_cases c:p.Key∈ds.map σ
  .simp[c]
  .simp[c]
 unfold fz;simp only[jn];rw[Fi _ _ (by have:=C.wl;omega) (by omega),a0A,h2,a0A,h3,a0A,h4,a0A];have q1:=q.Uj hx hn hm;have C1:Bl (Xw (GS (TW m (lJ m.b7 (ds.map σ))) (m.Tasks++jJ m.b7 (ds.map σ))) (m.Pairs.filter λp=>decide (p.Key∉ds.map σ))):=by
  refine⟨C.rl,?_,?_,?_⟩
  .show (lJ m.b7 (ds.map σ)).length<=30;unfold lJ;rw[zl];exact C.wl
  .exact zN (zA ..) C.pa
  .show (m.Tasks++jJ m.b7 (ds.map σ)).length<=200;rw[zJ];have:m.Tasks.length<=30:=by rw[q.tk,zl];exact hS.q30
   omega
 refine (Oo (x:=(⟨x.S,x.Roots,lJ x.b7 ds,(lF x.T ds).1,⟨x.Q.L++jJ x.b7 ds,x.Q.Cap⟩⟩:Hp)) hR q1 C1 hlen hn (λd hd=>⟨hm d hd,hs d hd,?_⟩) λd hd c hc e=>?_).trans rfl
 .show (ob x.S d).Weak=(Sh.jy (lJ x.b7 ds) d:Int);have p:=o5 hR (hm d hd);rw[DG,G2 hR p];have:=(hx.wk _ p.1 p.d.2.1).1;rw[<-p.2.2] at this;exact this
 .refine q.gd.XH hR ?_ (.inr ⟨_,(o5 hR (hm d hd)).d⟩) e;have hc:c∈lJ x.b7 ds:=hc;unfold lJ at hc;obtain⟨c',hc',rfl⟩:=zq.1 hc;rw[(oZ ds c').1];exact lI hS hc'
theorem CB{m:a8}(h:m.Nodes.find? (Ua m)=none):sJ m=m:=by
 unfold sJ;rw[h]
theorem Mw{m:a8}{n:b8}(h:m.Nodes.find? (Ua m)=some n):sJ m=if NA n then qc m n.Serial else yo m [n.Serial]:=by
 unfold sJ;rw[h]
theorem lT{σ:Int->Int}{x:Hp}{m:a8}(hx:K1 x)(q:p8 σ x m):I3 m=some (kG m):=by
 obtain⟨n,h48,hz,hj,he⟩:=wm hx;have hM:kG m=gC n m:=by
  have hfix:sJ (gC n m)=gC n m:=by
   refine CB ?_;rw[(q.oO hx n).zr (Q5 hx n),hz];rfl
  have key:∀k,gC (n+k) m=gC n m:=λk=>by
   induction k with
   | zero=>rfl
   | succ k ih=>rw[<-rg,jD,ih,hfix]
  have:=key (100-n);rw[show n+(100-n)=100 by omega] at this;exact this
 unfold I3;rw[hM];have hP:∀k,∀a∈(gC k m).Nodes,aZ a (gC k m)=some (Ua (gC k m) a):=λk a _=>by
  have qk:=q.oO hx k;have B:=qk.bn (Q5 hx k).sh.sr;have C:=qk.bl (Q5 hx k).sh;unfold aZ Ua;cases a.Alive <;> cases a.Stuck
  .rfl
  .rfl
  .show ((A6 true 0 (eM (gC k m) a.Serial)).bind _)=_;rw[bK,JY B C,a0A];refine zP some ?_;generalize EH (gC k m) a.Serial=c;by_cases c0:c=0
   .subst c0;rfl
   .have h1:((c:Int)==0)=false:=by simpa using c0
    have h2:(c==0)=false:=by simpa using c0
    rw[h1,h2];rfl
  .rfl
 refine kS (K:=some) (lS (κ:=some) (λk=>gC k m) rfl n (λ_=>True) (by omega) trivial (λk hk _=>.inl ⟨?_,trivial⟩) (λ_=>⟨gC n m,?_,rfl⟩))
 .have hxk:=Q5 hx k;have qk:=q.oO hx k;have B:=qk.bn hxk.sh.sr;have C:=qk.bl hxk.sh;have hR:=hxk.sh.sr;cases ez:zr (oO k x) with
  | nil=>exact absurd ez (hj k hk)
  | cons z l=>
   obtain⟨hzl,h0⟩:=dg.1 (ez▸zg:z∈zr (oO k x));have p:=o5 hR hzl;have hf:=qk.zr hxk;rw[ez] at hf;have hf:(gC k m).Nodes.find? (Ua (gC k m))=some (Sh.nd σ (oO k x).S (E3 z)):=hf;obtain⟨i,hi,e,r⟩:=FN (hP k) (by have:=B.nl;omega) hf;have r':x8 (gC k m).Nodes (gC k m)=some (i:Int):=r;have hser:(Sh.nd σ (oO k x).S (E3 z)).Serial=σ z:=(qk.gd.f z _ p.d).symm;have hfn:=qk.find hR p.d;rw[r',a0A,za (by simp),u4 hi,a0A,e];rw[show du (Sh.nd σ (oO k x).S (E3 z))=some (NA (Sh.nd σ (oO k x).S (E3 z))) from rfl,a0A,jD];rw[Mw hf,hser];split;·rw[Cj B C hfn,a0A]
   .have hb:=FT hxk qk (ds:=[z]) (zaa.2 ⟨by simp,zb2⟩) (λd hd=>by rw[zn] at hd;rw[hd];exact hzl) λd hd=>by
     rw[zn] at hd;rw[hd,h0];decide
    rw[show [σ z] = [z].map σ from rfl,hb,a0A]
 .have hf:=(q.oO hx n).zr (Q5 hx n);rw[hz] at hf;have r:=FM (hP n) (by have:=((q.oO hx n).bn (Q5 hx n).sh.sr).nl;omega) hf;have r':x8 (gC n m).Nodes (gC n m)=some (-1):=r;rw[r',a0A,zb (by decide)]
def nO(n:b8):C4:=⟨n.Serial,n.Slot,n.Prog,n.Started,n.Alive,n.Stuck,n.Fields⟩
def mO(m:a8):T9:=⟨m.Nodes.map nO,m.Slots,m.Gens,m.Last,m.Places,m.Serial,m.Roots,m.b7.map XM,m.Pairs.map pp,m.Tasks.map YW,WG m.Progs⟩
theorem nk{s t:Int}(h:s≠t){f:b8->b8}(hf:∀n,(f n).Serial=n.Serial):∀l:List b8,(dF l t f).find? (λn=>n.Serial==s)=l.find? λn=>n.Serial==s
 | []=>rfl
 | n::l=>by
  have ih:=nk h hf l;unfold dF at ih |-;rw[zQ,zck,zck,ih];by_cases e:n.Serial=t
  .have h1:((f n).Serial==s)=false:=by rw[hf,e];simpa using zau h
   have h2:(n.Serial==s)=false:=by rw[e];simpa using zau h
   rw[zb e,h1,h2]
  .rw[za e]
theorem Bn.yL{m:a8}(B:Bn m)(h9:m.Last<=9)(n:b8)(hg:∀g∈m.Gens,g<=m.Last):Bn (Sh.yL m n)/\∀g∈(Sh.yL m n).Gens,g<=m.Last:=by
 have hgg:∀g∈(if m.Gens.getD n.Slot.toNat 0=m.Last then m.Gens else m.Gens.set n.Slot.toNat (m.Gens.getD n.Slot.toNat 0+1)),0<=g/\g<=m.Last:=λg hgm=>by
  split at hgm;·exact⟨(B.gg g hgm).1,hg g hgm⟩
  .rename_i c;rcases zF n.Slot.toNat m.Gens.length with hl | hl
   .rcases zan hgm with q | rfl
    .exact⟨(B.gg g q).1,hg g q⟩
    .rw[zd,zc hl] at c |-;have a:=B.gg _ (zh hl);have b:=hg _ (zh hl);simp only[ul] at c |-;omega
   .rw[List.set_eq_of_length_le hl] at hgm;exact⟨(B.gg g hgm).1,hg g hgm⟩
 have hlen:(Sh.yL m n).Slots.length=m.Slots.length/\(Sh.yL m n).Gens.length=m.Gens.length:=by
  unfold Sh.yL;refine⟨by simp,?_⟩;dsimp only;split <;> simp
 refine⟨⟨?_,?_,λk hk=>?_,λk hk=>?_,λg hgm=>?_,by rw[hlen.1,hlen.2];exact B.gl⟩,λg hgm=>(hgg g hgm).2⟩;·exact zN (zA ..) B.nl
 .exact B.up.filter _
 .exact B.fl k (zi.1 (show k∈m.Nodes.filter _ from hk)).1
 .rw[hlen.1,hlen.2];exact B.sg k (zi.1 (show k∈m.Nodes.filter _ from hk)).1
 .have:=hgg g hgm;exact⟨this.1,by omega⟩
def Qy(m:a8):List Int:=m.Roots++(kB m++(m.Nodes.filter (·.Stuck)).map (·.Serial))
inductive GZ (m:a8):Int->Prop
 | base {s:Int}:s∈Qy m->GZ m s
 | XF {n:b8} {v:Int}:n∈m.Nodes->GZ m n.Serial->v∈n.Fields->GZ m v
 | XJ {p:k7}:p∈m.Pairs->GZ m p.Key->GZ m p.Val
section
variable{σ:Int->Int}{x:Hp}{m:a8}(hx:K1 x)(q:p8 σ x m)
include hx q
theorem Qc{n:b8}(hn:n∈m.Nodes)(hs:n.Stuck=true):∃h∈lv x.S,n=Sh.nd σ x.S (E3 h)/\n.Serial=σ h/\12<=(ob x.S h).Strong:=by
 have hR:=hx.sh.sr;obtain⟨i,hi,ti,rfl⟩:=(q.nd.mem n).1 hn;have h12:12<=(Sh.ce x.S i).Val.Strong:=by simpa[Sh.nd] using hs
 rcases ti with h1 | h2
 .have hA:At x.S (cy x.S i) i:=⟨hi,h1,rfl⟩;have hl:=(ig hR).2 ⟨i,hA⟩;refine⟨cy x.S i,hl,by rw[hA.d.E3 hR],(q.gd.f _ i hA.d).symm,?_⟩;rw[G2 hR hA];exact h12
 .have:=((hx.wk i hi (.inr h2)).2 h2).2.2;omega
theorem PC{s:Int}(r:GZ m s):s=0\/∃h,h∈lv x.S/\s=σ h/\bp x.S x.T (Hc x) h:=by
 have hS:=hx.sh;have hR:=hS.sr;have hot:∀h,h∈lv x.S->h∈oJ x->bp x.S x.T (Hc x) h:=λh hl ho=>.base (Du hx hl ho) hl;induction r with
 | base hb=>
  unfold Qy at hb;rcases zu.1 hb with a | a
  .rw[q.ro] at a;obtain⟨h,hh,rfl⟩:=zq.1 a;rcases hS.rt h hh with e | hl
   .exact .inl (by rw[e];exact q.gd.z)
   .refine .inr ⟨h,hl,rfl,hot h hl ?_⟩;unfold oJ;exact t6 _ (gx.2 ⟨hh,by have:=I7 hR hl;omega⟩)
  .rcases zu.1 a with a | a
   .rw[q.LK hS] at a;obtain⟨h,hh,rfl⟩:=zq.1 a;obtain⟨t,ht,k,rfl⟩:=lU.1 hh;rcases (hS.tk t ht).2.2 with b | b
    .exact .inr ⟨_,b.2.1,rfl,hot _ b.2.1 (t7 _ hh)⟩
    .rw[b.1] at k;exact absurd k (by decide)
   .obtain⟨n,hn,rfl⟩:=zq.1 a;obtain⟨h,hl,_,e,h12⟩:=Qc hx q (zi.1 hn).1 (by simpa using (zi.1 hn).2);exact .inr ⟨h,hl,e,.base (qv.2 ⟨hl,.inr h12⟩) hl⟩
 | XF hn r0 hv ih=>
  rename_i n v;have hp:=q.nd.pos hR hn;obtain⟨h,hl,e,r⟩:=ih.resolve_left (by omega);have p:=o5 hR hl;have en:n=Sh.nd σ x.S (E3 h):=q.nd.one hR hn (q.nd.at hR p.1 p.d.2.1) (by rw[e,q.gd.f h _ p.d];rfl);rw[en] at hv;obtain⟨u,hu,rfl⟩:=zq.1 hv;rw[<-G2 hR p] at hu;rcases hS.fl h hl u hu with e0 | hlu
  .exact .inl (by rw[e0];exact q.gd.z)
  .exact .inr ⟨u,hlu,rfl,.step r (gx.2 ⟨hu,by have:=I7 hR hlu;omega⟩) hlu⟩
 | XJ hp r0 ih=>
  rename_i p;obtain⟨k,v,hh,rfl⟩:=(q.p2 p).1 hp;obtain⟨a,b⟩:=hS.pr k v hh;have hk:=q.gd.ps hR a;obtain⟨h,hl,e,r⟩:=ih.resolve_left (by show σ k≠0;omega);have:k=h:=q.gd.inl hR a hl e;subst this;exact .inr ⟨v,b,rfl,.pair hh r b⟩
theorem WT{h:Int}(r:bp x.S x.T (Hc x) h):GZ m (σ h):=by
 have hS:=hx.sh;have hR:=hS.sr;induction r with
 | base hb hl=>
  rename_i h;refine .base ?_;unfold Qy;rcases (HX hx hb).2 with a | a
  .unfold oJ at a;rcases zu.1 a with a | a
   .refine t6 _ ?_;rw[q.ro];exact zcc (gx.1 a).1
   .refine t7 _ (t6 _ ?_);rw[q.LK hS];exact zcc a
  .refine t7 _ (t7 _ ?_);have p:=o5 hR hl;refine zq.2 ⟨Sh.nd σ x.S (E3 h),zi.2 ⟨q.nd.at hR p.1 p.d.2.1,?_⟩,(q.gd.f h _ p.d).symm⟩;rw[G2 hR p] at a;exact zE a
 | step r ho hl ih=>
  rename_i a b;have hla:=bp.live r;have p:=o5 hR hla;refine .XF (q.nd.at hR p.1 p.d.2.1) (by rw[show (Sh.nd σ x.S (E3 a)).Serial=σ a from (q.gd.f a _ p.d).symm];exact ih) ?_;show σ b∈(Sh.ce x.S (E3 a)).Val.Fields.map σ;rw[<-G2 hR p];exact zcc (gx.1 ho).1
 | pair hh r hl ih=>
  exact .XJ ((q.p2 _).2 ⟨_,_,hh,rfl⟩) ih
theorem Tr{h:Int}(hl:h∈lv x.S):GZ m (σ h)↔bp x.S x.T (Hc x) h:=by
 refine⟨λr=>?_,WT hx q⟩;have hR:=hx.sh.sr;have:=q.gd.ps hR hl;obtain⟨k,hk,e,r'⟩:=(PC hx q r).resolve_left (by omega);rw[q.gd.inl hR hl hk e];exact r'
theorem Ts{s:Int}(r:GZ m s):s=0\/s∈m.Nodes.map (·.Serial):=by
 have hR:=hx.sh.sr;rcases PC hx q r with e | ⟨h,hl,rfl,_⟩
 .exact .inl e
 .have p:=o5 hR hl;exact .inr (zq.2 ⟨_,q.nd.at hR p.1 p.d.2.1,(q.gd.f h _ p.d).symm⟩)
end
section
variable{m:a8}(hser:∀s,GZ m s->s=0\/s∈m.Nodes.map (·.Serial))(B:Bn m)
include hser B
def IJ(m:a8)(mp:List (Int × Bool)):Nat:=((m.Nodes.map (·.Serial)).filter λs => !(A0 mp s).getD false).length
structure KZ (m:a8) (q:e6) (mp:List (Int × Bool)):Prop where
 nd:q.L.Nodup
 cap:q.Cap=(m.Nodes.length:Int)
 iN:∀x∈q.L,Mk mp x/\x≠0
 rc:∀x,Mk mp x->x=0\/GZ m x
 z:Mk mp 0
omit hser B in
theorem TN {mp:List (Int × Bool)} {x:Int} (hx:x∈m.Nodes.map (·.Serial)) (hm:¬Mk mp x):IJ m (p6 mp x true)<IJ m mp:=by
 unfold IJ;refine filter_lt (λy _ h=>?_) x hx (by simpa[Mk] using hm) ?_
 .by_cases q:Mk mp y
  .have:=(dY mp x y).2 (.inr q);unfold Mk at this;rw[this] at h;cases h
  .simpa[Mk] using q
 .have:=(dY mp x x).2 (.inl rfl);unfold Mk at this;rw[this];rfl
omit B in
theorem KZ.sub {q:e6} {mp:List (Int × Bool)} (h:KZ m q mp):∀y∈q.L,y∈m.Nodes.map (·.Serial):=λy hy=>by
 obtain⟨a,b⟩:=h.iN y hy;exact (hser y ((h.rc y a).resolve_left b)).resolve_left b
omit B in
theorem KZ.room {q:e6} {mp:List (Int × Bool)} (h:KZ m q mp) {x:Int} (hx:x∈m.Nodes.map (·.Serial)) (hm:¬Mk mp x):q.L.length<m.Nodes.length:=by
 have:(x::q.L).length<=(m.Nodes.map (·.Serial)).length:=ai (zaa.2 ⟨λk=>hm (h.iN x k).1,h.nd⟩) λy hy=>by
  rcases zM.1 hy with rfl | k
  .exact hx
  .exact KZ.sub hser h y k
 simp only[zH,zl] at this;omega
theorem sD{xs:List Int}{q:e6}{mp:List (Int × Bool)}(hlen:xs.length<=1000000)(h0:KZ m q mp)(hr:∀x∈xs,x=0\/GZ m x) :
  ∃q' mp',lp (S:=Int × e6 × (List (Int × Bool))) (E:=(e6 × (List (Int × Bool)))) (λ((s148,s149,s150):Int × e6 × (List (Int × Bool)))=>
        if (decide (s148<(xs.length:Int))) then
         jn (λ((j156,j157):e6 × (List (Int × Bool)))=>
          some (.inl (x4 (s148+1),j156,j157))) (λκ155=>
          (ix xs s148).bind λv159=>
          if (!((A0 s150 v159).getD (false:Bool))) then
           (E0 s149 v159).bind λv160=>
           κ155 (v160.1,(p6 s150 v159 true))
          else
          κ155 (s149,s150))
        else
        some (.inr (s149,s150))) (0,q,mp)=some (q',mp')/\KZ m q' mp'/\(∀x,Mk mp' x↔Mk mp x\/x∈xs)/\(∀x,Mk mp' x->Mk mp x\/x∈q'.L)/\(∀x∈q.L,x∈q'.L)/\2*IJ m mp'+q'.L.length<=2*IJ m mp+q.L.length:=by
 have nl:=B.nl;have:=iM (f:=λ((s148,s149,s150):Int × e6 × (List (Int × Bool)))=>
        if (decide (s148<(xs.length:Int))) then
         jn (λ((j156,j157):e6 × (List (Int × Bool)))=>
          some (.inl (x4 (s148+1),j156,j157))) (λκ155=>
          (ix xs s148).bind λv159=>
          if (!((A0 s150 v159).getD (false:Bool))) then
           (E0 s149 v159).bind λv160=>
           κ155 (v160.1,(p6 s150 v159 true))
          else
          κ155 (s149,s150))
        else
        some (.inr (s149,s150))) (t0:=(q,mp)) xs.length (λk t=>KZ m t.1 t.2/\(∀x,Mk t.2 x↔Mk mp x\/x∈xs.take k)/\(∀x,Mk t.2 x->Mk mp x\/x∈t.1.L)/\(∀x∈q.L,x∈t.1.L)/\2*IJ m t.2+t.1.L.length<=2*IJ m mp+q.L.length)
  (λt=>KZ m t.1 t.2/\(∀x,Mk t.2 x↔Mk mp x\/x∈xs)/\(∀x,Mk t.2 x->Mk mp x\/x∈t.1.L)/\(∀x∈q.L,x∈t.1.L)/\2*IJ m t.2+t.1.L.length<=2*IJ m mp+q.L.length) (by omega)
  ⟨h0,λx=>by simp,λx h=>.inl h,λx h=>h,zG _⟩ (λk t hk hP=>?_) (λt hP=>?_)
 .obtain⟨⟨q',mp'⟩,h1,h2⟩:=this;exact⟨q',mp',h1,h2⟩
 .obtain⟨q1,m1⟩:=t;obtain⟨p1,p2,p3,p4,p5⟩:=hP;simp only at p1 p2 p3 p4 p5;left;have ht:∀x,x∈xs.take (k+1)↔x∈xs.take k\/x=xs[k]:=λx=>by rw[zt hk,zu,zn]
  simp only[jn,wn,hk,ww,we,u4 hk,a0A];by_cases hm:Mk m1 xs[k]
  .rw[za (by rw[show (A0 m1 xs[k]).getD false=true from hm];decide),n9];refine⟨(q1,m1),rfl,p1,λx=>?_,p3,p4,p5⟩;rw[p2,ht];constructor
   .rintro (a | a);·exact .inl a
    .exact .inr (.inl a)
   .rintro (a | a | rfl);·exact .inl a
    .exact .inr a
    .exact (p2 _).1 hm
  .have hm':(A0 m1 xs[k]).getD false=false:=by simpa[Mk] using hm
   have hk0:xs[k]≠0:=λe=>hm (by rw[e];exact p1.z);have hrc:=(hr _ (zh hk)).resolve_left hk0;have hin:=(hser _ hrc).resolve_left hk0;have hroom:=KZ.room hser p1 hin hm;rw[zb (by rw[hm'];decide),Kr (by rw[p1.cap];omega) (by omega),a0A,n9];refine⟨(⟨q1.L ++ [xs[k]],q1.Cap⟩,p6 m1 xs[k] true),rfl,⟨?_,p1.cap,λx hx=>?_,λx hx=>?_,?_⟩,λx=>?_,λx hx=>?_,λx hx=>?_,?_⟩
   .simp only;rw[zbs];refine⟨p1.nd,by simp,λa ha b hb e=>?_⟩;rw[zn] at hb;subst hb;subst e;exact hm (p1.iN _ ha).1
   .simp only[zu,zn] at hx;rw[dY];rcases hx with a | a
    .exact⟨.inr (p1.iN x a).1,(p1.iN x a).2⟩
    .exact⟨.inl a,by rw[a];exact hk0⟩
   .rcases (dY m1 xs[k] x).1 hx with rfl | a
    .exact .inr hrc
    .exact p1.rc x a
   .exact (dY m1 xs[k] 0).2 (.inr p1.z)
   .simp only;rw[dY,p2,ht];constructor
    .rintro (rfl | a | a);·exact .inr (.inr rfl)
     .exact .inl a
     .exact .inr (.inl a)
    .rintro (a | a | a);·exact .inr (.inl a)
     .exact .inr (.inr a)
     .exact .inl a
   .simp only[zu,zn];rcases (dY m1 xs[k] x).1 hx with a | a
    .exact .inr (.inr a)
    .rcases p3 x a with b | b
     .exact .inl b
     .exact .inr (.inl b)
   .simp only[zu];exact .inl (p4 x hx)
   .have:=TN hin hm;simp only[zJ,List.length_singleton];omega
 .obtain⟨q1,m1⟩:=t;refine⟨(q1,m1),?_,?_⟩;·simp only[zbo,zby,zD,q9]
  .simpa using hP
omit hser in
theorem FW {a:Int} (C:Bl m):P8 m a=some ((m.Pairs.filter λp=>p.Key==a).map (·.Val)):=by
 have pa:=C.pa;have h1:C7 m.Pairs a=some (m.Pairs.filter λp=>p.Key==a):=by
  unfold C7;exact ld (P:=λp=>cJ p a) (λn _=>rfl) (by omega) (by omega) (by omega)
 have hl:(m.Pairs.filter λp=>p.Key==a).length<=30:=zN (zA ..) pa;unfold P8;rw[h1,a0A];refine sQ (a:=(m.Pairs.filter λp=>p.Key==a).map (·.Val)) ?_ rfl;unfold E6;exact map_eq (λn _=>rfl) (by omega) (by omega) (by omega)
theorem LS(C:Bl m)(hn0:∀n∈m.Nodes,n.Serial≠0)(hp0:∀p∈m.Pairs,p.Key≠0):∃mp,gS m=some mp/\∀s,Mk mp s↔s=0\/GZ m s:=by
 have nl:=B.nl;have hst:D1 m.Nodes=some (m.Nodes.filter (·.Stuck)):=by
  unfold D1;exact ld (λn _=>rfl) (by omega) (by omega) (by omega)
 have hsl:(m.Nodes.filter (·.Stuck)).length<=24:=zN (zA ..) nl;have hss:J8 (m.Nodes.filter (·.Stuck))=some ((m.Nodes.filter (·.Stuck)).map (·.Serial)):=by
  unfold J8;refine sQ (a:=(m.Nodes.filter (·.Stuck)).map (·.Serial)) ?_ rfl;unfold B9;exact map_eq (λn _=>rfl) (by omega) (by omega) (by omega)
 have hh:gD ⟨m.Tasks,30⟩=some (kB m):=Qe (q:=⟨m.Tasks,30⟩) (by have:=C.tl;show m.Tasks.length<=1000;omega);have LK:(kB m).length<=200:=by
  unfold kB px;rw[zl];exact zN (zA ..) C.tl
 have hbl:(Qy m).length<=300:=by
  unfold Qy;rw[zJ,zJ,zl];have:=C.rl;omega
 have hc:G4 [m.Roots,kB m,(m.Nodes.filter (·.Stuck)).map (·.Serial)]=some (Qy m):=by
  unfold G4;refine (HA (by omega) (by omega) (by simp) ?_).trans ?_
  .show ([m.Roots,kB m,(m.Nodes.filter (·.Stuck)).map (·.Serial)].flatten).length<=100000;unfold Qy at hbl;simpa using zN hbl (by omega)
  .unfold Qy;simp
 unfold gS bk;rw[hst,a0A,hss,a0A,a0A,Aa,a0A,hh,a0A,hc,a0A];have hz0:Mk (p6 [] 0 true) 0:=(dY [] 0 0).2 (.inl rfl);have hzz:∀x,Mk (p6 [] 0 true) x->x=0:=λx h=>((dY [] 0 x).1 h).resolve_right (by simp[Mk,A0]);obtain⟨q0,m0,e0,i0,i1,i2,i3,i4⟩:=sD hser B (xs:=Qy m) (q:=⟨[],(m.Nodes.length:Int)⟩) (mp:=p6 [] 0 true) (by omega) ⟨zb2,rfl,(λx hx=>by cases hx),(λx h=>.inl (hzz x h)),hz0⟩ (λx h=>.inr (.base h));have hu:IJ m (p6 [] 0 true)<=24:=by
  unfold IJ;refine zN (zA ..) ?_;rw[zl];exact nl
 suffices key:∃mp,(lp (S:=e6 × (List (Int × Bool))) (E:=(List (Int × Bool))) (λ((s102,s103):e6 × (List (Int × Bool)))=>
    (I4 s102).bind λv106=>
    if (decide (v106 > 0)) then
     (Y0 s102).bind λv107=>
     (K3 m v107.2.1).bind λv108=>
     (ix m.Nodes v108).bind λv109=>
     (lp (S:=Int × e6 × (List (Int × Bool))) (E:=(e6 × (List (Int × Bool)))) (λ((s162,s163,s164):Int × e6 × (List (Int × Bool)))=>
       if (decide (s162<(v109.Fields.length:Int))) then
        jn (λ((j170,j171):e6 × (List (Int × Bool)))=>
         some (.inl (x4 (s162+1),j170,j171))) (λκ169=>
         (ix v109.Fields s162).bind λv173=>
         if (!((A0 s164 v173).getD (false:Bool))) then
          (E0 s163 v173).bind λv174=>
          κ169 (v174.1,(p6 s164 v173 true))
         else
         κ169 (s163,s164))
       else
       some (.inr (s163,s164))) (0,v107.1,s103)).bind λe161=>
     (P8 m v107.2.1).bind λv128=>
     (lp (S:=Int × e6 × (List (Int × Bool))) (E:=(e6 × (List (Int × Bool)))) (λ((s148,s149,s150):Int × e6 × (List (Int × Bool)))=>
        if (decide (s148<(v128.length:Int))) then
         jn (λ((j156,j157):e6 × (List (Int × Bool)))=>
          some (.inl (x4 (s148+1),j156,j157))) (λκ155=>
          (ix v128 s148).bind λv159=>
          if (!((A0 s150 v159).getD (false:Bool))) then
           (E0 s149 v159).bind λv160=>
           κ155 (v160.1,(p6 s150 v159 true))
          else
          κ155 (s149,s150))
        else
        some (.inr (s149,s150))) (0,e161.1,e161.2)).bind λe147=>
     some (.inl (e147.1,e147.2))
    else
    some (.inr s103)) (q0,m0))=some mp/\∀s,Mk mp s↔s=0\/GZ m s by
  obtain⟨mp,h1,h2⟩:=key;refine⟨mp,?_,h2⟩;refine (kS (e:=(q0,m0)) ((Option.bind_fun_some _).trans e0)).trans ?_;exact kS ((Option.bind_fun_some _).trans h1)
 refine vG (s0:=(q0,m0)) (λt=>KZ m t.1 t.2/\(∀x∈Qy m,Mk t.2 x)/\∀a,Mk t.2 a->a=0\/a∈t.1.L\/((∀n∈m.Nodes,n.Serial=a->∀b∈n.Fields,Mk t.2 b)/\∀p∈m.Pairs,p.Key=a->Mk t.2 p.Val)) (λmp=>∀s,Mk mp s↔s=0\/GZ m s) (λt=>2*IJ m t.2+t.1.L.length)
   ⟨i0,λx h1=>(i1 x).2 (.inr h1),λa ha=>?_⟩ (by show 2*IJ m m0+q0.L.length<_;simp only[zah] at i4;omega) ?_
 .rcases i2 a ha with b | b
  .exact .inl (hzz a b)
  .exact .inr (.inl b)
 .rintro⟨q,mp⟩ ⟨p1,p2,p3⟩;simp only at p1 p2 p3 |-;have hq:=ai p1.nd (KZ.sub hser p1);rw[zl] at hq;unfold I4;rw[a0A];cases hqL:q.L with
  | nil=>
   right;refine⟨mp,by rw[za (by simp)],λx=>⟨p1.rc x,λh=>?_⟩⟩;rcases h with rfl | h
   .exact p1.z
   .have cl:∀a,Mk mp a->a≠0->(∀n∈m.Nodes,n.Serial=a->∀b∈n.Fields,Mk mp b)/\∀p∈m.Pairs,p.Key=a->Mk mp p.Val:=λa h1 h2=>by
     rcases p3 a h1 with c | c | c
     .exact absurd c h2
     .rw[hqL] at c;cases c
     .exact c
    induction h with
    | base a=>exact p2 _ a
    | XF hn r hv ih=>
     rename_i n v;exact (cl _ ih (hn0 n hn)).1 n hn rfl v hv
    | XJ hp r ih=>
     rename_i p;exact (cl _ ih (hp0 p hp)).2 p hp rfl
  | cons a r=>
   left;have hqe:q=⟨a::r,q.Cap⟩:=by rw[<-hqL]
   have haq:a∈q.L:=by rw[hqL];exact zg
   obtain⟨hma,ha0⟩:=p1.iN a haq;have hra:=(p1.rc a hma).resolve_left ha0;have has:=KZ.sub hser p1 a haq;obtain⟨n,hf⟩:∃n,m.Nodes.find? (λn=>n.Serial==a)=some n:=by
    obtain⟨k,hk,e⟩:=zq.1 has;exact zad.1 (List.find?_isSome.2 ⟨k,hk,by simpa using e⟩)
   obtain⟨hns,hnm⟩:=lP hf;obtain⟨i,hi,ei,ri⟩:=yW B hf;have hnd:=p1.nd;rw[hqL] at hnd hq;simp only[zH] at hq;have hfl:=B.fl n hnm;obtain⟨q1,m1,e1',j0,j1,j2,j3,j4⟩:=sD hser B (xs:=n.Fields) (q:=⟨r,q.Cap⟩) (mp:=mp) (by omega) ⟨(zaa.1 hnd).2,p1.cap,λx hx=>p1.iN x (by rw[hqL];exact zo _ hx),p1.rc,p1.z⟩ (λx h=>.inr (.XF hnm (by rw[hns];exact hra) h));have hvl:((m.Pairs.filter λp=>p.Key==a).map (·.Val)).length<=30:=by
    rw[zl];exact zN (zA ..) C.pa
   obtain⟨q2,m2,e2',k0,k1,k2,k3,k4⟩:=sD hser B (xs:=(m.Pairs.filter λp=>p.Key==a).map (·.Val)) (q:=q1) (mp:=m1) (by omega) j0 (λx h=>by
    obtain⟨p,hp,rfl⟩:=zq.1 h;obtain⟨hp1,hp2⟩:=zi.1 hp;have hk:p.Key=a:=by simpa using hp2
    exact .inr (.XJ hp1 (by rw[hk];exact hra)))
   refine⟨(q2,m2),?_,⟨k0,λx h1=>(k1 x).2 (.inl ((j1 x).2 (.inl (p2 x h1)))),λb hb=>?_⟩,?_⟩
   .rw[zb (by simp),hqe,Pu (by omega),a0A];simp only;rw[ri,a0A,u4 hi,a0A,ei];refine sQ e1' ?_;simp only;rw[FW B C,a0A];exact sQ e2' rfl
   .simp only at hb |-;have up1:∀x,Mk m1 x->Mk m2 x:=λx h=>(k1 x).2 (.inl h);have up0:∀x,Mk mp x->Mk m2 x:=λx h=>up1 x ((j1 x).2 (.inl h));rcases k2 b hb with c | c
    .rcases j2 b c with d | d
     .rcases p3 b d with f | f | f
      .exact .inl f
      .rw[hqL] at f;rcases zM.1 f with rfl | f
       .refine .inr (.inr ⟨λk hk hks v hv=>?_,λp hp hpk=>?_⟩)
        .have:k=n:=by
          obtain⟨u,hu,eu⟩:=un hk;obtain⟨w,hw,ew⟩:=un hnm;rcases Nat.lt_trichotomy u w with c1 | c1 | c1
          .have:=za4.1 B.up u w hu hw c1;rw[eu,ew] at this;omega
          .subst c1;rw[<-eu,<-ew]
          .have:=za4.1 B.up w u hw hu c1;rw[eu,ew] at this;omega
         rw[this] at hv;exact up1 v ((j1 v).2 (.inr hv))
        .exact (k1 _).2 (.inr (zq.2 ⟨p,zi.2 ⟨hp,by simpa using hpk⟩,rfl⟩))
       .exact .inr (.inl (k3 b (j3 b f)))
      .exact .inr (.inr ⟨λk hk hks v hv=>up0 v (f.1 k hk hks v hv),λp hp hpk=>up0 _ (f.2 p hp hpk)⟩)
     .exact .inr (.inl (k3 b d))
    .exact .inr (.inl c)
   .show 2*IJ m m2+q2.L.length<2*IJ m mp+(a::r).length;simp only[zH] at j4 k4 |-;omega
end
theorem vI{l:List b8}(h:l.length<=1000):J8 l=some (l.map (·.Serial)):=by
 unfold J8;refine sQ (a:=l.map (·.Serial)) ?_ rfl;unfold B9;exact map_eq (λn _=>rfl) (by omega) (by omega) (by omega)
theorem p8.TF{σ:Int->Int}{x:Hp}{m:a8}(hR:SR x.S)(q:p8 σ x m):(m.Nodes.filter (·.Alive)).map (·.Serial)=Sh.TF x:=by
 rw[q.nd.alive hR,zaw];unfold Sh.TF;refine zw λh hh=>?_;show (Sh.ce x.S (E3 h)).Val.Serial=(ob x.S h).Serial;rw[G2 hR (o5 hR hh)]
theorem JX{σ:Int->Int}{x:Hp}{m:a8}(hR:SR x.S)(q:p8 σ x m):eK m=some (Sh.TF x):=by
 have B:=q.bn hR;unfold eK;rw[JW B,a0A,vI (zN (zA ..) (by have:=B.nl;omega)),a0A,q.TF hR]
theorem Qa(x:Hp):(TF x).length=(lv x.S).length:=by unfold TF;rw[zl]
theorem XV{p:Prop}{i:Decidable p}(h:¬p):false=@decide p i:=(zZ h).symm
theorem XW{p:Prop}{i:Decidable p}(h:p):true=@decide p i:=(zE h).symm
section
variable{σ:Int->Int}{x:Hp}{m:a8}(hx:K1 x)(q:p8 σ x m)
include hx q
theorem FF:∀d∈dH x,(ob x.S d).Strong<12:=λd hd=>by
 obtain⟨a,b⟩:=(bF (x:=x)).1 hd;rcases Int.lt_or_le (ob x.S d).Strong 12 with c | c
 .exact c
 .exact absurd (.base (qv.2 ⟨a,.inr c⟩) a) b
theorem LR{mp:List (Int × Bool)}(h:∀s,Mk mp s↔s=0\/GZ m s):C3 m.Nodes mp=some ((dH x).map λh=>Sh.nd σ x.S (E3 h)):=by
 have hR:=hx.sh.sr;have B:=q.bn hR;have nl:=B.nl;unfold C3;refine (ld (P:=λn=>bJ n mp) (p:=λn=>n.Alive && !((A0 mp n.Serial).getD false)) (λn _=>rfl) (by omega) (by omega) (by omega)).trans ?_;congr 1;rw[<-zap,zap,or (λn _=>Bool.and_comm _ _),<-zap,q.nd.alive hR,zcu];congr 1;unfold dH XG;refine or λd hd=>?_;have p:=o5 hR hd;show (!((A0 mp (Sh.ce x.S (E3 d)).Val.Serial).getD false))=_;rw[<-q.gd.f d _ p.d];have h0:σ d≠0:=by have:=q.gd.ps hR hd;omega
 have:(A0 mp (σ d)).getD false=true↔bp x.S x.T (Hc x) d:=by
  rw[<-Tr hx q hd];exact (h (σ d)).trans ⟨λc=>c.resolve_left h0,.inr⟩
 by_cases c:bp x.S x.T (Hc x) d
 .rw[this.2 c];exact XV λe=>e c
 .have hc:(A0 mp (σ d)).getD false=false:=by
   cases e:(A0 mp (σ d)).getD false;·rfl
   .exact absurd (this.1 e) c
  rw[hc];exact XW c
theorem Lq:((dH x).map λh=>Sh.nd σ x.S (E3 h)).filter NA=(jI x).map λh=>Sh.nd σ x.S (E3 h):=by
 have hR:=hx.sh.sr;rw[zcu];unfold jI;congr 1;refine or λd hd=>?_;have hl:=cZ hx d hd;have p:=o5 hR hl;rw[G2 hR p];rfl
theorem JZ{l:List Int}(hl:∀h∈l,h∈lv x.S):(l.map λh=>Sh.nd σ x.S (E3 h)).map (·.Serial)=l.map σ:=by
 rw[zaw];refine zw λh hh=>?_;exact (q.gd.f h _ (o5 hx.sh.sr (hl h hh)).d).symm
end
theorem p8.quL{σ:Int->Int}{x:Hp}{m:a8}(hx:K1 x)(hS:SL x)(hz:Sh.zr x = [])(q:p8 σ x m){l:List Int}(hn:l.Nodup)(hd:∀h∈l,h∈Sh.lv x.S/\due (Sh.ob x.S h)=true) :
  ∀k,k<=l.length->p8 σ ((l.take k).foldl Sh.gT x) (((l.take k).map σ).foldl qc m)
 | 0,_=>q
 | k+1,h=>by
  have ih:=p8.quL hx hS hz q hn hd k (by omega);have hsub:∀h∈l.take k,h∈l:=λh hh=>zaf hh;have Q:=Am (l.take k) hx hS hz (hn.sublist (zb9 ..)) λh hh=>hd h (hsub h hh);rw[zt (by omega),qr,zaj,zaj];exact ih.gT Q.rt.sh Q.rt.fair (by rw[Q.lv];exact (hd _ (zh _)).1)
theorem AI{σ:Int->Int}{x:Hp}{m:a8}(hx:K1 x)(hS:SL x)(hz:Sh.zr x = [])(q:p8 σ x m){l:List Int}(hl:l.length<=24)(hn:l.Nodup)(hd:∀h∈l,h∈Sh.lv x.S/\due (Sh.ob x.S h)=true){R:Type}{K:a8->Option R} :
  (lp (S:=Int × a8) (E:=a8) (λ((s20,s21):Int × a8)=>
   if (decide (s20<((l.map σ).length:Int))) then
    (ix (l.map σ) s20).bind λv24=>
    (bj s21 v24).bind λv25=>
    some (.inl (x4 (s20+1),v25))
   else
   some (.inr s21)) (0,m)).bind K=K ((l.map σ).foldl qc m):=by
 refine kS (Z0 (t0:=m) l.length (λk acc=>acc=((l.take k).map σ).foldl qc m) (by omega) rfl (λk acc hk e=>.inl ⟨_,?_,rfl⟩) (λacc e=>⟨acc,?_,?_⟩))
 .subst e;have Q:=p8.quL hx hS hz q hn hd k (by omega);have hsub:∀h∈l.take k,h∈l:=λh hh=>zaf hh;have D:=Am (l.take k) hx hS hz (hn.sublist (zb9 ..)) λh hh=>hd h (hsub h hh);have hR':=D.rt.sh.sr;have hlk:l[k]∈lv ((l.take k).foldl gT x).S:=by rw[D.lv];exact (hd _ (zh hk)).1
  simp only[];rw[zb (by simpa using hk),u4 (by simpa using hk),a0A,t8,Cj (Q.bn hR') (Q.bl D.rt.sh) (Q.find hR' (o5 hR' hlk).d),a0A,n9 (n:=k) (by omega),zt hk,qr,zaj];rfl
 .simp only[];rw[za (by simp)]
 .rw[e,zR]
theorem Js(m:a8)(l:List Int):(yo m l).Progs=m.Progs:=by
 unfold yo;have key:∀(l:List Int) (m:a8),(l.foldl rz m).Progs=m.Progs:=λl=>by
  induction l with
  | nil=>exact λm=>rfl
  | cons s l ih=>exact λm=>(ih (rz m s)).trans (yT m s).2.2.2.2
 exact key l _
theorem KM(m:a8)(s:Int):(qc m s).Progs=m.Progs:=by
 show (fW m s).Progs=m.Progs;rw[aU]
theorem TH(l:List Int):∀m:a8,(l.foldl qc m).Progs=m.Progs:=by
 induction l with
 | nil=>exact λm=>rfl
 | cons s l ih=>exact λm=>(ih (qc m s)).trans (KM m s)
theorem xV(m:a8):(kG m).Progs=m.Progs:=by
 have h1:∀m:a8,(sJ m).Progs=m.Progs:=λm=>by
  unfold sJ;split;·rfl
  .split;·exact KM ..
   .exact Js ..
 have:∀n,(gC n m).Progs=m.Progs:=λn=>by
  induction n with
  | zero=>rfl
  | succ n ih=>rw[jD,h1,ih]
 exact this 100
def L3(m:a8)(r:Int):Int:=if r<0 then 0 else m.Roots.getD r.toNat 0
def qZ(m:a8)(a s e:Int):a8 × Int × Int:=if e≠0 then (m,0,e) else (dy m a.toNat s,s,0)
def Bs(m:a8)(s k v:Int):a8 × Int × Int:=match m.Nodes.find? (λn=>n.Serial==s) with
 | none=>(m,0,2)
 | some n=>if ¬(0<=k/\k<n.Fields.length) then (m,0,5) else (ye (fW m v) (dF (fW m v).Nodes s λj=>Ye j (n.Fields.set k.toNat v)),v,0)
def xr(m:a8)(s v:Int):a8 × Int × Int:=
 if v≠0/\m.Places<=((m.Pairs.filter λp=>p.Key != s).length:Int) then (m,0,8) else (Xw (fW m v) ((m.Pairs.filter λp=>p.Key != s)++if v=0 then [] else [⟨s,v⟩]),v,0)
def Y9(m:a8)(o:g9):a8 × Int × Int:=
 if o.Kind=10 then (m,if L3 m o.A=L3 m o.B then 1 else 0,0)
 else if o.Kind=5 then (if L3 m o.A=0 then (m,0,2) else Bs m (L3 m o.A) o.B (L3 m o.C))
 else if o.Kind=6 then (if 0<=o.B/\L3 m o.B=0 then (m,0,2) else if xe ⟨m.Tasks,30⟩ o.A=true then (m,0,7) else (MC m o.A.toNat (L3 m o.B) o.C,L3 m o.B,0))
 else if o.Kind=8 then (if L3 m o.A=0 then (m,0,2) else xr m (L3 m o.A) (L3 m o.B))
 else if o.Kind=1 then (if m.Slots.findIdx (· == 0)<m.Slots.length then (dy (Ic m (m.Slots.findIdx (· == 0)) o.B.toNat o.C) o.A.toNat (m.Serial+1),m.Serial+1,0) else (m,0,4))
 else if o.Kind=2 then qZ m o.A (L3 m o.B) 0
 else if o.Kind=4 then (if L3 m o.B=0 then (m,0,2) else match m.Nodes.find? (λn=>n.Serial==L3 m o.B) with
  | none=>(m,0,2)
  | some n=>if ¬(0<=o.C/\o.C<n.Fields.length) then (m,0,5) else qZ m o.A (n.Fields.getD o.C.toNat 0) 0)
 else if o.Kind=7 then (if (m.b7.getD o.B.toNat cz).Target=0\/(m.b7.getD o.B.toNat cz).Intact=false then (m,0,9) else qZ m o.A (m.b7.getD o.B.toNat cz).Target 0)
 else if o.Kind=9 then (if L3 m o.B=0 then (m,0,2) else match (m.Pairs.find? λp=>p.Key==L3 m o.B) with
  | none=>(m,0,9)
  | some p=>qZ m o.A p.Val 0)
 else qZ m o.A 0 0
def Bm(m:a8)(o:g9):a8 × Int × Int:=if (Y9 m o).2.2≠0 then (m,0,(Y9 m o).2.2) else (kG (Y9 m o).1,(Y9 m o).2.1,0)
theorem Dn.jv{x z:Hp}{o:g9}{v:Int}(d:Dn x o z v):Sh.jv x o=(bN z,v,0):=by unfold Sh.jv;rw[d.mc];rfl
theorem Er.jv{x:Hp}{o:g9}{e:Int}(h:Er x o e):Sh.jv x o=(x,0,e):=by unfold Sh.jv;rw[h.2.1];rfl
section
variable{σ:Int->Int}{x:Hp}{m:a8}(hx:K1 x)(q:p8 σ x m)
include hx q
theorem p8.said(r:Int):L3 m r=σ (sd x r):=by
 unfold L3 sd;split;·exact q.gd.z.symm
 .rw[q.ro,zd,zB,zd];cases x.Roots[r.toNat]? with
  | none=>exact q.gd.z.symm
  | some v=>rfl
theorem p8.oB(r:Int):L3 m r=0↔sd x r=0:=by
 rw[q.said hx];exact q.gd.zero hx.sh.sr (Oy hx.sh.sr q.gd (eP hx.sh r))
theorem p8.bC{h:Int}(hh:h=0\/h∈lv x.S):Sh.bC x h=σ h:=by
 rcases hh with e | hl
 .subst e;rw[GH hx.sh,q.gd.z]
 .exact (q.gd.lv hx.sh.sr hl).symm
theorem p8.Jp{h:Int}(hl:h∈lv x.S):m.Nodes.find? (λn=>n.Serial==σ h)=some (Sh.nd σ x.S (E3 h))/\(Sh.nd σ x.S (E3 h)).Fields=(ob x.S h).Fields.map σ:=by
 have p:=o5 hx.sh.sr hl;refine⟨q.find hx.sh.sr p.d,?_⟩;rw[G2 hx.sh.sr p];rfl
structure kI (σ:Int->Int) (x:Hp) (m:a8) (o:g9):Prop where
 r:(∃e,e≠0/\Y9 m o=(m,0,e)/\Sh.jv x o=(x,0,e))\/∃σ' z mz v,Y9 m o=(mz,v,0)/\K1 z/\SL z/\p8 σ' z mz/\Sh.jv x o=(bN z,v,0)/\mz.Progs=m.Progs/\mz.Roots.length=6
theorem Hv(s:Int):(fW m s).Progs=m.Progs:=by rw[aU]
theorem Aw{o:g9}{a h:Int}(hr:K1 (G9 x a.toNat h))(hs:SL (G9 x a.toNat h))(hh:h=0\/h∈lv x.S)(hp:Y9 m o=(dy m a.toNat (σ h),σ h,0))(hd:Sh.jv x o=(bN (G9 x a.toNat h),Sh.bC x h,0)):kI σ x m o:=
 ⟨.inr ⟨σ,_,_,σ h,hp,hr,hs,q.G9 hx.sh hx.fair hh,by rw[hd,q.bC hx hh],by show (fW m (σ h)).Progs=_;exact Hv hx q _,by
  show (m.Roots.set a.toNat (σ h)).length=6;rw[zas,q.ro,zl];exact hx.sh.r6⟩⟩
theorem iH{o:g9}{e:Int}(he:Er x o e)(hp:Y9 m o=(m,0,e)):kI σ x m o:=⟨.inl ⟨e,he.1,hp,he.jv⟩⟩
theorem ZX(hS:SL x){a b c:Int}(hc:y6 2 a b c=0):kI σ x m ⟨2,a,b,c⟩:=by
 have d:=d2 hx hS hc;refine Aw hx q d.rt d.sl (eP hx.sh b) ?_ d.jv;show qZ m a (L3 m b) 0=_;rw[q.said hx];rfl
theorem ZY(hS:SL x){a b c:Int}(hc:y6 3 a b c=0):kI σ x m ⟨3,a,b,c⟩:=by
 have d:=d3 hx hS hc;refine Aw hx q (h:=0) d.rt d.sl (.inl rfl) ?_ (by rw[GH hx.sh];exact d.jv);show qZ m a 0 0=_;rw[q.gd.z];rfl
theorem YK(hS:SL x)(hz:zr x = []){a b c:Int}(hc:y6 10 a b c=0):kI σ x m ⟨10,a,b,c⟩:=by
 have d:=d10 hx hS hz hc;refine⟨.inr ⟨σ,x,m,_,rfl,hx,hS,q,?_,rfl,?_⟩⟩
 .rw[d.jv];show (_,_,_)=(_,(if L3 m a=L3 m b then (1:Int) else 0),_);have:L3 m a=L3 m b↔sd x a=sd x b:=by
   rw[q.said hx,q.said hx];exact⟨λe=>q.gd.XH hx.sh.sr (Oy hx.sh.sr q.gd (eP hx.sh a)) (Oy hx.sh.sr q.gd (eP hx.sh b)) e,λe=>by rw[e]⟩
  by_cases c':sd x a=sd x b
  .rw[zb c',zb (this.2 c')]
  .rw[za c',za λe=>c' (this.1 e)]
 .rw[q.ro,zl];exact hx.sh.r6
theorem a0b(hS:SL x){a b c:Int}(hc:y6 7 a b c=0):kI σ x m ⟨7,a,b,c⟩:=by
 obtain⟨h,d⟩:=d7 hx hS hc;have hg:m.b7.getD b.toNat cz=wx σ x.b7[b.toNat]:=by
  rw[q.ce,zd,zB,zc h];rfl
 have hp:Y9 m ⟨7,a,b,c⟩=if (wx σ x.b7[b.toNat]).Target=0\/(wx σ x.b7[b.toNat]).Intact=false then (m,0,9) else qZ m a (wx σ x.b7[b.toNat]).Target 0:=by
  rw[<-hg];rfl
 rcases d with ⟨hi,er⟩ | ⟨hi,d⟩;·exact iH hx q er (by rw[hp,zb (.inr hi)])
 .have hl:=((hx.sh.cl _ h).2.2.2.2 hi).1;refine Aw hx q d.rt d.sl (.inr hl) ?_ d.jv;have h0:σ x.b7[b.toNat].Target≠0:=by have:=q.gd.ps hx.sh.sr hl;omega
  rw[hp,za];·rfl
  .rintro (e | e);·exact h0 e
   .have:x.b7[b.toNat].Intact=false:=e;rw[hi] at this;cases this
theorem a0d(hS:SL x){a b c:Int}(hc:y6 9 a b c=0):kI σ x m ⟨9,a,b,c⟩:=by
 have hR:=hx.sh.sr;have hp0:L3 m b=0->Y9 m ⟨9,a,b,c⟩=(m,0,2):=λe=>by
  show (if L3 m b=0 then (m,0,2) else _)=_;rw[zb e]
 have hp1:L3 m b≠0->Y9 m ⟨9,a,b,c⟩=match (m.Pairs.find? λp=>p.Key==L3 m b) with
  | none=>(m,0,9)
  | some p=>qZ m a p.Val 0:=λe=>by
  show (if L3 m b=0 then (m,0,2) else _)=_;rw[za e]
 rcases d9 hx hS hc with ⟨e,er⟩ | ⟨hl,hno,er⟩ | ⟨hl,v,hv,d⟩;·exact iH hx q er (hp0 ((q.oB hx b).2 e))
 .have h0:L3 m b≠0:=λe=>fp hR ((q.oB hx b).1 e▸hl);refine iH hx q er ?_;rw[hp1 h0];have:(m.Pairs.find? λp=>p.Key==L3 m b)=none:=by
   rw[zch];intro p hp e;obtain⟨k,v,hh,rfl⟩:=(q.p2 p).1 hp;have e:σ k=L3 m b:=by simpa using e
   rw[q.said hx] at e;have:=q.gd.inl hR (hx.sh.pr k v hh).1 hl e;subst this;exact hno v hh
  rw[this]
 .have h0:L3 m b≠0:=λe=>fp hR ((q.oB hx b).1 e▸hl);have hvl:=(hx.sh.pr _ _ hv).2;refine Aw hx q d.rt d.sl (.inr hvl) ?_ d.jv;rw[hp1 h0];cases hf:(m.Pairs.find? λp=>p.Key==L3 m b) with
  | none=>
   rw[zch] at hf;have:=hf ⟨σ (sd x b),σ v⟩ ((q.p2 _).2 ⟨_,_,hv,rfl⟩);exact absurd (by rw[q.said hx];simp) this
  | some p=>
   obtain⟨k,u,hh,rfl⟩:=(q.p2 p).1 (List.mem_of_find?_eq_some hf);have e:σ k=L3 m b:=by have:=List.find?_some hf;simpa using this
   rw[q.said hx] at e;have:=q.gd.inl hR (hx.sh.pr k u hh).1 hl e;subst this;rw[Has.fn hx.sh.hr hh hv];rfl
theorem ZZ(hS:SL x){a b c:Int}(hc:y6 4 a b c=0):kI σ x m ⟨4,a,b,c⟩:=by
 have hR:=hx.sh.sr;have hp0:L3 m b=0->Y9 m ⟨4,a,b,c⟩=(m,0,2):=λe=>by
  show (if L3 m b=0 then (m,0,2) else _)=_;rw[zb e]
 have hp1:sd x b∈lv x.S->Y9 m ⟨4,a,b,c⟩=if ¬(0<=c/\c<(ob x.S (sd x b)).Fields.length) then (m,0,5) else qZ m a (((ob x.S (sd x b)).Fields.map σ).getD c.toNat 0) 0:=λhl=>by
  have h0:L3 m b≠0:=λe=>fp hR ((q.oB hx b).1 e▸hl);obtain⟨hf,hfl⟩:=q.Jp hx hl;show (if L3 m b=0 then (m,0,2) else match m.Nodes.find? (λn=>n.Serial==L3 m b) with
   | none=>(m,0,2)
   | some n=>if ¬(0<=c/\c<n.Fields.length) then (m,0,5) else qZ m a (n.Fields.getD c.toNat 0) 0)=_
  rw[za h0,q.said hx,hf];dsimp only;rw[hfl,zl]
 rcases eP hx.sh b with e0 | hl
 .have er2:Er x ⟨4,a,b,c⟩ 2:=by
   rcases d4 hx hS hc with ⟨_,er⟩ | ⟨e,hf,er⟩ | ⟨hl,_⟩;·exact er
   .rw[e0] at hf;have:e=2:=by
     unfold K7 at hf;have hg:y5 x.S 0=some (z0,2):=by
      have:=yK (s:=x.S.S) (h:=0) (by decide) (λi hi=>by
       have:=((sa hR).1 hi).Ml hR;omega)
      unfold y5;rw[this];rfl
     rw[hg] at hf;have:=zK hf;exact (zP Prod.snd this).symm
    rw[<-this];exact er
   .rw[e0] at hl;exact absurd hl (fp hR)
  exact iH hx q er2 (hp0 ((q.oB hx b).2 e0))
 .by_cases hcc:0<=c/\c<(ob x.S (sd x b)).Fields.length
  .have hp:=hp1 hl;rw[za (λd=>d hcc)] at hp;rcases d4 hx hS hc with ⟨e,_⟩ | ⟨e,hf,er⟩ | ⟨_,n,rfl,hn,d⟩;·exact absurd (e▸hl) (fp hR)
   .exfalso;obtain⟨n,rfl⟩:∃n:Nat,c=n:=⟨c.toNat,by omega⟩;rw[Ft hR hl (by omega)] at hf;exact er.1 (zP Prod.snd (zK hf)).symm
   .refine Aw hx q d.rt d.sl (hx.sh.fl _ hl _ (zh hn)) ?_ d.jv;rw[hp,zT,zd,zB,zc hn];rfl
  .refine iH hx q (e:=5) ?_ (by rw[hp1 hl,zb hcc]);rcases d4 hx hS hc with ⟨e,_⟩ | ⟨e,hf,er⟩ | ⟨_,n,rfl,hn,d⟩;·exact absurd (e▸hl) (fp hR)
   .have:e=5:=by
     unfold K7 at hf;rw[vH (A3.2 hR) hl,a0A,za (by simp),(Jn hcc).1] at hf;exact (zP Prod.snd (zK hf)).symm
    rw[<-this];exact er
   .exact absurd ⟨by omega,by omega⟩ hcc
end
section
variable{σ:Int->Int}{x:Hp}{m:a8}(hx:K1 x)(q:p8 σ x m)
include hx q
theorem p8.r6:m.Roots.length=6:=by rw[q.ro,zl];exact hx.sh.r6
theorem a0a(hS:SL x){a b c:Int}(hc:y6 5 a b c=0):kI σ x m ⟨5,a,b,c⟩:=by
 have hR:=hx.sh.sr;have hp0:L3 m a=0->Y9 m ⟨5,a,b,c⟩=(m,0,2):=λe=>by
  show (if L3 m a=0 then (m,0,2) else _)=_;rw[zb e]
 have hp1:sd x a∈lv x.S->Y9 m ⟨5,a,b,c⟩=if ¬(0<=b/\b<(ob x.S (sd x a)).Fields.length) then (m,0,5) else (ye (fW m (σ (sd x c))) (dF (fW m (σ (sd x c))).Nodes (σ (sd x a)) λj=>Ye j (((ob x.S (sd x a)).Fields.map σ).set b.toNat (σ (sd x c)))),σ (sd x c),0):=λhl=>by
  have h0:L3 m a≠0:=λe=>fp hR ((q.oB hx a).1 e▸hl);obtain⟨hf,hfl⟩:=q.Jp hx hl;show (if L3 m a=0 then (m,0,2) else Bs m (L3 m a) b (L3 m c))=_;rw[za h0,q.said hx,q.said hx];unfold Bs;rw[hf];dsimp only;rw[hfl,zl]
 rcases eP hx.sh a with e0 | hl
 .have er2:Er x ⟨5,a,b,c⟩ 2:=by
   rcases d5 hx hS hc with ⟨_,er⟩ | ⟨e,hf,er⟩ | ⟨hl,_⟩;·exact er
   .rw[e0] at hf;have:e=2:=by
     unfold aI K7 at hf;have hg:y5 x.S 0=some (z0,2):=by
      have:=yK (s:=x.S.S) (h:=0) (by decide) (λi hi=>by
       have:=((sa hR).1 hi).Ml hR;omega)
      unfold y5;rw[this];rfl
     rw[hg] at hf;have:=zK hf;exact (zP Prod.snd this).symm
    rw[<-this];exact er
   .rw[e0] at hl;exact absurd hl (fp hR)
  exact iH hx q er2 (hp0 ((q.oB hx a).2 e0))
 .by_cases hcc:0<=b/\b<(ob x.S (sd x a)).Fields.length
  .have hp:=hp1 hl;rw[za (λd=>d hcc)] at hp;have hv:=eP hx.sh c;rcases yx hx hS (sd x a) b (sd x c) (ki hx.sh a) (ki hx.sh c) with ⟨e,he,f1,_⟩ | ⟨_,_,n,rfl,hn,f0,_⟩
   .exfalso;obtain⟨n,rfl⟩:∃n:Nat,b=n:=⟨b.toNat,by omega⟩;unfold aI at f1;rw[Ft hR hl (by omega),a0A,za (by simp),O2 hR (ki hx.sh c),a0A,zE hv,za (by simp)] at f1;cases g:G8 x (ob x.S (sd x a)).Fields[n] (sd x c) (⟨sd x a,n,sd x c⟩:I2) with
    | none=>rw[g] at f1;cases f1
    | some w=>
     rw[g] at f1;exact he (zP Prod.snd (zK f1)).symm
   .rcases d5 hx hS hc with ⟨e,_⟩ | ⟨e,hf,er⟩ | ⟨_,k,hk,hkn,d⟩;·exact absurd (e▸hl) (fp hR)
    .exfalso;rcases yx hx hS (sd x a) n (sd x c) (ki hx.sh a) (ki hx.sh c) with ⟨e,he,f1,_⟩ | ⟨_,_,n',h',hn',f1,_⟩
     .rw[f0] at f1;exact he (zP Prod.snd (zK f1)).symm
     .rw[hf] at f1;exact er.1 (zP Prod.snd (zK f1))
    .have:k=n:=by omega
     subst this;refine⟨.inr ⟨σ,_,_,_,hp,d.rt,d.sl,?_,?_,?_,?_⟩⟩
     .rw[zT];exact q.bS hx.sh hx.fair hl hv
     .rw[d.jv,q.bC hx hv]
     .show (fW m _).Progs=_;exact Hv hx q _
     .show (fW m (σ (sd x c))).Roots.length=_;rw[aU];exact (q.r6 hx:m.Roots.length=6)
  .refine iH hx q (e:=5) ?_ (by rw[hp1 hl,zb hcc]);rcases d5 hx hS hc with ⟨e,_⟩ | ⟨e,hf,er⟩ | ⟨_,n,rfl,hn,d⟩;·exact absurd (e▸hl) (fp hR)
   .obtain rfl:e=5:=by
     unfold aI K7 at hf;rw[vH (A3.2 hR) hl,a0A,za (by simp),(Jn hcc).1] at hf;exact (zP Prod.snd (zK hf)).symm
    exact er
   .exact absurd ⟨by omega,by omega⟩ hcc
theorem p8.a0i(k:Int):Sh.xe ⟨m.Tasks,30⟩ k=Sh.xe x.Q k:=by
 rw[zbj,gX,gX];have hk:∀t:g5,(tx σ t).Kind=t.Kind/\(t.Kind=2->(tx σ t).At=t.At):=λt=>by
  unfold tx;split;·rename_i h;exact⟨h.symm,λe=>by omega⟩
  .exact⟨rfl,λ_=>rfl⟩
 constructor
 .rintro⟨u,hu,k1,k2⟩;have hu:u∈x.Q.L.map (tx σ):=by rw[<-q.tk];exact hu
  obtain⟨t,ht,rfl⟩:=zq.1 hu;have:=(hk t).1;exact⟨t,ht,by omega,by rw[<-(hk t).2 (by omega)];exact k2⟩
 .rintro⟨t,ht,k1,k2⟩;refine⟨tx σ t,?_,by rw[(hk t).1];exact k1,by rw[(hk t).2 k1];exact k2⟩;show _∈m.Tasks;rw[q.tk];exact zcc ht
theorem GY(w:Nat)(s call:Int):(MC m w s call).Progs=m.Progs/\(MC m w s call).Roots=m.Roots:=by
 unfold MC Fc;split;·exact⟨rfl,rfl⟩
 .split <;> exact⟨rfl,rfl⟩
theorem pre6(hS:SL x){a b c:Int}(hc:y6 6 a b c=0):kI σ x m ⟨6,a,b,c⟩:=by
 have hR:=hx.sh.sr;obtain⟨ha,hb,hcc⟩:=RK hc;have hp:Y9 m ⟨6,a,b,c⟩=if 0<=b/\L3 m b=0 then (m,0,2) else if Sh.xe ⟨m.Tasks,30⟩ a=true then (m,0,7) else (MC m a.toNat (L3 m b) c,L3 m b,0):=rfl
 rw[q.a0i hx,q.said hx] at hp;have hl:=eP hx.sh b;have hz:σ (sd x b)=0↔sd x b=0:=by rw[<-q.said hx];exact q.oB hx b
 by_cases h0:0<=b/\sd x b=0
 .have er2:Er x ⟨6,a,b,c⟩ 2:=by
   have hm:u6 x ⟨6,a,b,c⟩=_:=Vr hc;unfold M4 at hm;rw[za (by simp;omega),jz hx.sh,a0A] at hm;have has:Bd x b=(0,2):=by unfold Bd;rw[zb h0.2]
   rw[has,zb (by simp)] at hm;refine⟨by decide,?_,?_⟩
   .rw[hm,a0A];exact kN (e:=2) (by decide)
   .trivial
  exact iH hx q er2 (by rw[hp,zb ⟨h0.1,hz.2 h0.2⟩])
 .rw[za (λd=>h0 ⟨d.1,hz.1 d.2⟩)] at hp;have key:(∃e,T7 x a (sd x b) c=some (x,e)/\Er x ⟨6,a,b,c⟩ e)\/(xe x.Q a=false/\Dn x ⟨6,a,b,c⟩ (cW x a.toNat (sd x b) c) (bC x (sd x b))):=by
   rcases d6 hx hS hc with ⟨e,er⟩ | k | k
   .exfalso;have hb1:b = -1:=by omega
    subst hb1;have hm:u6 x ⟨6,a,-1,c⟩=_:=Vr hc;rw[er.2.1] at hm;unfold M4 at hm;rw[zb (by rfl)] at hm;rcases EB hx a 0 c (by omega) hcc with ⟨e',he',f1,_⟩ | ⟨_,n,rfl,hn,hw,f1,_⟩
    .rw[f1,a0A,a0A,kN he'] at hm;have:=GW hx ha (.inl rfl) (by omega) hcc f1 he';have:=zP (λp=>p.2.2) (zK hm);dsimp only at this;omega
    .rw[f1,a0A,a0A] at hm;have:=Ul (a:=(n:Int)) (b:=-1) (c:=c) (z:=cW x n 0 c) (wZ hx hn (.inl rfl) hcc hw) (GV hx hS hn _ _) (k:=6) (r:=-1) (x:=x) (.inr ⟨.inl rfl,rfl⟩);dsimp only at hm;rw[this] at hm;have:=zP (λp=>p.2.2) (zK hm);exact absurd (show (2:Int)=0 from this) (by decide)
   .exact .inl k
   .exact .inr k
  rcases key with ⟨e,hf,er⟩ | ⟨hw,d⟩
  .obtain rfl:=GW hx ha hl (ki hx.sh b) hcc hf er.1;refine iH hx q er ?_;rcases EB hx a (sd x b) c (ki hx.sh b) hcc with ⟨e',he',f1,_⟩ | ⟨_,n,rfl,hn,hw,f1,_⟩
   .rw[hp,zb];unfold T7 at hf;obtain⟨n,rfl⟩:∃n:Nat,a=n:=⟨a.toNat,by omega⟩;have c6:=hx.sh.c6;have q30:=hx.sh.q30;have e1:((decide ((n:Int)<0))||(decide ((n:Int)>=(x.b7.length:Int))))=false:=by rw[c6];simp;omega
    rw[e1] at hf;simp only[zW,bK,zcb] at hf;have hwq:aS x.Q n=some (xe x.Q n):=xX (by omega);rw[hwq,a0A,O2 hR (ki hx.sh b),a0A,zE hl] at hf;cases hw:xe x.Q n
    .exfalso;rw[hw,za (by decide),za (by decide)] at hf;cases g1:km x.b7 n (sd x b) c with
     | none=>rw[g1] at hf;cases hf
     | some a=>
      rw[g1,a0A] at hf;cases g2:aA ⟨x.S,x.Roots,a.1,x.T,x.Q⟩ (sd x b) 1 with
      | none=>rw[g2] at hf;cases hf
      | some b'=>
       rw[g2,a0A] at hf;cases g3:bg b' a.2.1 with
       | none=>rw[g3] at hf;cases hf
       | some d=>
        rw[g3,a0A] at hf;exact absurd (zP (λp=>p.2) (zK hf)) (by simp)
    .rfl
   .rw[hf] at f1;exact absurd (zP Prod.snd (zK f1)) (by simp)
  .rw[hw,za (by simp)] at hp;refine⟨.inr ⟨σ,_,_,_,hp,d.rt,d.sl,q.cW hx (by omega) hl,by rw[d.jv,q.bC hx hl],?_,?_⟩⟩;·exact (GY hx q ..).1
   .rw[(GY hx q ..).2];exact q.r6 hx
end
section
variable{σ:Int->Int}{x:Hp}{m:a8}(hx:K1 x)(q:p8 σ x m)
include hx q
theorem p8.prl{k:Int}(hk:k∈lv x.S):(m.Pairs.filter λp=>p.Key != σ k).length=(x.T.filter λp=>p.State==1&&p.Key != k).length:=by
 have hR:=hx.sh.sr;rw[((q.perm hx.sh).filter _).length_eq,jW,zaw,zcu,zl,zap];congr 1;refine or λp hp=>?_;show ((σ p.Key != σ k)&&(p.State==1))=_;by_cases h1:p.State=1
 .obtain⟨i,hi,rfl⟩:=un hp;have hh:Has x.T x.T[i].Key x.T[i].Val:=⟨i,⟨hi,by rw[mg hi];exact h1,by rw[mg hi]⟩,by rw[mg hi]⟩;have hl:=(hx.sh.pr _ _ hh).1;by_cases c:x.T[i].Key=k
  .rw[c];simp
  .have:σ x.T[i].Key≠σ k:=λe=>c (q.gd.inl hR hl hk e);have a1:(σ x.T[i].Key != σ k)=true:=bne_iff_ne.2 this;have a2:(x.T[i].Key != k)=true:=bne_iff_ne.2 c;rw[a1,a2,zbb,Bool.and_true]
 .have:(p.State==1)=false:=beq_eq_false_iff_ne.2 h1;rw[this,Bool.and_false,Bool.false_and]
theorem p8.full{k:Int}(hk:k∈lv x.S):m.Places<=((m.Pairs.filter λp=>p.Key != σ k).length:Int)↔(∀i,¬Fk x.T k i)/\∀i,i<x.T.length->(pt x.T i).State=1:=by
 rw[q.prl hx hk,q.npl];have hle:=zA (λp:g6=>p.State==1&&p.Key != k) x.T;constructor
 .intro h;have e:(x.T.filter λp=>p.State==1&&p.Key != k).length=x.T.length:=by omega
  rw[List.length_filter_eq_length_iff] at e;have e':∀i,i<x.T.length->(pt x.T i).State=1/\(pt x.T i).Key≠k:=λi hi=>by
   rw[mg hi];simpa using e _ (zh hi)
  exact⟨λi hi=>(e' i hi.1).2 hi.2.2,λi hi=>(e' i hi).1⟩
 .rintro⟨h1,h2⟩;have e:(x.T.filter λp=>p.State==1&&p.Key != k).length=x.T.length:=by
   rw[List.length_filter_eq_length_iff];intro p hp;obtain⟨i,hi,rfl⟩:=un hp;have a:=h2 i hi;have b:(pt x.T i).Key≠k:=λe=>h1 i ⟨hi,a,e⟩;rw[mg hi] at a b;simp[a,b]
  omega
theorem Me(s v:Int)(h:¬(v≠0/\m.Places<=((m.Pairs.filter λp=>p.Key != s).length:Int))):xr m s v=(Xw (fW m v) ((m.Pairs.filter λp=>p.Key != s)++if v=0 then [] else [⟨s,v⟩]),v,0):=by
 unfold xr;rw[za h]
theorem a0c(hS:SL x){a b c:Int}(hc:y6 8 a b c=0):kI σ x m ⟨8,a,b,c⟩:=by
 have hR:=hx.sh.sr;have hl:=eP hx.sh b;have hz:σ (sd x b)=0↔sd x b=0:=by rw[<-q.said hx];exact q.oB hx b
 have hp0:L3 m a=0->Y9 m ⟨8,a,b,c⟩=(m,0,2):=λe=>by
  show (if L3 m a=0 then (m,0,2) else _)=_;rw[zb e]
 have hp1:sd x a∈lv x.S->Y9 m ⟨8,a,b,c⟩=xr m (σ (sd x a)) (σ (sd x b)):=λha=>by
  have h0:L3 m a≠0:=λe=>fp hR ((q.oB hx a).1 e▸ha);show (if L3 m a=0 then (m,0,2) else xr m (L3 m a) (L3 m b))=_;rw[za h0,q.said hx,q.said hx]
 rcases d8 hx hS hc with ⟨e,er⟩ | ⟨hk,e,hf,er⟩ | ⟨hk,r,hr,r0,d⟩;·exact iH hx q er (hp0 ((q.oB hx a).2 e))
 .obtain rfl:=Pq hx hS hk hl hf er.1;refine iH hx q er ?_;rw[hp1 hk];unfold xr;rw[zb];have k0:sd x a≠0:=λe=>fp hR (e▸hk);unfold cC at hf;rw[za (by simpa using k0),O2 hR (ug hx hS (.inr hk)),a0A,O2 hR (ug hx hS hl),zE (.inr hk),zE hl] at hf;simp only[zbn,zW,bK,a0A,zcv,zD,q9] at hf;obtain⟨r,r1,_,_,r5⟩:=eh hx.sh.hr (sd x a) (sd x b);rw[r1,a0A] at hf;have hne:r.2.2≠0:=λh0=>by
   rw[za (by simpa using h0)] at hf;cases g:E5 x r.2.1 (sd x b) ⟨r.1⟩ with
   | none=>rw[g] at hf;cases hf
   | some w=>
    rw[g,a0A] at hf;exact absurd (zP (λp=>p.2) (zK hf)) (by simp)
  rcases r5 with ⟨e,rfl⟩ | ⟨_,_,⟨i,hi,rfl⟩ | ⟨_,rfl⟩⟩ | ⟨_,hv,⟨i,hi,rfl⟩ | ⟨d,_,_,_,_,rfl⟩ | ⟨h1,h2,rfl⟩⟩;·exact absurd e k0
  .exact absurd rfl hne
  .exact absurd rfl hne
  .exact absurd rfl hne
  .exact absurd rfl hne
  .exact⟨λe=>hv (hz.1 e),(q.full hx hk).2 ⟨h1,h2⟩⟩
 .have hno:¬(σ (sd x b)≠0/\m.Places<=((m.Pairs.filter λp=>p.Key != σ (sd x a)).length:Int)):=by
   rintro⟨hv,hf⟩;obtain⟨h1,h2⟩:=(q.full hx hk).1 hf;have hv:sd x b≠0:=λe=>hv (hz.2 e);obtain⟨r',r1,_,_,r5⟩:=eh hx.sh.hr (sd x a) (sd x b);rw[hr] at r1;obtain rfl:=zK r1;rcases r5 with ⟨e,rfl⟩ | ⟨_,e,_⟩ | ⟨_,_,⟨i,hi,rfl⟩ | ⟨j,_,hd,hs,_,rfl⟩ | ⟨_,_,rfl⟩⟩;·exact absurd r0 (by simp)
   .exact hv e
   .exact h1 i hi
   .exact hs (h2 j hd)
   .exact absurd r0 (by simp)
  have hp:=hp1 hk;rw[Me hx q _ _ hno] at hp;have S:=q.ja hx.sh hx.fair hk hl hr r0;have hif:(if sd x b=0 then ([]:List k7) else [⟨σ (sd x a),σ (sd x b)⟩])=if σ (sd x b)=0 then [] else [⟨σ (sd x a),σ (sd x b)⟩]:=by
   by_cases e:sd x b=0
   .rw[zb e,zb (hz.2 e)]
   .rw[za e,za λf=>e (hz.1 f)]
  rw[hif] at S;refine⟨.inr ⟨σ,_,_,_,hp,d.rt,d.sl,S,by rw[d.jv,q.bC hx hl],?_,?_⟩⟩;·show (fW m _).Progs=_;exact Hv hx q _
  .show (fW m (σ (sd x b))).Roots.length=_;rw[aU];exact (q.r6 hx:m.Roots.length=6)
theorem p8.Xm{i:Nat}(hi:i<x.S.S.b7.length):PZ (Sh.ce x.S i)=0↔(Sh.ce x.S i).State=0:=by
 have hR:=hx.sh.sr;have hc:=hR.cell i hi;unfold PZ;split
 .rename_i t;have:=(hR.ok i hi t).s1;unfold Th at t;omega
 .rename_i t;unfold Th at t;split;·omega
  .omega
theorem p8.Zx:m.Slots.length=x.S.S.b7.length:=by rw[q.sl];simp
theorem p8.slg{i:Nat}(hi:i<m.Slots.length):m.Slots[i]=PZ (Sh.ce x.S i):=by
 have:=q.sl;simp only[this,t8,List.getElem_range]
theorem p8.fst{i:Nat}(h:XO x.S i):m.Slots.findIdx (· == 0)=i:=by
 obtain⟨h1,h2,h3⟩:=h;have hi:i<m.Slots.length:=by rw[q.Zx hx];exact h1
 rw[List.findIdx_eq hi];refine⟨?_,λj hj=>?_⟩;·rw[q.slg hx hi,ms];exact (q.Xm hx h1).2 h2
 .rw[q.slg hx (by omega),beq_eq_false_iff_ne];exact λe=>h3 j hj ((q.Xm hx (by omega)).1 e)
theorem p8.Uy(h:∀i,i<x.S.S.b7.length->(Sh.ce x.S i).State≠0):¬m.Slots.findIdx (· == 0)<m.Slots.length:=by
 rw[List.findIdx_lt_length];rintro⟨v,hv,e⟩;obtain⟨i,hi,rfl⟩:=un hv;have h1:i<x.S.S.b7.length:=by rw[<-q.Zx hx];exact hi
 rw[q.slg hx hi,ms] at e;exact h i h1 ((q.Xm hx h1).1 e)
theorem ZW(hS:SL x)(hb:x.S.Serial<9223372036854775807){a b c:Int}(hc:y6 1 a b c=0):kI σ x m ⟨1,a,b,c⟩:=by
 have hR:=hx.sh.sr;obtain⟨ha,hbb,hcc⟩:=Vg hc;have hp:Y9 m ⟨1,a,b,c⟩=if m.Slots.findIdx (· == 0)<m.Slots.length then (dy (Ic m (m.Slots.findIdx (· == 0)) b.toNat c) a.toNat (m.Serial+1),m.Serial+1,0) else (m,0,4):=rfl
 rcases d1 hx hS hb hc with ⟨e,hf,er⟩ | ⟨hn,_,i,hF,d⟩
 .rcases OB hR hb b c with ⟨h,_⟩ | ⟨_,h,_⟩ | ⟨_,_,h,g⟩ | ⟨_,_,i,_,g⟩;·exact absurd hbb h
  .exact absurd hcc h
  .rw[hf] at g;obtain rfl:e=4:=zP (λp=>p.2.2) (zK g);exact iH hx q er (by rw[hp,za (q.Uy hx h)])
  .rw[hf] at g;exact absurd (zP (λp=>p.2.2) (zK g)) er.1
 .obtain⟨hi,h0,_⟩:=id hF;obtain⟨σ',S,e1⟩:=q.mk' hx hi h0 hn hcc;have hy:=Ad hx hi h0 hn hcc;have hh:cy x.S i=0\/cy x.S i∈lv (wS x (dI x.S i b.toNat c)).S:=.inr (by
   show _∈lv (dI x.S i b.toNat c);rw[Co hR hi h0 hn hcc];exact t7 _ (zn.2 rfl))
  have S2:=S.G9 (r:=a.toNat) hy.sh hy.fair hh;rw[e1] at S2;rw[q.fst hx hF,zb (by rw[q.Zx hx];exact hi),q.se] at hp;refine⟨.inr ⟨σ',_,_,_,hp,d.rt,d.sl,S2,d.jv,?_,?_⟩⟩
  .show (fW (Ic m i b.toNat c) (x.S.Serial+1)).Progs=_;rw[aU];rfl
  .show ((Ic m i b.toNat c).Roots.set a.toNat _).length=6;rw[zas];exact (q.r6 hx:m.Roots.length=6)
theorem vY(hS:SL x)(hz:zr x = [])(hb:x.S.Serial<9223372036854775807){o:g9}(hc:y6 o.Kind o.A o.B o.C=0)(hk:o.Kind<=10):kI σ x m o:=by
 obtain⟨k,a,b,c⟩:=o;dsimp only at hc hk;have:=ud hc;have hk:k=1\/k=2\/k=3\/k=4\/k=5\/k=6\/k=7\/k=8\/k=9\/k=10:=by omega
 rcases hk with rfl | rfl | rfl | rfl | rfl | rfl | rfl | rfl | rfl | rfl
 .exact ZW hx q hS hb hc
 .exact ZX hx q hS hc
 .exact ZY hx q hS hc
 .exact ZZ hx q hS hc
 .exact a0a hx q hS hc
 .exact pre6 hx q hS hc
 .exact a0b hx q hS hc
 .exact a0c hx q hS hc
 .exact a0d hx q hS hc
 .exact YK hx q hS hz hc
end
theorem VO{l:List Int}(hl:l.length<=1000):I0 l 0=some (if l.findIdx (· == 0)<l.length then (l.findIdx (· == 0):Int) else -1):=by
 unfold I0;simp only[jn];refine aK l.length (λi=>i<=l.findIdx (· == 0)) (by omega) (zX _) (λi hi hik=>?_) (λhlk=>⟨.inr (),by simp,by rw[za (by omega)]⟩);rw[zb (by simpa using hi),u4 hi,a0A];rcases zF i (l.findIdx (· == 0)) with c | c
 .left;have:=List.not_of_lt_findIdx c;have h0:l[i]≠0:=by simpa using this
  rw[za (by simpa using λe=>h0 e.symm),n9 (by omega)];exact⟨rfl,c⟩
 .have e:i=l.findIdx (· == 0):=by omega
  right;have hlt:l.findIdx (· == 0)<l.length:=by omega
  have:(l[l.findIdx (· == 0)]==0)=true:=List.findIdx_getElem (w:=hlt) (p:=(· == 0));have h0:l[i]=0:=by simp only[e];simpa using this
  rw[zb (by rw[h0];rfl),zb hlt,e];exact⟨_,rfl,rfl⟩
theorem TX{l:List Int}(hl:l.length<=1000)(k v:Int):mH l k v=some (if 0<=k/\k<l.length then (l.set k.toNat v,0) else (l,5)):=by
 unfold mH gV;rw[a0A];by_cases c:0<=k/\k<l.length
 .obtain⟨n,rfl⟩:∃n:Nat,k=n:=⟨k.toNat,by omega⟩;have hn:n<l.length:=by omega
  rw[za (by simp;omega),kW (by omega) (by omega),a0A];have e:xK (List.replicate l.length (0:Int)) l=some l:=by
   unfold xK;rw[zb (by simp)];simp
  rw[e,a0A,u4 hn,a0A,zb c]
 .rw[za c,zb (by simp;omega)]
theorem Vb(l:List Int)(k:Int):iW l k=some (if 0<=k/\k<l.length then (l.getD k.toNat 0,0) else (0,5)):=by
 by_cases c:0<=k/\k<l.length
 .obtain⟨n,rfl⟩:∃n:Nat,k=n:=⟨k.toNat,by omega⟩;have hn:n<l.length:=by omega
  unfold iW gV;rw[a0A,za (by simp;omega),u4 hn,a0A,zb c,zT,zd,zc hn];rfl
 .rw[(Jn c).1,za c]
theorem Sp{l:List k8}{n:Nat}(hn:n<l.length):cS l n=some (if l[n].Target=0\/l[n].Intact=false then (0,9) else (l[n].Target,0)):=by
 unfold cS ko;have:(decide ((n:Int)>=0)&&decide ((n:Int)<(l.length:Int)))=true:=by simp;omega
 rw[this,a0A,za (by simp),u4 hn,a0A];by_cases q:l[n].Target=0\/l[n].Intact=false
 .rw[zb q,zb (by rcases q with q | q <;> simp[q])]
 .rw[za q,za (by simpa using q)]
section
variable{σ:Int->Int}{x:Hp}{m:a8}(hx:K1 x)(q:p8 σ x m)
include hx q
theorem p8.Zs{h:Int}(hh:h=0\/h∈lv x.S):σ h=0\/∃n,m.Nodes.find? (λn=>n.Serial==σ h)=some n:=by
 rcases hh with e | hl
 .left;rw[e];exact q.gd.z
 .exact .inr ⟨_,(q.Jp hx hl).1⟩
theorem FV{a:Int}(ha:0<=a/\a<=5){h:Int}(hh:h=0\/h∈lv x.S):aN m a (σ h)=some (kG (dy m a.toNat (σ h)),⟨σ h,0⟩):=by
 obtain⟨r,rfl⟩:∃r:Nat,a=r:=⟨a.toNat,by omega⟩;have S:=q.G9 (r:=r) hx.sh hx.fair hh;have hz:=bZ hx (r:=r) (by omega) hh;have S2:=S.bN hz;have r6:=q.r6 hx;unfold aN;rw[yY (q.bn hx.sh.sr) (q.bl hx.sh) (q.Zs hx hh) (by omega),a0A,lT hz S,a0A,zT];have e:(kG (dy m r (σ h))).Roots=m.Roots.set r (σ h):=by
  rw[S2.ro,(mB hz).rt,<-S.ro];rfl
 have hl:r<(kG (dy m r (σ h))).Roots.length:=by rw[e,zas];omega
 rw[u4 hl,a0A];have:(kG (dy m r (σ h))).Roots[r]=σ h:=by simp only[e,List.getElem_set_self]
 rw[this]
theorem yZ{r:Int}(hr:r<=5):U4 m r=some (L3 m r):=by
 have r6:=q.r6 hx;unfold U4 L3;by_cases c:r<0
 .rw[zb (by simpa using c),zb c]
 .obtain⟨n,rfl⟩:∃n:Nat,r=n:=⟨r.toNat,by omega⟩;have hn:n<m.Roots.length:=by omega
  rw[za (by simp),za c,u4 hn,a0A,zT,zd,zc hn];rfl
theorem HZ{r:Int}(h0:0<=r)(hr:r<=5):ix m.Roots r=some (L3 m r):=by
 have:=yZ hx q hr;unfold U4 at this;rw[za (by simp;omega)] at this;cases g:ix m.Roots r with
 | none=>rw[g] at this;cases this
 | some v=>rw[g] at this;exact this
theorem ui{r:Int}(hr:r<=5):(L3 m r=0/\∃z,P2 m r=some (z,2))\/(L3 m r≠0/\sd x r∈lv x.S/\∃n,m.Nodes.find? (λn=>n.Serial==L3 m r)=some n/\n.Serial=L3 m r/\n.Fields=(ob x.S (sd x r)).Fields.map σ/\P2 m r=some (n,0)):=by
 unfold P2;rw[yZ hx q hr,a0A];by_cases c:L3 m r=0
 .rw[zb (by simpa using c)];exact .inl ⟨c,_,rfl⟩
 .rw[za (by simpa using c)];have hl:=(eP hx.sh r).resolve_left λe=>c ((q.oB hx r).2 e);obtain⟨hf,hfl⟩:=q.Jp hx hl;rw[<-q.said hx] at hf;obtain⟨k,hk,e1,e2⟩:=yW (q.bn hx.sh.sr) hf;rw[e2,a0A,u4 hk,a0A,e1];exact .inr ⟨c,hl,_,hf,(lP hf).1,hfl,rfl⟩
theorem Sz{k a b c:Int}(hc:y6 k a b c=0)(hk:k=2\/k=3\/k=4\/k=7\/k=9):∃v e,bU m ⟨k,a,b,c⟩=some (v,e) /\
  Y9 m ⟨k,a,b,c⟩=(if e≠0 then (m,0,e) else (dy m a.toNat v,v,0))/\(e=0->∃h,(h=0\/h∈lv x.S)/\v=σ h):=by
 have r6:=q.r6 hx;rcases hk with rfl | rfl | rfl | rfl | rfl
 .obtain⟨ha,hb⟩:=Nq hc;refine⟨L3 m b,0,?_,rfl,λ_=>⟨_,eP hx.sh b,q.said hx b⟩⟩;show ((ix m.Roots b).bind λv1=>some (v1,(0:Int)))=_;rw[HZ hx q (by omega) (by omega)];rfl
 .exact⟨0,0,rfl,rfl,λ_=>⟨0,.inl rfl,q.gd.z.symm⟩⟩
 .obtain⟨ha,hb,hcc⟩:=Vh hc;have hp:Y9 m ⟨4,a,b,c⟩=if L3 m b=0 then (m,0,2) else match m.Nodes.find? (λn=>n.Serial==L3 m b) with
   | none=>(m,0,2)
   | some n=>if ¬(0<=c/\c<n.Fields.length) then (m,0,5) else qZ m a (n.Fields.getD c.toNat 0) 0:=rfl
  have hm:bU m ⟨4,a,b,c⟩=(P2 m b).bind λv2=>if (v2.2 != 0) then some (0,v2.2) else (iW v2.1.Fields c).bind λv3=>some (v3.1,v3.2):=rfl
  rcases ui hx q (r:=b) (by omega) with ⟨h0,z,e⟩ | ⟨h0,hl,n,hn,hs,hf,e⟩
  .refine⟨0,2,?_,?_,λe=>absurd e (by decide)⟩;·rw[hm,e];rfl
   .rw[hp,zb h0];rfl
  .rw[za h0,hn] at hp;dsimp only at hp;rw[e,a0A,za (by simp),Vb,a0A] at hm;by_cases g:0<=c/\c<n.Fields.length
   .rw[za (λd=>d g)] at hp;rw[zb g] at hm;refine⟨n.Fields.getD c.toNat 0,0,hm,hp,λ_=>?_⟩;have hlen:c.toNat<(ob x.S (sd x b)).Fields.length:=by
     have:=g.2;rw[hf,zl] at this;omega
    refine⟨(ob x.S (sd x b)).Fields[c.toNat],hx.sh.fl _ hl _ (zh hlen),?_⟩;rw[hf,zd,zB,zc hlen];rfl
   .rw[zb g] at hp;rw[za g] at hm;exact⟨0,5,hm,hp,λe=>absurd e (by decide)⟩
 .obtain⟨ha,hb⟩:=Vj hc;obtain⟨n,rfl⟩:∃n:Nat,b=n:=⟨b.toNat,by omega⟩;have c6:=hx.sh.c6;have hnx:n<x.b7.length:=by omega
  have hn:n<m.b7.length:=by rw[q.ce,zl];exact hnx
  have hg:m.b7.getD n cz=m.b7[n]:=by rw[zd,zc hn];rfl
  have hp:Y9 m ⟨7,a,n,c⟩=if (m.b7.getD n cz).Target=0\/(m.b7.getD n cz).Intact=false then (m,0,9) else qZ m a (m.b7.getD n cz).Target 0:=rfl
  have hm:bU m ⟨7,a,n,c⟩=(cS m.b7 n).bind λv4=>some (v4.1,v4.2):=rfl;rw[hg] at hp;rw[Sp hn,a0A] at hm;by_cases g:m.b7[n].Target=0\/m.b7[n].Intact=false
  .rw[zb g] at hp hm;exact⟨0,9,hm,hp,λe=>absurd e (by decide)⟩
  .rw[za g] at hp hm;refine⟨_,0,hm,hp,λ_=>⟨x.b7[n].Target,.inr (((hx.sh.cl n hnx).2.2.2.2 ?_).1),?_⟩⟩
   .have:m.b7[n].Intact=x.b7[n].Intact:=by simp only[q.ce,t8];rfl
    rw[<-this];cases hi:m.b7[n].Intact with
    | true=>rfl
    | false=>exact absurd (.inr hi) g
   .simp only[q.ce,t8];rfl
 .obtain⟨ha,hb⟩:=Vl hc;have hp:Y9 m ⟨9,a,b,c⟩=if L3 m b=0 then (m,0,2) else match (m.Pairs.find? λp=>p.Key==L3 m b) with
   | none=>(m,0,9)
   | some p=>qZ m a p.Val 0:=rfl
  have hm:bU m ⟨9,a,b,c⟩=(P2 m b).bind λv5=>if (v5.2 != 0) then some (0,v5.2) else (P8 m v5.1.Serial).bind λv6=>if (decide ((v6.length:Int) > 0)) then (ix v6 0).bind λv7=>some (v7,0) else some (0,9):=rfl
  rcases ui hx q (r:=b) (by omega) with ⟨h0,z,e⟩ | ⟨h0,hl,n,hn,hs,hf,e⟩
  .refine⟨0,2,?_,?_,λe=>absurd e (by decide)⟩;·rw[hm,e];rfl
   .rw[hp,zb h0];rfl
  .rw[za h0,<-List.head?_filter] at hp;rw[e,a0A,za (by simp)] at hm;dsimp only at hm;rw[FW (q.bn hx.sh.sr) (q.bl hx.sh),a0A,hs] at hm;cases g:m.Pairs.filter λp=>p.Key==L3 m b with
   | nil=>
    rw[g] at hp hm;exact⟨0,9,hm,hp,λe=>absurd e (by decide)⟩
   | cons p l=>
    rw[g] at hp hm;have hin:p∈m.Pairs:=(zi.1 (g▸zg:p∈m.Pairs.filter λp=>p.Key==L3 m b)).1;obtain⟨k,v,hh,rfl⟩:=(q.p2 p).1 hin;refine⟨σ v,0,?_,hp,λ_=>⟨v,.inr (hx.sh.pr k v hh).2,rfl⟩⟩;rw[hm,zb (by simp)];rfl
end
theorem Fp{m:a8}{o:g9}{e:Int}(h:Y9 m o=(m,0,e))(he:e≠0):Bm m o=(m,0,e):=by
 unfold Bm;rw[h,zb he]
theorem BU{m mz:a8}{o:g9}{v:Int}(h:Y9 m o=(mz,v,0)):Bm m o=(kG mz,v,0):=by
 unfold Bm;rw[h,za (by simp)]
section
variable{σ:Int->Int}{x:Hp}{m:a8}(hx:K1 x)(q:p8 σ x m)
include hx q
theorem p8.PT(hz:Sh.zr x = []):kG m=m:=by
 have h1:sJ m=m:=CB (by rw[q.zr hx,hz];rfl);have:∀n,gC n m=m:=λn=>by
  induction n with
  | zero=>rfl
  | succ n ih=>rw[jD,ih,h1]
 exact this 100
theorem DD{o:g9}(P:kI σ x m o){W:Option (a8 × Int)}{s:Int}
  (h:W=some ((Y9 m o).1,(Y9 m o).2.2))(hv:(Y9 m o).2.2=0->(Y9 m o).2.1=s) :
  (W.bind λv1=>if (v1.2 != 0) then some (m,(⟨0,v1.2⟩:g7)) else (I3 v1.1).bind λv2=>some (v2,(⟨s,0⟩:g7)))=some ((Bm m o).1,⟨(Bm m o).2.1,(Bm m o).2.2⟩):=by
 rw[h,a0A];rcases P.r with ⟨e,he,hp,_⟩ | ⟨σ',z,mz,v,hp,hz,_,S,_,_,_⟩;·rw[Fp hp he,hp,zb (by simpa using he)]
 .rw[hp] at hv;rw[BU hp,hp,za (by simp),lT hz S,a0A,<-hv rfl]
theorem OA{a b c:Int}(hc:y6 5 a b c=0):jg m (L3 m c) ⟨5,a,b,c⟩=some ((Y9 m ⟨5,a,b,c⟩).1,(Y9 m ⟨5,a,b,c⟩).2.2):=by
 obtain⟨ha,hb,hcc⟩:=Vi hc;have hp:Y9 m ⟨5,a,b,c⟩=if L3 m a=0 then (m,0,2) else Bs m (L3 m a) b (L3 m c):=rfl
 have B:=q.bn hx.sh.sr;have C:=q.bl hx.sh;have hv:=q.Zs hx (eP hx.sh c);rw[<-q.said hx] at hv;unfold jg;dsimp only;rcases ui hx q (r:=a) (by omega) with ⟨h0,z,e⟩ | ⟨h0,hl,n,hn,hs,hf,e⟩;·rw[e,a0A,zb (by simp),hp,zb h0]
 .rw[e,a0A,za (by simp),hp,za h0];unfold Bs;rw[hn];dsimp only;have hfl:=B.fl n (lP hn).2;rw[TX (by omega),a0A];by_cases g:0<=b/\b<n.Fields.length
  .rw[zb g,za (by simp),za (λd=>d g),DC B C hv,a0A];have hn2:∃n',(fW m (L3 m c)).Nodes.find? (λk=>k.Serial==n.Serial)=some n':=by
    rw[hs];unfold fW;split
    .cases hh:(uW m (L3 m c)).Nodes.find? (λk=>k.Serial==L3 m a) with
     | some n'=>exact⟨n',rfl⟩
     | none=>
      exfalso;rw[zch] at hh;have hin:=(lP hn).2;have:(if n.Serial=L3 m c then uU n else n)∈(uW m (L3 m c)).Nodes:=by
       show _∈dF m.Nodes (L3 m c) uU;exact zcc hin
      have hse:(if n.Serial=L3 m c then uU n else n).Serial=L3 m a:=by
       split;·exact hs
       .exact hs
      exact hh _ this (ms.2 hse)
    .exact⟨n,hn⟩
   obtain⟨n',hn2⟩:=hn2;rw[Wb (B.fW _) hn2,a0A,hs]
  .rw[za g,zb (by simp),zb g]
theorem Wd{a b c:Int}(hc:y6 6 a b c=0):fH m (L3 m b) ⟨6,a,b,c⟩=some ((Y9 m ⟨6,a,b,c⟩).1,(Y9 m ⟨6,a,b,c⟩).2.2):=by
 obtain⟨ha,hb,hcc⟩:=RK hc;have hp:Y9 m ⟨6,a,b,c⟩=if 0<=b/\L3 m b=0 then (m,0,2) else if Sh.xe ⟨m.Tasks,30⟩ a=true then (m,0,7) else (MC m a.toNat (L3 m b) c,L3 m b,0):=rfl
 have B:=q.bn hx.sh.sr;have C:=q.bl hx.sh;have tl:=C.tl;have wl:=C.wl;have c6:m.b7.length=6:=by rw[q.ce,zl,hx.sh.c6]
 obtain⟨n,rfl⟩:∃n:Nat,a=n:=⟨a.toNat,by omega⟩;have hn:n<m.b7.length:=by omega
 unfold fH;dsimp only;by_cases g:0<=b/\L3 m b=0
 .rw[zb (by simp[g.1,g.2]),hp,zb g]
 .rw[za (by simpa using g),hp,za g,Aa,a0A,show aS (⟨m.Tasks,30⟩:g8) (n:Int)=some (Sh.xe ⟨m.Tasks,30⟩ n) from xX (q:=⟨m.Tasks,30⟩) (by show m.Tasks.length<=1000;omega),a0A];cases hw:Sh.xe ⟨m.Tasks,30⟩ (n:Int)
  .rw[za (by simp),za (by simp),GX (by omega) hn,a0A,za (by simp)];dsimp only;have hg:m.b7.getD n cz=m.b7[n]:=by rw[zd,zc hn];rfl
   rw[yX (m:=TW m (m.b7.set n (fV (L3 m b) c))) ⟨B.nl,B.up,B.fl,B.sg,B.gg,B.gl⟩ ⟨C.rl,by show (m.b7.set n _).length<=30;rw[zas];exact C.wl,C.pa,C.tl⟩,a0A,zT];unfold MC;rw[hg]
  .rw[zb rfl,zb rfl]
theorem Oz{a b c:Int}(hc:y6 8 a b c=0):jf m (L3 m b) ⟨8,a,b,c⟩=some ((Y9 m ⟨8,a,b,c⟩).1,(Y9 m ⟨8,a,b,c⟩).2.2):=by
 obtain⟨ha,hb⟩:=Vk hc;have hp:Y9 m ⟨8,a,b,c⟩=if L3 m a=0 then (m,0,2) else xr m (L3 m a) (L3 m b):=rfl
 have B:=q.bn hx.sh.sr;have C:=q.bl hx.sh;have pa:=C.pa;have hv:=q.Zs hx (eP hx.sh b);rw[<-q.said hx] at hv;unfold jf;dsimp only;rcases ui hx q (r:=a) (by omega) with ⟨h0,z,e⟩ | ⟨h0,hl,n,hn,hs,hf,e⟩;·rw[e,a0A,zb (by simp),hp,zb h0]
 .rw[e,a0A,za (by simp),hp,za h0];have hpk:D8 m.Pairs n=some (m.Pairs.filter λp=>p.Key != n.Serial):=by
   unfold D8;exact ld (P:=λp=>fF p n) (λp _=>rfl) (by omega) (by omega) (by omega)
  rw[hpk,a0A,hs];unfold xr;have hfl:=zA (λp:k7=>p.Key != L3 m a) m.Pairs;by_cases v0:L3 m b=0
  .rw[zb (by simpa using v0),za (λd=>d.1 v0),zb v0,zay];unfold fW;rw[za (λd=>d.1 v0)]
  .rw[za (by simpa using v0)];by_cases g:m.Places<=((m.Pairs.filter λp=>p.Key != L3 m a).length:Int)
   .rw[zb (by simpa using g),zb ⟨v0,g⟩]
   .rw[za (by simpa using g),za (λd=>g d.2),DC B C hv,a0A,Fa (by omega) (JT (m:=100) (by omega) (by omega) (by omega)),a0A,za v0]
theorem LQ(hS:SL x)(hb:x.S.Serial<9223372036854775807){a b c:Int}(hc:y6 1 a b c=0):dt m ⟨1,a,b,c⟩=some ((Bm m ⟨1,a,b,c⟩).1,⟨(Bm m ⟨1,a,b,c⟩).2.1,(Bm m ⟨1,a,b,c⟩).2.2⟩):=by
 obtain⟨ha,hbb,hcc⟩:=Vg hc;have hR:=hx.sh.sr;have B:=q.bn hR;have hp:Y9 m ⟨1,a,b,c⟩=if m.Slots.findIdx (· == 0)<m.Slots.length then (dy (Ic m (m.Slots.findIdx (· == 0)) b.toNat c) a.toNat (m.Serial+1),m.Serial+1,0) else (m,0,4):=rfl
 obtain⟨n,rfl⟩:∃n:Nat,b=n:=⟨b.toNat,by omega⟩;have gl:=B.gl;have nl:=B.nl;unfold dt;have hv:qL (⟨1,a,(n:Int),c⟩:g9).B=some (List.replicate n 0,0):=by
  unfold qL;rw[za (by simp;omega)];show ((mk 8 (n:Int) (0:Int)).bind _)=_;rw[kW (by omega) (by omega),a0A]
 rw[hv,a0A,za (by simp),VO (by omega),a0A];rcases OB hR hb n c with ⟨h,_⟩ | ⟨_,h,_⟩ | ⟨_,_,h,g⟩ | ⟨_,_,i,hF,g⟩;·exact absurd hbb h
 .exact absurd hcc h
 .have:=q.Uy hx h;rw[za this] at hp |-;rw[zb (by simp),Fp hp (by decide)]
 .obtain⟨hi,h0,_⟩:=id hF;have hsi:i<m.Slots.length:=by rw[q.Zx hx];exact hi
  have hn:n<=4:=by omega
  rw[q.fst hx hF,zb hsi] at hp |-;rw[zT] at hp;rw[BU hp,za (by simp)];have hs':=hR.bC;have hw:x4 (m.Serial+1)=m.Serial+1:=by rw[q.se];exact V3 (by omega) (by omega)
  have hc1:y7 m.Slots=some m.Slots:=cu (by omega) (JT (m:=30) (by omega) (by omega) (by omega));have hc2:r7 m.Nodes=some m.Nodes:=cu (by omega) (JT (m:=30) (by omega) (by omega) (by omega));rw[hc1,a0A,u4 hsi,a0A,hc2,a0A,hw,Fa (by omega) (JT (m:=100) (by omega) (by omega) (by omega)),a0A,zT];obtain⟨σ',S,e1⟩:=q.mk' hx hi h0 hn hcc;have hy:=Ad hx hi h0 hn hcc;have hh:cy x.S i=0\/cy x.S i∈lv (wS x (dI x.S i n c)).S:=.inr (by
   show _∈lv (dI x.S i n c);rw[Co hR hi h0 hn hcc];exact t7 _ (zn.2 rfl))
  have T:=FV hy S ha hh;rw[e1,<-q.se] at T;dsimp only;rw[show aN ⟨m.Nodes ++ [⟨m.Serial+1,i,c,false,true,false,List.replicate n 0⟩],m.Slots.set i (m.Serial+1),m.Gens,m.Last,m.Places,m.Serial+1,m.Roots,m.b7,m.Pairs,m.Tasks,m.Progs⟩ a (m.Serial+1)=_ from T,a0A]
theorem Wa(hS:SL x)(hz:zr x = [])(hb:x.S.Serial<9223372036854775807){o:g9}(hc:y6 o.Kind o.A o.B o.C=0)(hk:o.Kind<=10):bV m o=some ((Bm m o).1,⟨(Bm m o).2.1,(Bm m o).2.2⟩):=by
 have P:=vY hx q hS hz hb hc hk;obtain⟨k,a,b,c⟩:=o;dsimp only at hc hk;have:=ud hc;have asks:(k=2\/k=3\/k=4\/k=7\/k=9)->(0<=a/\a<=5)->bV m ⟨k,a,b,c⟩=((bU m ⟨k,a,b,c⟩).bind λv10=>if (v10.2 != 0) then some (m,(⟨0,v10.2⟩:g7)) else (aN m a v10.1).bind λv11=>some (v11.1,v11.2))->bV m ⟨k,a,b,c⟩=some ((Bm m ⟨k,a,b,c⟩).1,⟨(Bm m ⟨k,a,b,c⟩).2.1,(Bm m ⟨k,a,b,c⟩).2.2⟩):=λhk ha e=>by
  obtain⟨v,er,h1,h2,h3⟩:=Sz hx q hc hk;rw[e,h1,a0A];by_cases g:er=0
  .obtain⟨h,hh,rfl⟩:=h3 g;rw[za (by simp[g])] at h2 |-;dsimp only;rw[FV hx q ha hh,a0A,BU h2]
  .rw[zb g] at h2;rw[zb (by simpa using g),Fp h2 g]
 have hk:k=1\/k=2\/k=3\/k=4\/k=5\/k=6\/k=7\/k=8\/k=9\/k=10:=by omega
 rcases hk with rfl | rfl | rfl | rfl | rfl | rfl | rfl | rfl | rfl | rfl
 .show ((dt m ⟨1,a,b,c⟩).bind λv9=>some (v9.1,v9.2))=_;rw[LQ hx q hS hb hc];rfl
 .exact asks (by simp) (Nq hc).1 rfl
 .exact asks (by simp) (XT hc) rfl
 .exact asks (by simp) (Vh hc).1 rfl
 .show ((U4 m c).bind λv3=>(K9 m v3 ⟨5,a,b,c⟩).bind λv4=>some (v4.1,v4.2))=_;rw[yZ hx q (by have:=Vi hc;omega),a0A];unfold K9;rw[DD hx q P (OA hx q hc)];·rfl
  .show (if L3 m a=0 then (m,0,2) else Bs m (L3 m a) b (L3 m c)).2.2=0->(if L3 m a=0 then (m,0,2) else Bs m (L3 m a) b (L3 m c)).2.1=L3 m c;unfold Bs;split;·exact λe=>absurd (show (2:Int)=0 from e) (by decide)
   .split;·exact λe=>absurd (show (2:Int)=0 from e) (by decide)
    .split;·exact λe=>absurd (show (5:Int)=0 from e) (by decide)
     .exact λ_=>rfl
 .show ((U4 m b).bind λv3=>(J5 m v3 ⟨6,a,b,c⟩).bind λv4=>some (v4.1,v4.2))=_;rw[yZ hx q (by have:=RK hc;omega),a0A];unfold J5;rw[DD hx q P (Wd hx q hc)];·rfl
  .show (if 0<=b/\L3 m b=0 then (m,0,2) else if Sh.xe ⟨m.Tasks,30⟩ a=true then (m,0,7) else (MC m a.toNat (L3 m b) c,L3 m b,0)).2.2=0->(if 0<=b/\L3 m b=0 then (m,0,2) else if Sh.xe ⟨m.Tasks,30⟩ a=true then (m,0,7) else (MC m a.toNat (L3 m b) c,L3 m b,0)).2.1=L3 m b;split;·exact λe=>absurd (show (2:Int)=0 from e) (by decide)
   .split;·exact λe=>absurd (show (7:Int)=0 from e) (by decide)
    .exact λ_=>rfl
 .exact asks (by simp) (Vj hc).1 rfl
 .show ((U4 m b).bind λv3=>(K8 m v3 ⟨8,a,b,c⟩).bind λv4=>some (v4.1,v4.2))=_;rw[yZ hx q (by have:=Vk hc;omega),a0A];unfold K8;rw[DD hx q P (Oz hx q hc)];·rfl
  .show (if L3 m a=0 then (m,0,2) else xr m (L3 m a) (L3 m b)).2.2=0->(if L3 m a=0 then (m,0,2) else xr m (L3 m a) (L3 m b)).2.1=L3 m b;unfold xr;split;·exact λe=>absurd (show (2:Int)=0 from e) (by decide)
   .split;·exact λe=>absurd (show (8:Int)=0 from e) (by decide)
    .exact λ_=>rfl
 .exact asks (by simp) (Vl hc).1 rfl
 .obtain⟨ha,hb⟩:=Uk hc;have hp:Y9 m ⟨10,a,b,c⟩=(m,if L3 m a=L3 m b then 1 else 0,0):=rfl;show ((ix m.Roots a).bind λv1=>(ix m.Roots b).bind λv2=>if (v1==v2) then some (m,(⟨1,0⟩:g7)) else some (m,(⟨0,0⟩:g7)))=_;rw[HZ hx q ha.1 ha.2,a0A,HZ hx q hb.1 hb.2,a0A,BU hp,q.PT hx hz];by_cases g:L3 m a=L3 m b
  .rw[zb (by simpa using g),zb g]
  .rw[za (by simpa using g),za g]
theorem p8.jv(hS:SL x)(hz:Sh.zr x = [])(hb:x.S.Serial<9223372036854775807){o:g9}(hc:y6 o.Kind o.A o.B o.C=0)(hk:o.Kind<=10):(∃σ',p8 σ' (Sh.jv x o).1 (Bm m o).1)/\(Bm m o).2=(Sh.jv x o).2:=by
 rcases (vY hx q hS hz hb hc hk).r with ⟨e,he,hp,hd⟩ | ⟨σ',z,mz,v,hp,hzr,_,S,hd,_,_⟩;·rw[Fp hp he,hd];exact⟨⟨σ,q⟩,rfl⟩
 .rw[BU hp,hd];have S2:=S.bN hzr;generalize Sh.bN z=y at S2 |-;generalize kG mz=my at S2 |-;exact⟨⟨σ',S2⟩,rfl⟩
end
def Um(m:a8):Prop:=∀c∈m.b7,∀n∈m.Nodes,n.Alive=true->n.Serial=c.Target->c.Intact=true
def NS(l l':List b8):Prop:=∀n'∈l',n'.Alive=true->∃n∈l,n.Alive=true/\n.Serial=n'.Serial
theorem NS.refl(l:List b8):NS l l:=λn h a=>⟨n,h,a,rfl⟩
theorem NS.trans{a b c:List b8}(h:NS a b)(k:NS b c):NS a c:=λn hn ha=>by
 obtain⟨n1,h1,a1,e1'⟩:=k n hn ha;obtain⟨n2,h2,a2,e2'⟩:=h n1 h1 a1;exact⟨n2,h2,a2,e2'.trans e1'⟩
theorem NS.dF(l:List b8)(s:Int){f:b8->b8}(hf:∀n,(f n).Serial=n.Serial/\((f n).Alive=true->n.Alive=true)):NS l (Sh.dF l s f):=λn' hn ha=>by
 obtain⟨n,h,rfl⟩:=zq.1 hn;by_cases c:n.Serial=s
 .rw[zb c] at ha |-;exact⟨n,h,(hf n).2 ha,(hf n).1.symm⟩
 .rw[za c] at ha |-;exact⟨n,h,ha,rfl⟩
theorem NS.fW(m:a8)(s:Int):NS m.Nodes (Sh.fW m s).Nodes:=by
 unfold Sh.fW;split;·exact NS.dF _ _ λn=>⟨rfl,id⟩
 .exact NS.refl _
theorem NS.Fc(m:a8)(s:Int):NS m.Nodes (Sh.Fc m s).Nodes:=by
 unfold Sh.Fc;split;·exact NS.refl _
 .split;·exact NS.refl _
  .exact λn hn ha=>⟨n,(zi.1 hn).1,ha,rfl⟩
theorem Lo(m:a8)(s:Int):(Fc m s).b7=m.b7:=by
 unfold Fc;split;·rfl
 .split <;> rfl
theorem Um.of{m m':a8}(h:Um m)(hc:m'.b7=m.b7)(hn:NS m.Nodes m'.Nodes):Um m':=λc hcm n' hn' ha e=>by
 obtain⟨n,h1,h2,h3⟩:=hn n' hn' ha;rw[hc] at hcm;exact h c hcm n h1 h2 (h3.trans e)
theorem qp(m:a8)(s:Int):(fW m s).b7=m.b7:=by rw[aU]
theorem Um.Zw{m:a8}(h:Um m)(r:Nat)(s:Int):Um (dy m r s):=h.of (show (fW m s).b7=_ from qp m s) (NS.fW m s)
theorem Um.sta{m:a8}(h:Um m)(s:Int):Um (qc m s):=h.of (show (fW m s).b7=_ from qp m s) ((NS.fW m s).trans (NS.dF _ _ λn=>⟨rfl,id⟩))
theorem Um.a0h{l:List Int}:∀ {m:a8},Um m->Um (l.foldl qc m):=by
 induction l with
 | nil=>exact λh=>h
 | cons s l ih=>exact λh=>ih (h.sta s)
theorem VV(m:a8)(s:Int):NS m.Nodes (rz m s).Nodes/\∀n∈(rz m s).Nodes,n.Alive=true->n.Serial≠s:=by
 refine⟨(NS.dF m.Nodes s (f:=lM) λn=>⟨rfl,λh=>by cases h⟩).trans (NS.Fc (ye m (dF m.Nodes s lM)) s),λn hn ha e=>?_⟩;have:NS (dF m.Nodes s lM) (rz m s).Nodes:=NS.Fc (ye m (dF m.Nodes s lM)) s;obtain⟨n1,h1,a1,e1'⟩:=this n hn ha;obtain⟨n2,h2,rfl⟩:=zq.1 h1;by_cases c:n2.Serial=s
 .rw[zb c] at a1;cases a1
 .rw[za c] at e1';exact c (e1'.trans e)
theorem JR:∀(S:List Int) (m:a8),NS m.Nodes (S.foldl rz m).Nodes/\(∀n∈(S.foldl rz m).Nodes,n.Alive=true->n.Serial∉S)/\(S.foldl rz m).b7=m.b7
 | [],m=>⟨NS.refl _,λ_ _ _=>by simp,rfl⟩
 | s::S,m=>by
  obtain⟨a,b,c⟩:=JR S (rz m s);obtain⟨k1,k2⟩:=VV m s;rw[pm];refine⟨k1.trans a,λn hn ha h=>?_,c.trans (yT m s).2.1⟩;rcases zM.1 h with e | e
  .obtain⟨n1,h1,a1,e1'⟩:=a n hn ha;exact k2 n1 h1 a1 (e1'.trans e)
  .exact b n hn ha e
theorem Um.bur{m:a8}(h:Um m)(S:List Int):Um (yo m S):=λc hc n hn ha e=>by
 obtain⟨a,b,c'⟩:=JR S (Xw (GS (TW m (lJ m.b7 S)) (m.Tasks++jJ m.b7 S)) (m.Pairs.filter λp=>decide (p.Key∉S)));have hc:c∈lJ m.b7 S:=by rw[<-show (yo m S).b7=lJ m.b7 S from c'];exact hc
 obtain⟨d,hd,rfl⟩:=zq.1 hc;rw[(oZ S d).1] at e;obtain⟨n1,h1,a1,e1'⟩:=a n hn ha;have hi:=h d hd n1 h1 a1 (e1'.trans e);refine (oZ S d).2.2.2 ⟨hi,?_⟩;unfold jd;have:d.Target∉S:=λk=>b n hn ha (e▸k);simp[this]
theorem Um.kG{m:a8}(h:Um m):Um (kG m):=by
 have h1:∀m:a8,Um m->Um (sJ m):=λm h=>by
  unfold sJ;split;·exact h
  .split;·exact h.sta _
   .exact h.bur _
 have:∀n,Um (gC n m):=λn=>by
  induction n with
  | zero=>exact h
  | succ n ih=>rw[jD];exact h1 _ ih
 exact this 100
section
variable{σ:Int->Int}{x:Hp}{m:a8}(hx:K1 x)(q:p8 σ x m)
include hx q
theorem Um.wk(h:Um m)(w:Nat)(s call:Int):Um (MC m w s call):=by
 unfold MC;have h1:Um (TW m (m.b7.set w (fV s call))):=λc hc n hn ha e=>by
  rcases zan hc with k | k
  .exact h c k n hn ha e
  .subst k;have:=(q.nd.pos hx.sh.sr hn).1;have e:n.Serial=s:=e;show (s != 0)=true;have:s≠0:=by omega
   simpa using this
 exact h1.of (Lo _ _) (NS.Fc _ _)
theorem Um.new(h:Um m)(i n:Nat)(p:Int):Um (Ic m i n p):=λc hc k hk ha e=>by
 rcases zu.1 hk with k1 | k1
 .exact h c hc k k1 ha e
 .exfalso;rw[zn] at k1;subst k1;have e:m.Serial+1=c.Target:=e;have hc:c∈x.b7.map (wx σ):=by rw[<-q.ce];exact hc
  obtain⟨d,hd,rfl⟩:=zq.1 hc;have e:m.Serial+1=σ d.Target:=e;have hs:=hx.sh.sr.bC;have hse:=q.se;rcases lI hx.sh hd with z | ⟨j,a⟩
  .rw[z,q.gd.z] at e;omega
  .rw[q.gd.f _ j a] at e;have:=(hx.sh.sr.ok j a.1 a.2.1).s2;omega
theorem Um.trn(h:Um m)(a s e:Int):Um (qZ m a s e).1:=by
 unfold qZ;split;·exact h
 .exact h.Zw _ _
omit hx q in
theorem eT {c:Prop} [Decidable c] {a b:a8 × Int × Int} (ha:Um a.1) (hb:Um b.1):Um (if c then a else b).1:=by
 by_cases k:c
 .rw[zb k];exact ha
 .rw[za k];exact hb
theorem Um.XF(h:Um m)(s k v:Int):Um (Bs m s k v).1:=by
 unfold Bs;split;·exact h
 .exact eT h (h.of (show (fW m v).b7=_ from qp m v) ((NS.fW m v).trans (NS.dF _ _ λn=>⟨rfl,id⟩)))
theorem Um.XJ(h:Um m)(s v:Int):Um (xr m s v).1:=eT h (h.of (show (fW m v).b7=_ from qp m v) (NS.fW m v))
theorem Um.pre(h:Um m)(o:g9):Um (Y9 m o).1:=by
 have t:=λa s e=>h.trn hx q a s e;refine eT h (eT (eT h (h.XF hx q _ _ _)) (eT (eT h (eT h (h.wk hx q _ _ _))) (eT (eT h (h.XJ hx q _ _)) (eT (eT ((h.new hx q _ _ _).Zw _ _) h) (eT (t _ _ _) (eT (eT h ?_) (eT (eT h (t _ _ _)) (eT (eT h ?_) (t _ _ _)))))))))
 .split;·exact h
  .exact eT h (t _ _ _)
 .split;·exact h
  .exact t _ _ _
theorem Um.do(h:Um m)(o:g9):Um (Bm m o).1:=by
 have hp:=h.pre hx q o;unfold Bm;generalize Y9 m o=r at hp |-;by_cases k:r.2.2≠0
 .rw[zb k];exact h
 .rw[za k];have h2:=hp.kG;generalize Sh.kG r.1=M at h2 |-;exact h2
end
noncomputable def Vn(σ:Int->Int)(x:Hp)(m:a8):a8:=if jI x = [] then kG (yo m ((dH x).map σ)) else ((jI x).map σ).foldl qc m
theorem FU{σ:Int->Int}{x:Hp}{m:a8}(hx:K1 x)(hS:SL x)(hz:Sh.zr x = [])(q:p8 σ x m):∃m',dJ m=some (m',⟨No x-((jI x).length:Int),0⟩)/\p8 σ (Be x) m'/\m'.Progs=m.Progs/\(Um m->Um m')/\m'=Vn σ x m:=by
 have hR:=hx.sh.sr;have B:=q.bn hR;have C:=q.bl hx.sh;obtain⟨mp,h1,h2⟩:=LS (λs r=>Ts hx q r) B C (λn hn=>by have:=q.nd.pos hR hn;omega) (λp hp=>by
  obtain⟨k,v,hh,rfl⟩:=(q.p2 p).1 hp;have:=q.gd.ps hR (hx.sh.pr k v hh).1;show σ k≠0;omega)
 have hgl:(dH x).length<=24:=zN (ai (fe hx) (cZ hx)) (N3 (A3.2 hR));have hbl:(jI x).length<=24:=zN (zA ..) hgl;have hbs:J8 ((jI x).map λh=>Sh.nd σ x.S (E3 h))=some ((jI x).map σ):=by
  rw[vI (by rw[zl];omega),JZ hx q λh hh=>(mY h hh).1]
 have hgs:J8 ((dH x).map λh=>Sh.nd σ x.S (E3 h))=some ((dH x).map σ):=by
  rw[vI (by rw[zl];omega),JZ hx q (cZ hx)]
 have hpo:D9 ((dH x).map λh=>Sh.nd σ x.S (E3 h))=some ((jI x).map λh=>Sh.nd σ x.S (E3 h)):=by
  unfold D9;rw[<-Lq hx q];exact ld (λn _=>rfl) (by omega) (by omega) (by rw[zl];omega)
 have QL:=p8.quL hx hS hz q (yn hx) mY (jI x).length (zG _);rw[zR] at QL;unfold dJ;rw[h1,a0A,LR hx q h2,a0A,hpo,a0A,hbs,a0A];by_cases hb:jI x = []
 .have hcol:Be x=gY x (dH x):=by unfold Be;rw[zb hb]
  have Qb:=q.gY hx (fe hx) (cZ hx) (FF hx q);have hrb:=eF hx;have Qs:=Qb.bN hrb;rw[yG hx,<-hcol] at Qs;refine⟨_,?_,Qs,by rw[xV,Js],λh=>(h.bur _).kG,by unfold Vn;rw[zb hb]⟩;refine (AI hx hS hz q hbl (yn hx) mY).trans ?_;simp only[];have hv:No x-((jI x).length:Int)=x4 (((TF x).length:Int)-((TF (Be x)).length:Int)):=by
   have l1:(lv x.S).length<=24:=N3 (A3.2 hR);have l2:(lv (Be x).S).length<=24:=by rw[hcol];exact N3 (A3.2 hrb.sh.sr)
   unfold No;rw[zb hb,hb,Qa,Qa,wz (by omega) (by omega)];simp
  rw[hb,List.map_nil,List.foldl_nil,za (by simp),hgs,a0A,FT hx q (fe hx) (cZ hx) (FF hx q),a0A,lT hrb Qb,a0A,JX hR q,a0A,JX (by rw[hcol];exact hrb.sh.sr) Qs,a0A];rw[hb] at hv;rw[<-hv]
 .have hcol:Be x=(jI x).foldl gT x:=by unfold Be;rw[za hb]
  refine⟨_,?_,by rw[hcol];exact QL,TH _ _,λh=>h.a0h,by unfold Vn;rw[za hb]⟩;refine (AI hx hS hz q hbl (yn hx) mY).trans ?_;have hpos:0<(jI x).length:=List.length_pos_iff.2 hb;simp only[];rw[zb (by rw[zl];simpa using hpos),zl,wz (by omega) (by omega)];unfold No;rw[za hb]
def Pg(ps:List (List g9)):Prop:=Mp ps/\∀p∈ps,∀o∈p,y6 o.Kind o.A o.B o.C=0/\o.Kind<=10
theorem YJ{l:List (List g9)}(h:fJ l=true):Pg l:=by
 unfold fJ at h;rw[zy,zf] at h;have key:∀p∈l,p.length<=6/\∀o∈p,pJ o=true:=λp hp=>by
  have:=h.2 p hp;unfold uD at this;rw[zy,zC,zf] at this;exact this
 refine⟨λp hp=>(key p hp).1,λp hp o ho=>?_⟩;have:=(key p hp).2 o ho;unfold pJ at this;simp only[zy,zC,ms] at this;exact⟨this.2,this.1.2⟩
theorem Pg.Gl{ps:List (List g9)}(h:Pg ps)(n:Int):∀o∈Sh.Gl ps n,y6 o.Kind o.A o.B o.C=0/\o.Kind<=10:=by
 intro o ho;unfold Sh.Gl at ho;split at ho;·cases ho
 .rename_i c;have hk:n.toNat<ps.length:=by omega
  rw[zd,zc hk] at ho;exact h.2 _ (zh hk) o ho
theorem p8.vk{σ:Int->Int}{x:Hp}{m:a8}(q:p8 σ x m)(ts:List g5):p8 σ (Sh.vk x ts) (GS m (ts.map (tx σ))):=
 ⟨q.gd,q.nd,q.sl,q.ge,q.la,q.npl,q.se,q.ro,q.ce,q.p1,q.p2,rfl⟩
def sN(ps:List (List g9))(x:Hp)(m:a8):Prop:=(∃σ,p8 σ x m)/\m.Progs=ps/\Um m
section
variable{ps:List (List g9)}{x:Hp}{m:a8}(hx:Oh x)(g:sN ps x m)
include hx g
theorem JJ(hb:x.S.Serial<9223372036854775807){o:g9}(hc:y6 o.Kind o.A o.B o.C=0)(hk:o.Kind<=10):∃m',bV m o=some (m',⟨(jv x o).2.1,(jv x o).2.2⟩)/\sN ps (jv x o).1 m':=by
 obtain⟨⟨σ,q⟩,hp,hu⟩:=g;obtain⟨S,e⟩:=q.jv hx.rt hx.sl hx.zr hb hc hk;refine⟨(Bm m o).1,?_,S,?_,hu.do hx.rt q o⟩;·rw[Wa hx.rt q hx.sl hx.zr hb hc hk,e]
 .rcases (vY hx.rt q hx.sl hx.zr hb hc hk).r with ⟨e,he,hp',_⟩ | ⟨σ',z,mz,v,hp',_,_,_,_,hpr,_⟩;·rw[Fp hp' he];exact hp
  .rw[BU hp'];show (kG mz).Progs=ps;rw[xV,hpr,hp]
theorem VD{l:List g9}(hl:∀o∈l,y6 o.Kind o.A o.B o.C=0/\o.Kind<=10)(hl2:l.length<=1000)(hb:x.S.Serial+l.length<9223372036854775807):∃m',jx m l=some m'/\sN ps (runs x l).1 m':=by
 have all:=AA hx.rt hx.sl hx.zr l hb (λ_=>True) trivial (λ_ _ _ _ _ _=>trivial);unfold jx;simp only[jn];obtain⟨e,h1,h2⟩:∃e,lp (S:=Int × a8) (E:=a8) (λ((s11,s12):Int × a8)=>
   if (decide (s11<(l.length:Int))) then
    (ix l s11).bind λv15=>
    (bV s12 v15).bind λv16=>
    some (.inl (x4 (s11+1),v16.1))
   else
   some (.inr s12)) (0,m)=some e/\sN ps (runs x l).1 e:=by
  refine iM l.length (λk t=>sN ps (runs x (l.take k)).1 t) (λe=>sN ps (runs x l).1 e) (by omega) g (λk t hk hP=>?_) (λt hP=>⟨t,?_,?_⟩)
  .obtain⟨a1,a2,a3,a4,a5,_⟩:=all k (by omega);obtain⟨hc,hk'⟩:=hl _ (zh hk);obtain⟨m',e1',e2'⟩:=JJ ⟨a1,a2,a3⟩ hP (by omega) hc hk';refine .inl ⟨m',?_,?_⟩
   .dsimp only;rw[zb (by simpa using hk),u4 hk,a0A,e1',a0A,n9 (n:=k) (by omega)]
   .rw[O4 hk,qF];exact e2'
  .dsimp only;rw[za (by simp)]
  .rw[zR] at hP;exact hP
 exact⟨e,by rw[h1];rfl,h2⟩
theorem RY(hg:Pg ps){t:g5}{ts:List g5}(hq:x.Q.L=t::ts)(hb:x.S.Serial<8000000000000000000):∃u us,m.Tasks=u::us/\u.Prog=t.Prog/\∃m',dw m u=some m'/\sN ps (Lx ps x t ts) m':=by
 obtain⟨⟨σ,q⟩,hp,hu⟩:=g;have hR:=hx.rt.sh.sr;have htk:m.Tasks=tx σ t::ts.map (tx σ):=by rw[q.tk,hq,zQ]
 have hl6:=DP hg.1 t.Prog;have hpr:(tx σ t).Prog=t.Prog:=by unfold tx;split <;> rfl
 have hkd:(tx σ t).Kind=t.Kind:=by
  unfold tx;split;·rename_i h;exact h.symm
  .rfl
 refine⟨_,_,htk,hpr,?_⟩;have pok:=Io hx hq;have pse:=DO hx hq;obtain⟨rok,_,rse⟩:=DY hx hq ps (by omega);have hnx:∀M:a8,M.Tasks=tx σ t::ts.map (tx σ)->bo (⟨M.Tasks,30⟩:g8)=some (⟨ts.map (tx σ),30⟩,tx σ t,0):=λM h=>by
  rw[AJ,h];rfl
 have run:∀M,sN ps (pre x t ts) M->∃M',((dS M.Progs (tx σ t).Prog).bind λv9=>jx M v9)=some M'/\sN ps (WQ ps x t ts) M':=λM hM=>by
  rw[vZ,a0A,hM.2.1,hpr];exact VD pok hM (hg.Gl t.Prog) (by omega) (by omega)
 unfold dw;simp only[jn];by_cases hk:t.Kind=1
 .have hk':(tx σ t).Kind=1:=by rw[hkd];exact hk
  have hat:(tx σ t).At=σ t.At:=by unfold tx;rw[zb hk]
  obtain⟨hl,_⟩:=HQ hx.rt hq hk;have hfr:=lO hx.rt hq hk;have r6:=q.r6 hx.rt;have kb:((tx σ t).Kind==1)=true:=by simp[hk']
  simp only[kb,we];rw[hat,show W3 m 5 (σ t.At)=some (dy m 5 (σ t.At)) from yY (q.bn hR) (q.bl hx.rt.sh) (q.Zs hx.rt (.inr hl)) (r:=5) (by omega),a0A,Aa,a0A,hnx (dy m 5 (σ t.At)) (by
   show (fW m (σ t.At)).Tasks=_;rw[aU];exact htk),a0A]
  dsimp only;have S0:=(q.vk ts).UB (Et hx.rt hq) (r:=5) (h:=t.At) (k:=EH m (σ t.At)) (.inr hl) λhl' hs=>by
   have:=hx.rt.fair t.At hl hs;rw[J0] at this;rw[q.mb hx.rt.sh hl];exact this
  have S1:p8 σ (G9 (Sh.vk x ts) 5 t.At) (GS (dy m 5 (σ t.At)) (ts.map (tx σ))):=by
   have e:GS (dy m 5 (σ t.At)) (ts.map (tx σ))=Zy (if σ t.At≠0/\11<=EH m (σ t.At) then uW (GS m (ts.map (tx σ))) (σ t.At) else GS m (ts.map (tx σ))) (m.Roots.set 5 (σ t.At)):=by
    unfold dy fW;split <;> rfl
   rw[e];exact S0
  have S2:p8 σ (xk x ts t.At) (GS (dy m 5 (σ t.At)) (ts.map (tx σ))):=S1.QC (dx (x:=Sh.vk x ts) hx.rt.sh.sr 5 t.At).sr t.At;rw[show I3 ⟨(dy m 5 (σ t.At)).Nodes,(dy m 5 (σ t.At)).Slots,(dy m 5 (σ t.At)).Gens,(dy m 5 (σ t.At)).Last,(dy m 5 (σ t.At)).Places,(dy m 5 (σ t.At)).Serial,(dy m 5 (σ t.At)).Roots,(dy m 5 (σ t.At)).b7,(dy m 5 (σ t.At)).Pairs,ts.map (tx σ),(dy m 5 (σ t.At)).Progs⟩=_ from lT hfr S2,a0A];have G1:sN ps (pre x t ts) (kG (GS (dy m 5 (σ t.At)) (ts.map (tx σ)))):=by
   have hu2:Um (GS (dy m 5 (σ t.At)) (ts.map (tx σ))):=(hu.Zw 5 (σ t.At)).of rfl (NS.refl _);refine⟨⟨σ,?_⟩,?_,hu2.kG⟩;·unfold pre;rw[zb hk];exact S2.bN hfr
   .rw[xV];show (fW m (σ t.At)).Progs=ps;rw[aU];exact hp
  obtain⟨M',h1,⟨σ',S3⟩,h3,hu3⟩:=run _ G1;rw[vZ,a0A] at h1 |-;rw[h1,a0A];have rr:=bZ rok.rt (r:=5) (by decide) (h:=0) (.inl rfl);have S4:=S3.G9 (r:=5) rok.rt.sh rok.rt.fair (.inl rfl);rw[S3.gd.z] at S4;have r6':=S3.r6 rok.rt;rw[show W3 M' 5 0=some (dy M' 5 0) from yY (S3.bn rok.rt.sh.sr) (S3.bl rok.rt.sh) (.inl rfl) (r:=5) (by omega),a0A,lT rr S4,a0A];refine⟨_,rfl,⟨σ',?_⟩,?_,(hu3.Zw 5 0).kG⟩;·unfold Lx;rw[zb hk];exact S4.bN rr
  .rw[xV];show (fW M' 0).Progs=ps;rw[aU];exact h3
 .have kb:((tx σ t).Kind==1)=false:=by rw[hkd];simp[hk]
  simp only[kb,zD,q9];rw[Aa,a0A,hnx m htk,a0A];dsimp only;have G1:sN ps (pre x t ts) (GS m (ts.map (tx σ))):=by
   refine⟨⟨σ,?_⟩,hp,hu.of rfl (NS.refl _)⟩;unfold pre;rw[za hk];exact q.vk ts
  obtain⟨M',h1,h2⟩:=run _ G1;rw[vZ,a0A] at h1 |-;rw[show jx ⟨m.Nodes,m.Slots,m.Gens,m.Last,m.Places,m.Serial,m.Roots,m.b7,m.Pairs,ts.map (tx σ),m.Progs⟩ _=_ from h1,a0A];refine⟨_,rfl,?_⟩;unfold Lx;rw[za hk];exact h2
end
section
variable{ps:List (List g9)}{x:Hp}{m:a8}(hx:Oh x)(g:sN ps x m)(hg:Pg ps)
include hx g hg
theorem HW{f:Int}(hf:0<=f)(hf2:f<=1000000)(hb:x.S.Serial<7900000000000000000):∃m',gR m f=some (m',⟨(dn ps (x,f):Int),Uq (dr ps (x,f))⟩)/\sN ps (dr ps (x,f)).1 m':=by
 obtain⟨a1,a2,a3⟩:=JA ps (p:=(x,f)) hf;have all:=CY ps (p:=(x,f)) hx hf (by show x.S.Serial+f<_;omega);dsimp only at a1;unfold gR;simp only[jn];obtain⟨e,h1,h2⟩:∃e,lp (S:=Int × Int × a8) (E:=(a8 × g7) ⊕ (Int × a8)) (λ((s15,s16,s17):Int × Int × a8)=>
   if (decide ((s17.Tasks.length:Int) > 0)) then
    (ix s17.Tasks 0).bind λv20=>
    (bR s17.Progs v20).bind λv21=>
    if (decide (v21 > s15)) then
     some (.inr (.inl (s17,(⟨s16,12⟩:g7))))
    else
    (dw s17 v20).bind λv22=>
    some (.inl (x4 (s15-v21),x4 (s16+1),v22))
   else
   some (.inr (.inr (s16,s17)))) (f,0,m)=some e/\∃m',sN ps (dr ps (x,f)).1 m'/\((e = .inl (m',⟨(dn ps (x,f):Int),12⟩)/\Uq (dr ps (x,f))=12)\/(e = .inr ((dn ps (x,f):Int),m')/\Uq (dr ps (x,f))=0)):=by
  refine vG (λs=>∃k:Nat,k<=dn ps (x,f)/\s.1=(dN ps k (x,f)).2/\s.2.1=(k:Int)/\sN ps (dN ps k (x,f)).1 s.2.2) _ (λs=>dn ps (x,f)-s.2.1.toNat) ⟨0,zX _,rfl,rfl,g⟩ (by show dn ps (x,f)-_<_;omega) ?_;rintro⟨s1,s2,M⟩ ⟨k,hk,e1',e2',G⟩;dsimp only at e1' e2' G;subst e1' e2';obtain⟨b1,b2,b3,b4⟩:=all k;dsimp only at b2 b3 b4;obtain⟨⟨σ,q⟩,hp,_⟩:=id G;have hlen:M.Tasks.length=(dN ps k (x,f)).1.Q.L.length:=by rw[q.tk,zl]
  rcases zF k (dn ps (x,f)) with c | c
  .obtain⟨t,ts,e,cc⟩:=a3 k c;left;obtain⟨u,us,hu,hup,M',h3,h4⟩:=RY b1 G hg e (by omega);have hc:=tu ps t;have hcs:BT ps u=BT ps t:=by unfold BT;rw[hup]
   refine⟨((dN ps (k+1) (x,f)).2,((k+1:Nat):Int),M'),?_,⟨k+1,c,rfl,rfl,?_⟩,by show _-_<_-_;dsimp only;omega⟩
   .dsimp only;rw[zb (by rw[hlen,e];simp),hu];show ((bR M.Progs u).bind _)=_;rw[hp,xJ hg.1,a0A,hcs,za (by simp;omega),h3,a0A,V3 (by omega) (by omega),n9,tv,pH ps e,zb cc]
   .dsimp only;rw[tv,pH ps e,zb cc];exact h4
  .have hkk:k=dn ps (x,f):=by omega
   subst hkk;right;cases e:(dN ps (dn ps (x,f)) (x,f)).1.Q.L with
   | nil=>
    refine⟨_,?_,M,G,.inr ⟨rfl,?_⟩⟩
    .dsimp only;rw[za (by rw[hlen,e];simp)]
    .unfold Uq dr;rw[e];rfl
   | cons t ts=>
    have hc:¬BT ps t<=(dN ps (dn ps (x,f)) (x,f)).2:=λq=>a2 ((Fe ps e).2 q);have htk:M.Tasks=tx σ t::ts.map (tx σ):=by rw[q.tk,e,zQ]
    have hpr:(tx σ t).Prog=t.Prog:=by unfold tx;split <;> rfl
    have hcs:BT ps (tx σ t)=BT ps t:=by unfold BT;rw[hpr]
    refine⟨_,?_,M,G,.inl ⟨rfl,?_⟩⟩
    .dsimp only;rw[zb (by rw[hlen,e];simp),htk];show ((bR M.Progs (tx σ t)).bind _)=_;rw[hp,xJ hg.1,a0A,hcs,zb (by simp;omega)]
    .unfold Uq dr;rw[e];rfl
 obtain⟨m',h3,⟨rfl,h5⟩ | ⟨rfl,h5⟩⟩:=h2;·exact⟨m',by rw[h1,h5];rfl,h3⟩
 .exact⟨m',by rw[h1,h5];rfl,h3⟩
theorem NY(hb:x.S.Serial<7000000000000000000)(row:List Int):∃m',lX m row=some (m',⟨(er ps x row).2.1,(er ps x row).2.2⟩)/\sN ps (er ps x row).1 m':=by
 unfold lX;rw[(Fo row).1,a0A];by_cases h:(bQ row).2=0
 .have hc:=Da h;have he:er ps x row=eo ps x (bQ row).1:=by unfold er;rw[za (λc=>c h)]
  rw[za (by simpa using h),he];unfold eo;by_cases h11:(bQ row).1.Kind=11
  .rw[zb (by simpa using h11),zb h11];obtain⟨⟨σ,q⟩,hp,hu⟩:=g;obtain⟨m',k1,k2,k3,k4,_⟩:=FU hx.rt hx.sl hx.zr q;rw[k1,a0A];exact⟨m',rfl,⟨σ,k2⟩,by rw[k3,hp],k4 hu⟩
  .rw[za (by simpa using h11),za h11];by_cases h12:(bQ row).1.Kind=12
   .rw[zb (by simpa using h12),zb h12];rw[h12] at hc;have:=Np hc;obtain⟨m',k1,k2⟩:=HW hx g hg (f:=(bQ row).1.A) (by omega) (by omega) (by omega);rw[k1,a0A];exact⟨m',rfl,k2⟩
   .rw[za (by simpa using h12),za h12];have:=ud hc;obtain⟨m',k1,k2⟩:=JJ hx g (by omega) hc (by omega);rw[k1,a0A];exact⟨m',rfl,k2⟩
 .have he:er ps x row=(x,0,(bQ row).2):=by unfold er;rw[zb h]
  rw[zb (by simpa using h),he];exact⟨m,rfl,g⟩
def Ug(p:Int × Int):g7:=⟨p.1,p.2⟩
theorem NZ{rows:List (List Int)}(hl:rows.length<=1000)(hb:x.S.Serial<1000000000000):∃m',N9 m rows=some (m',(iA ps x rows).2.map Ug)/\sN ps (iA ps x rows).1 m':=by
 unfold N9;simp only[jn];obtain⟨e,h1,h2⟩:∃e,lp (S:=Int × a8 × (List g7)) (E:=(a8 × (List g7))) (λ((s15,s16,s17):Int × a8 × (List g7))=>
   if (decide (s15<(rows.length:Int))) then
    (ix rows s15).bind λv20=>
    (lX s16 v20).bind λv21=>
    (app 16 s17 [v21.2]).bind λv22=>
    some (.inl (x4 (s15+1),v21.1,v22))
   else
   some (.inr (s16,s17))) (0,m,[])=some e/\(e.2=(iA ps x rows).2.map Ug/\sN ps (iA ps x rows).1 e.1):=by
  refine iM (T:=a8 × List g7) rows.length (λk t=>t.2=(iA ps x (rows.take k)).2.map Ug/\sN ps (iA ps x (rows.take k)).1 t.1) _ (by omega) ⟨rfl,g⟩ (λk t hk hP=>?_) (λt hP=>⟨t,?_,?_⟩)
  .obtain⟨M,acc⟩:=t;obtain⟨hacc,hM⟩:=hP;dsimp only at hacc hM;obtain⟨a1,a2⟩:=vz hg.1 hx (rows.take k) (by rw[me];omega);rw[me] at a2;obtain⟨m',e1',e2'⟩:=NY a1 hM hg (by omega) rows[k];have hla:acc.length=k:=by rw[hacc,zl,xM,me];omega
   refine .inl ⟨(m',acc ++ [⟨(er ps (iA ps x (rows.take k)).1 rows[k]).2.1,(er ps (iA ps x (rows.take k)).1 rows[k]).2.2⟩]),?_,?_,?_⟩
   .dsimp only;rw[zb (by simpa using hk),u4 hk,a0A,e1',a0A,Fa (by omega) (by omega),a0A,n9 (n:=k) (by omega)]
   .dsimp only;rw[O4 hk,tE,qr,hacc];rfl
   .rw[O4 hk,tE];exact e2'
  .dsimp only;rw[za (by simp)]
  .rw[zR] at hP;exact hP
 exact⟨e.1,by rw[h1];show some _=_;rw[<-h2.1],h2.2⟩
end
theorem Xs(l:List (List g9)):∃b,iy l=some b/\(b=true->l.length<=10/\∀p∈l,p.length<=10):=by
 unfold iy;simp only[jn];refine XX (Q:=λb=>b=true->l.length<=10/\(∀p∈l,p.length<=10)) (min l.length 10) (λk=>∀h:k<l.length,(l[k]).length<=10) (by have:min l.length 10<=10:=Nat.min_le_right ..;omega) (λk hk=>?_) ?_ (λhP=>?_) (λhP=>?_)
 .have hkl:k<l.length:=by omega
  have hk10:k<10:=by omega
  have c:((decide (((k:Nat):Int)<(l.length:Int)))&&(decide (((k:Nat):Int)<10)))=true:=by simp;omega
  by_cases q:(l[k]).length<=10
  .refine⟨_,?_,.inl ⟨λ_=>q,rfl⟩⟩;rw[zb c,u4 hkl,a0A,za (by simp;omega),n9]
  .refine⟨_,?_,.inr ⟨λh=>q (h hkl),rfl⟩⟩;rw[zb c,u4 hkl,a0A,zb (by simp;omega)]
 .rw[za (by simp;omega)]
 .refine⟨_,rfl,λh=>?_⟩;have h10:l.length<=10:=by have:=zbg h;omega
  refine⟨h10,λp hp=>?_⟩;obtain⟨k,hk,rfl⟩:=un hp;exact hP k (by omega) hk
 .exact⟨false,rfl,λh=>by cases h⟩
theorem KK(l:List (List Int))(m:Int):∃b,aq l m=some b/\(b=true->(l.length:Int)<=m):=by
 unfold aq;simp only[jn];refine XX (Q:=λb=>b=true->(l.length:Int)<=m) (min l.length 200) (λk=>∀h:k<l.length,(l[k]).length<=10) (by have:min l.length 200<=200:=Nat.min_le_right ..;omega) (λk hk=>?_) ?_ (λhP=>?_) (λhP=>?_)
 .have hkl:k<l.length:=by omega
  have hk10:k<200:=by omega
  have c:((decide (((k:Nat):Int)<(l.length:Int)))&&(decide (((k:Nat):Int)<200)))=true:=by simp;omega
  by_cases q:(l[k]).length<=10
  .refine⟨_,?_,.inl ⟨λ_=>q,rfl⟩⟩;rw[zb c,u4 hkl,a0A,za (by simp;omega),n9]
  .refine⟨_,?_,.inr ⟨λh=>q (h hkl),rfl⟩⟩;rw[zb c,u4 hkl,a0A,zb (by simp;omega)]
 .rw[za (by simp;omega)]
 .exact⟨_,rfl,λh=>zbg h⟩
 .exact⟨false,rfl,λh=>by cases h⟩
def DQ:List (List g9):=[[(⟨2,2,5,0⟩:g9)]]
def nJ:List (List Int):=[[1,0,1,0],[5,0,0,0],[3,0,0,0],[11,0,0,0],[12,9,0,0],[3,2,0,0],[11,0,0,0],[2,9,0,0]]
def DF:a8:=⟨[],[0,0,0],[0,0,0],5,8,0,List.replicate 6 0,List.replicate 6 ⟨0,false,-1⟩,[],[],DQ⟩
def noM:a8:=⟨[],[],[],0,0,0,[],[],[],[],[]⟩
def QB(k:Nat)(l:Int)(p:Nat)(ps:List (List g9)):a8:=⟨[],List.replicate k 0,List.replicate k 0,l,p,0,List.replicate 6 0,List.replicate 6 ⟨0,false,-1⟩,[],[],ps⟩
theorem ON(k:Nat)(l:Int)(p i:Nat):ce (rE k l p).S i=⟨0,0,z0⟩:=by
 unfold ce rE;dsimp only;rw[zd,List.getElem?_replicate];split <;> rfl
theorem Wl(k:Nat)(l:Int)(p:Nat)(ps:List (List g9)):p8 (λ_=>0) (rE k l p) (QB k l p ps):=by
 have nt:∀i,¬Th (ce (rE k l p).S i):=λi=>by rw[ON];unfold Th;decide
 have rep:∀(f:Nat->Int),(∀i,f i=0)->List.replicate k (0:Int)=(List.range (rE k l p).S.S.b7.length).map f:=λf hf=>by
  symm
  rw[List.eq_replicate_iff];refine⟨by rw[zl,zca];exact List.length_replicate ..,λb hb=>?_⟩;obtain⟨i,_,rfl⟩:=zq.1 hb;exact hf i
 refine⟨⟨rfl,λh i a=>absurd a.2.1 (nt i)⟩,⟨List.Pairwise.nil,λn=>⟨λh=>(nomatch h),λ⟨i,_,t,_⟩=>absurd t (nt i)⟩⟩,rep _ λi=>?_,rep _ λi=>by rw[ON],rfl,?_,rfl,rfl,rfl,List.Pairwise.nil,λq=>⟨λh=>(nomatch h),λ⟨a,v,h,_⟩=>?_⟩,rfl⟩
 .unfold PZ;rw[za (nt i),ON];rfl
 .show (p:Int)=((List.replicate p _).length:Nat);rw[List.length_replicate]
 .obtain⟨i,hi,_⟩:=h;have:=hi.2.1;rw[show (rE k l p).T=List.replicate p ⟨0,0,0⟩ from rfl,wa] at this;cases this
theorem Ux{n last places:Int}{ps:List (List g9)}(hl:ps.length<=12)(hp:∀p∈ps,p.length<=12) :
  (∃e E,e≠0/\U1 n last places ps=some (E,e)/\bh n last places ps=some (noM,e)/\(e=13\/e=1/\¬((1<=n/\n<=24)/\(0<=last/\last<=9)/\1<=places/\places<=8))) \/
  (∃k p:Nat,n=k/\places=p/\(1<=k/\k<=24)/\Pg ps/\Rs (rE k last p) 0/\U1 n last places ps=some (⟨rE k last p,ps⟩,0)/\bh n last places ps=some (QB k last p ps,0)/\sN ps (rE k last p) (QB k last p ps)):=by
 rcases YF (n:=n) (last:=last) (places:=places) hl hp with ⟨e,e1,_,e3⟩ | ⟨k,p,rfl,rfl,hk,hm,hr,e1,_⟩
 .left;have he:e≠0:=by omega
  refine⟨e,_,he,e1,?_,e3⟩;unfold bh;rw[e1,a0A,zb (by simpa using he)];rfl
 .right;have hpg:fJ ps=true:=by
   cases hq:fJ ps with
   | true=>rfl
   | false=>
    have e2:gm ps=some (fJ ps):=Gm (by omega) hp;unfold U1 at e1;rw[e2,a0A,hq,zb (show (!false)=true from rfl)] at e1;exact absurd (zP (λp=>p.2) (zK e1)) (by simp)
  refine⟨k,p,rfl,rfl,hk,YJ hpg,hr,e1,?_,⟨_,Wl k last p ps⟩,rfl,λc _ n hn=>(nomatch hn)⟩;unfold bh;rw[e1,a0A,za (by simp),kW (by omega) (by omega),a0A,show mk 8 6 (0:Int)=some (List.replicate 6 0) from rfl,a0A];refine sQ (a:=List.replicate 6 ⟨0,false,-1⟩) (by kernel_rfl) ?_;rfl
theorem TE:gE=some true:=by
 have hp:∀p∈DQ,p.length<=12:=λp h=>by
  have:p = [⟨2,2,5,0⟩]:=zn.1 h;subst this;decide
 rcases Ux (n:=3) (last:=5) (places:=8) (ps:=DQ) (by decide) hp with ⟨e,E,he,e1,e2,_⟩ | ⟨k,p,hk,hpp,_,hg,hr0,e1,e2,G⟩
 .have h3:bh 3 5 8 DQ=some (DF,0):=by kernel_rfl
  rw[e2] at h3;exact absurd (zP (λp=>p.2) (zK h3)) he
 .obtain rfl:k=3:=by omega
  obtain rfl:p=8:=by omega
  have h3:N9 (QB 3 5 8 DQ) nJ=some ((N9 DF nJ).getD (DF,[])):=by kernel_rfl
  obtain⟨m',k1,_⟩:=NZ hr0.oh G hg (rows:=nJ) (by decide) (by have:=hr0.bC;omega);rw[h3] at k1;have k2:(iA DQ (rE 3 5 8) nJ).2.map Ug=((N9 DF nJ).getD (DF,[])).2:=(zP (λp=>p.2) (zK k1)).symm;have k3:(iA DQ (rE 3 5 8) nJ).2.map Zi=((N9 DF nJ).getD (DF,[])).2:=k2;have b1:=ZN hg.1 hr0.oh nJ (by decide) (by have:=hr0.bC;omega);rw[k3] at b1;unfold gE;refine sQ (a:=(QB 3 5 8 DQ,(0:Int))) e2 ?_;refine sQ (a:=((⟨rE 3 5 8,DQ⟩:s7),(0:Int))) e1 ?_;refine sQ (a:=(N9 DF nJ).getD (DF,[])) h3 ?_;refine sQ b1 ?_;kernel_rfl
theorem Xv(l:List (Int × Int))(hl:l.length<=1000):T6 (l.map Ug)=some (l.map λp=>⟨p.1,p.2⟩):=by
 unfold T6;simp only[jn];refine Z0 l.length (λk acc=>acc=(l.take k).map λp=>⟨p.1,p.2⟩) (by omega) (by simp) (λk acc hk hacc=>.inl ⟨_,?_,rfl⟩) (λacc hacc=>⟨_,za (by simp),by rw[hacc,zR]⟩);subst hacc;have hk':k<(l.map Ug).length:=by simpa using hk
 dsimp only;rw[zb (by simpa using hk),u4 hk',a0A,t8,I6 (by omega) (by simp;omega),a0A,n9,zt hk,qr];rfl
theorem Yh{l:List (List g9)}{rows more:List (List Int)}{m:Int}{K:Option Bool}(h:iy l=some true->l.length<=10->(∀p∈l,p.length<=10)->(rows.length:Int)<=m->(more.length:Int)<=m->K=some true) :
  ((iy l).bind λv1=>(A6 ((!v1)==false) false (aq rows m)).bind λv2=>(A6 (((!v1)||(!v2))==false) false (aq more m)).bind λv3=>(A6 ((((!v1)||(!v2))||(!v3))==false) false gE).bind λv4=>if ((((!v1)||(!v2))||(!v3))||(!v4)) then (gE).bind λv5=>some v5 else K)=some true:=by
 obtain⟨b,h1,h2⟩:=Xs l;obtain⟨c,h3,h4⟩:=KK rows m;obtain⟨d,h5,h6⟩:=KK more m;rw[h1,a0A,TE];cases b;·rfl
 .rw[show A6 ((!true)==false) false (aq rows m)=aq rows m from rfl,h3,a0A];cases c;·rfl
  .rw[show A6 (((!true)||(!true))==false) false (aq more m)=aq more m from rfl,h5,a0A];cases d;·rfl
   .exact h h1 (h2 rfl).1 (h2 rfl).2 (h4 rfl) (h6 rfl)
theorem Xl{ps:List (List g9)}{x:Hp}{m:a8}(hx:Oh x)(g:sN ps x m)(ht:iy ps=some true):qj m=some true:=by
 obtain⟨⟨σ,q⟩,hp,_⟩:=g;have B:=q.bn hx.rt.sh.sr;have C:=q.bl hx.rt.sh;have nl:=B.nl;have hR:=hx.rt.sh;have r6:=q.r6 hx.rt;have c6:m.b7.length=6:=by rw[q.ce,zl,hR.c6]
 have tl:m.Tasks.length<=30:=by rw[q.tk,zl];exact hR.q30
 have pl8:m.Pairs.length<=8:=by
  rw[(q.perm hR).length_eq,zl];unfold jW;rw[zl];exact zN (zA ..) hR.hr.l8
 have gl:=B.gl;unfold qj;simp only[jn];refine aK m.Nodes.length (λ_=>True) (by omega) trivial (λk hk _=>.inl ⟨?_,trivial⟩) (λ_=>⟨.inr (),?_,?_⟩)
 .have c:((decide (((k:Nat):Int)<(m.Nodes.length:Int)))&&(decide (((k:Nat):Int)<60)))=true:=by simp;omega
  have:=B.fl _ (zh hk);rw[zb c,u4 hk,a0A,za (by simp;omega),n9]
 .rw[za (by simp)]
 .have e:((((((((decide ((m.Nodes.length:Int)<=50))&&(decide ((m.Pairs.length:Int)<=20)))&&(decide ((m.Tasks.length:Int)<=100)))&&(decide ((m.b7.length:Int)<=20)))&&(decide ((m.Roots.length:Int)<=20)))&&(decide ((m.Slots.length:Int)<=30)))&&(decide ((m.Gens.length:Int)<=30))))=true:=by
   simp;omega
  dsimp only;rw[e,hp];simp only[zW,bK];rw[ht];rfl
theorem sN.r6{ps:List (List g9)}{x:Hp}{m:a8}(hx:Oh x)(g:sN ps x m):m.Roots.length=6:=by
 obtain⟨⟨σ,q⟩,_⟩:=g;exact q.r6 hx.rt
theorem YR{n:Int}(h0:0<=n)(h1:n<=255){b:Int}(hb:0<b):rem (x4 n) b=some (n % b):=by rw[V3 (by omega) (by omega),Ea h0 hb]
theorem Wi{n last:Int}(h0:0<=n)(h1:n<=255){ps:List (List g9)}(hl:ps.length<=12)(hp:∀p∈ps,p.length<=12)(hL:0<=last/\last<=9) :
  (∃E,U1 (x4 (1+n % 24)) last 8 ps=some (E,13)/\bh (x4 (1+n % 24)) last 8 ps=some (noM,13)) \/
  (∃k:Nat,1+n % 24=k/\(1<=k/\k<=24)/\Pg ps/\Rs (rE k last 8) 0/\U1 (x4 (1+n % 24)) last 8 ps=some (⟨rE k last 8,ps⟩,0)/\bh (x4 (1+n % 24)) last 8 ps=some (QB k last 8 ps,0)/\sN ps (rE k last 8) (QB k last 8 ps)):=by
 have hw:x4 (1+n % 24)=1+n % 24:=V3 (by omega) (by omega);rw[hw];rcases Ux (n:=1+n % 24) (last:=last) (places:=8) (ps:=ps) hl hp with ⟨e,E,he,e1,e2,e3⟩ | ⟨k,p,hk,hpp,hk2,hg,hr,e1,e2,G⟩
 .rcases e3 with rfl | ⟨_,h⟩
  .exact .inl ⟨E,e1,e2⟩
  .exact absurd ⟨by omega,hL,by omega,by omega⟩ h
 .obtain rfl:p=8:=by omega
  exact .inr ⟨k,hk,hk2,hg,hr,e1,e2,G⟩
section
variable{σ:Int->Int}{x:Hp}{m:a8}(hx:Oh x)(q:p8 σ x m)
include hx q
end
section
variable{σ:Int->Int}{x:Hp}{m:a8}(hx:Oh x)(q:p8 σ x m)
include hx q
end
section
variable{σ:Int->Int}{x:Hp}{m:a8}(hx:Oh x)(q:p8 σ x m)
include hx q
end
theorem mE(h:Int):∀l:List Int,0<R4 l h↔h∈l/\h≠0
 | []=>by rw[J0];simp
 | v::l=>by
  rw[I1,zM];have ih:=mE h l;by_cases c:v=h/\h≠0
  .rw[zb c];exact⟨λ_=>⟨.inl c.1.symm,c.2⟩,λ_=>by omega⟩
  .rw[za c,za7,ih];constructor;·exact λk=>⟨.inr k.1,k.2⟩
   .rintro⟨k | k,h0⟩;·exact absurd ⟨k.symm,h0⟩ c
    .exact⟨k,h0⟩
theorem Qt{l:List (List g9)}(hl:l.length<=12)(hp:∀p∈l,p.length<=12):qP l=some (WG l):=by
 unfold qP;simp only[jn];refine Z0 l.length (λk acc=>acc=(l.take k).map (List.map Zu)) (by omega) (by simp) (λk acc hk hacc=>.inl ⟨_,?_,rfl⟩) (λacc hacc=>⟨_,za (by simp),by rw[hacc,zR]⟩);subst hacc;have hm:=hp _ (zh hk);dsimp only;rw[zb (by simpa using hk)];have e:=jR (b:=32) Zu l[k] (by omega) (by omega);simp only[Zu] at e;simp only[u4 hk,a0A];rw[e,a0A,I6 (by omega) (by simp;omega),a0A,n9,zt hk,qr];rfl
theorem We{m:a8}(B:Bn m)(C:Bl m)(hl:m.Progs.length<=12)(hp:∀p∈m.Progs,p.length<=12):qi m=some (mO m):=by
 have nl:=B.nl;have pa:=C.pa;have tl:=C.tl;have wl:=C.wl;unfold qi;simp only[jn];have en:=jR (b:=56) nO m.Nodes (by omega) (by omega);simp only[nO] at en;have ep:=jR (b:=16) pp m.Pairs (by omega) (by omega);simp only[pp] at ep;rw[en,a0A,ep,a0A,YX ⟨m.Tasks,0⟩ (by show m.Tasks.length<=1000;omega),a0A,XU m.b7 (by omega),a0A,Qt hl hp,a0A];rfl
theorem SG{l:List C4}(hl:l.length<=1000)(hf:∀n∈l,n.Fields.length<=100):qA l l=some true:=by
 unfold qA;rw[za (by simp)];simp only[jn];refine aK l.length (λ_=>True) (by omega) trivial (λk hk _=>.inl ⟨?_,trivial⟩) (λ_=>⟨.inr (),za (by simp),rfl⟩);have h:=hf _ (zh hk);rw[zb (by simpa using hk),u4 hk,a0A,a0A];simp only[zb7,zcv,zW,bK];rw[qw (by omega),a0A];rw[za (by simp),n9]
theorem Xf{m:a8}(B:Bn m)(C:Bl m):uI (mO m) (mO m)=some true:=by
 have nl:=B.nl;have pa:=C.pa;have tl:=C.tl;have wl:=C.wl;have rl:=C.rl;have gl:=B.gl;unfold uI;rw[SG (by simp[mO];omega) λn hn=>by
  obtain⟨k,hk,rfl⟩:=zq.1 hn;have:=B.fl k hk;show k.Fields.length<=100;omega,a0A]
 simp only[zbn,zW,bK];rw[show (mO m).Slots=m.Slots from rfl,show (mO m).Gens=m.Gens from rfl,show (mO m).Roots=m.Roots from rfl,qw (by omega),a0A];simp only[zbn,zcv,zW,bK];rw[qw (by omega),a0A];simp only[zbn,zcv,zb7,zD,q9];rw[qw (by omega),a0A];simp only[zW,bK];rw[Xe (by simp[mO];omega),a0A];simp only[zcs,zW,bK];rw[GG (by simp[mO];omega),a0A];simp only[zcs,zW,bK];have e:pL (⟨(mO m).Tasks,0⟩:H2) ⟨(mO m).Tasks,0⟩=some true:=WM (q:=⟨m.Tasks,0⟩) (by show m.Tasks.length<=1000;omega);rw[e];rfl
def MF(m:a8)(row:List Int):a8 × g7:=(lX m row).getD (m,⟨0,0⟩)
def ca(m:a8)(rows:List (List Int)):a8 × List g7:=rows.foldl (λp r=>((MF p.1 r).1,p.2 ++ [(MF p.1 r).2])) (m,[])
theorem wi(m:a8)(l:List (List Int))(r:List Int):ca m (l ++ [r])=((MF (ca m l).1 r).1,(ca m l).2 ++ [(MF (ca m l).1 r).2]):=by
 unfold ca;rw[zaj];rfl
theorem Ax:∀(l:List (List Int)) (m:a8) (a:List g7),l.foldl (λp r=>((MF p.1 r).1,p.2 ++ [(MF p.1 r).2])) (m,a)=((ca m l).1,a++(ca m l).2)
 | [],m,a=>by simp[ca]
 | r::l,m,a=>by
  unfold ca;rw[pm,pm,Ax l,Ax l _ ([]++_)];simp
theorem PN(m:a8)(l k:List (List Int)):ca m (l++k)=((ca (ca m l).1 k).1,(ca m l).2++(ca (ca m l).1 k).2):=by
 have:ca m (l++k)=k.foldl (λp r=>((MF p.1 r).1,p.2 ++ [(MF p.1 r).2])) (ca m l):=by
  unfold ca;rw[zaj]
 rw[this];exact Ax k (ca m l).1 (ca m l).2
section
variable{ps:List (List g9)}{x:Hp}{m:a8}(hx:Oh x)(g:sN ps x m)(hg:Pg ps)
include hx g hg
theorem Dm{rows:List (List Int)}(hl:rows.length<=1000)(hb:x.S.Serial<1000000000000):N9 m rows=some (ca m rows)/\sN ps (iA ps x rows).1 (ca m rows).1/\(ca m rows).2=(iA ps x rows).2.map Ug:=by
 obtain⟨m',r1,r2⟩:=NZ hx g hg hl hb;have e:N9 m rows=some (ca m rows):=by
  unfold N9;simp only[jn];refine Z0 (T:=a8 × List g7) rows.length (λk t=>t=ca m (rows.take k)/\t.2.length=k/\sN ps (iA ps x (rows.take k)).1 t.1) (by omega) ⟨rfl,rfl,g⟩ (λk t hk hP=>.inl ⟨ca m (rows.take (k+1)),?_,?_⟩) (λt hP=>⟨t,?_,?_⟩)
  .obtain⟨rfl,hlen,hM⟩:=hP;have hlen:(ca m (rows.take k)).2.length=k:=hlen;obtain⟨a1,a2⟩:=vz hg.1 hx (rows.take k) (by rw[me];omega);rw[me] at a2;obtain⟨m1,e1',e2'⟩:=NY a1 hM hg (by omega) rows[k];have hd:MF (ca m (rows.take k)).1 rows[k]=(m1,⟨(er ps (iA ps x (rows.take k)).1 rows[k]).2.1,(er ps (iA ps x (rows.take k)).1 rows[k]).2.2⟩):=by unfold MF;rw[e1'];rfl
   show (if _ then _ else _)=_;rw[zb (by simpa using hk),u4 hk,a0A,e1',a0A,Fa (by omega) (by show ((ca m (rows.take k)).2.length+1)*16<=_;omega),a0A,n9 (n:=k) (by omega),O4 hk,wi,hd]
  .obtain⟨rfl,hlen,hM⟩:=hP;obtain⟨a1,a2⟩:=vz hg.1 hx (rows.take k) (by rw[me];omega);rw[me] at a2;obtain⟨m1,e1',e2'⟩:=NY a1 hM hg (by omega) rows[k];have hd:MF (ca m (rows.take k)).1 rows[k]=(m1,⟨(er ps (iA ps x (rows.take k)).1 rows[k]).2.1,(er ps (iA ps x (rows.take k)).1 rows[k]).2.2⟩):=by unfold MF;rw[e1'];rfl
   refine⟨rfl,?_,?_⟩
   .rw[O4 hk,wi];simp[hlen]
   .rw[O4 hk,wi,tE,hd];exact e2'
  .obtain⟨rfl,_,_⟩:=hP;show (if _ then _ else _)=_;rw[za (by simp)]
  .rw[zR] at hP;obtain⟨rfl,_,_⟩:=hP;rfl
 rw[e] at r1;have r1:=zK r1;exact⟨e,by rw[r1];exact r2,by rw[r1]⟩
end
theorem EA{l:List g7}(hl:l.length<=1000):T6 l=some (l.map λp=>⟨p.V,p.E⟩):=by
 have:=Xv (l.map λp=>(p.V,p.E)) (by rw[zl];exact hl);rw[zaw,zaw] at this;have e:l.map (Ug ∘ λp=>(p.V,p.E))=l:=by
  conv=>rhs;rw[<-List.map_id l]
  exact zw λp _=>rfl
 rw[e] at this;exact this
theorem Uh(l:List r9)(hl:l.length<=1000):eO l l=some true:=by
 unfold eO;rw[za (by simp)];simp only[jn];refine aK l.length (λ_=>True) (by omega) trivial (λk hk _=>.inl ⟨?_,trivial⟩) (λ_=>⟨.inr (),za (by simp),rfl⟩);rw[zb (by simpa using hk),u4 hk,a0A,a0A,za (by simp),n9]
theorem modelGoesOn{n last:Int}{l:List (List g9)}{rows more:List (List Int)}(h0:0<=n)(h1:n<=255)(g0:0<=last)(g1:last<=255):iX n last l rows more=some true:=by
 unfold iX;refine Yh λht hl hp hr hr2=>?_;have hp12:∀p∈l,p.length<=12:=λp q=>by have:=hp p q;omega
 rw[YR h0 h1 (by decide),a0A,YR g0 g1 (by decide),a0A];rcases Wi (last:=last % 10) h0 h1 (ps:=l) (by omega) hp12 (by omega) with ⟨E,e1,e2⟩ | ⟨k,hk,hk2,hg,hr0,e1,e2,G⟩
 .rw[e2,a0A];rfl
 .have hs:=hr0.bC;obtain⟨o1,o2⟩:=vz hg.1 hr0.oh rows (by omega);obtain⟨p1,p2⟩:=vz hg.1 o1 more (by omega);obtain⟨r1,r2,r3⟩:=Dm hr0.oh G hg (rows:=rows) (by omega) (by omega);obtain⟨s1,s2,s3⟩:=Dm o1 r2 hg (rows:=more) (by omega) (by omega);obtain⟨t1,t2,t3⟩:=Dm hr0.oh G hg (rows:=rows++more) (by rw[zJ];omega) (by omega);have l1:(ca (QB k (last % 10) 8 l) rows).2.length=rows.length:=by rw[r3,zl,xM]
  have l2:(ca (ca (QB k (last % 10) 8 l) rows).1 more).2.length=more.length:=by rw[s3,zl,xM]
  rw[e2,a0A];dsimp only;rw[za (by simp),r1,a0A,s1,a0A,cu (by omega) (by omega),a0A,I6 (by omega) (by omega),a0A,t1,a0A,PN];dsimp only;generalize ca (QB k (last % 10) 8 l) rows=R at *;generalize ca R.1 more=T at *;have sl:=Xl p1 s2 ht;obtain⟨⟨σ,q⟩,hpr,_⟩:=s2;have B:=q.bn p1.rt.sh.sr;have C:=q.bl p1.rt.sh;have hm:=We B C (by rw[hpr];omega) (by rw[hpr];exact hp12);rw[sl,a0A];simp only[zW,bK];rw[a0A];simp only[zcs,zW,bK];rw[hm,a0A,a0A,Xf B C,a0A];simp only[zcs,zW,we];rw[EA (by omega),a0A,EA (by omega),a0A,I6 (by omega) (by simp;omega),a0A,EA (by rw[zJ];omega),a0A,qr,Uh _ (by simp;omega),a0A];simp only[zW,bK];rw[Uh _ (by simp;omega)];rfl
section
variable{σ:Int->Int}{x:Hp}{m:a8}(hx:K1 x)(q:p8 σ x m)
include hx q
theorem p8.Fu{s t:Int}{n:b8}(h:m.Nodes.find? (λn=>n.Serial==t)=some n):∃n',(fW m s).Nodes.find? (λn=>n.Serial==t)=some n'/\n'.Fields=n.Fields:=by
 unfold fW;split
 .by_cases c:t=s
  .subst c;refine⟨uU n,?_,rfl⟩;show (dF m.Nodes t uU).find? _=_;rw[tH t (f:=uU) (λ_=>rfl),h];rfl
  .refine⟨n,?_,rfl⟩;show (dF m.Nodes s uU).find? _=_;rw[nk c (f:=uU) (λ_=>rfl),h]
 .exact⟨n,h,rfl⟩
end
section
variable{σ:Int->Int}{x:Hp}{m:a8}(hx:K1 x)(q:p8 σ x m)
include hx q
end
section
variable{σ:Int->Int}{x:Hp}{m:a8}(hx:K1 x)(q:p8 σ x m)
include hx q
end
section
variable{ps:List (List g9)}{x:Hp}{m:a8}(hx:Oh x)(g:sN ps x m)
include hx g
end
section
variable{ps:List (List g9)}{x:Hp}{m:a8}(hx:Oh x)(g:sN ps x m)(hg:Pg ps)
include hx g hg
end
def Ie(m:a8)(L:List Int):List Int:=
 ((m.Nodes.filter λn=>n.Alive&&decide (0<R4 L n.Serial)).map (·.Fields)).flatten++(m.Pairs.filter λp=>decide (0<R4 L p.Key)).map (·.Val)
def RE(L:List Int)(v:Int):List Int:=if R4 L v=0 then L ++ [v] else L
def Xa(m:a8)(L:List Int):List Int:=(Ie m L).foldl RE L
theorem Nf(L:List Int)(v s:Int):s∈RE L v↔s∈L\/s=v:=by
 unfold RE;split;·rw[zu,zn]
 .rename_i h;have:v∈L:=((mE v L).1 (by omega)).1;exact⟨.inl,λk=>k.elim id λe=>e▸this⟩
theorem EZ:∀(A L:List Int) (s:Int),s∈A.foldl RE L↔s∈L\/s∈A
 | [],L,s=>by simp
 | a::A,L,s=>by
  rw[pm,EZ A,Nf,zM];constructor
  .rintro ((h | h) | h);·exact .inl h
   .exact .inr (.inl h)
   .exact .inr (.inr h)
  .rintro (h | h | h);·exact .inl (.inl h)
   .exact .inl (.inr h)
   .exact .inr h
theorem GB(m:a8)(L:List Int)(s:Int):s∈Xa m L↔s∈L\/s∈Ie m L:=EZ _ _ _
theorem OO{m:a8}{L:List Int}{s:Int}:s∈Ie m L↔(∃n∈m.Nodes,n.Alive=true/\n.Serial∈L/\n.Serial≠0/\s∈n.Fields)\/∃p∈m.Pairs,p.Key∈L/\p.Key≠0/\s=p.Val:=by
 unfold Ie;rw[zu,List.mem_flatten,zq];constructor
 .rintro (⟨l,hl,hs⟩ | ⟨p,hp,rfl⟩)
  .left;obtain⟨n,hn,rfl⟩:=zq.1 hl;obtain⟨h1,h2⟩:=zi.1 hn;rw[zy,zC,mE] at h2;exact⟨n,h1,h2.1,h2.2.1,h2.2.2,hs⟩
  .right;obtain⟨h1,h2⟩:=zi.1 hp;rw[zC,mE] at h2;exact⟨p,h1,h2.1,h2.2,rfl⟩
 .rintro (⟨n,h1,h2,h3,h4,hs⟩ | ⟨p,h1,h2,h3,rfl⟩)
  .left;exact⟨n.Fields,zq.2 ⟨n,zi.2 ⟨h1,by rw[zy,zC,mE];exact⟨h2,h3,h4⟩⟩,rfl⟩,hs⟩
  .right;exact⟨p,zi.2 ⟨h1,by rw[zC,mE];exact⟨h2,h3⟩⟩,rfl⟩
def ZA(m:a8)(L:List Int):Prop:=∀s∈Ie m L,s≠0->s∈L
theorem OP{m:a8}{L M:List Int}(h:∀s∈L,s≠0->s∈M){s:Int}(k:s∈Ie m L):s∈Ie m M:=by
 rw[OO] at k |-;rcases k with ⟨n,a,b,c,d,e⟩ | ⟨p,a,b,c,d⟩;·exact .inl ⟨n,a,b,h _ c d,d,e⟩
 .exact .inr ⟨p,a,h _ b c,c,d⟩
theorem ZA.WZ{m:a8}{L:List Int}(h:ZA m L):ZA m (Xa m L):=λs hs h0=>by
 have h1:∀s∈Xa m L,s≠0->s∈L:=λs hs h0=>((GB m L s).1 hs).elim id λk=>h s k h0;exact (GB m L s).2 (.inl (h s (OP h1 hs) h0))
section
variable{σ:Int->Int}{x:Hp}{m:a8}(hx:K1 x)(q:p8 σ x m)
include hx q
end
section
variable{σ:Int->Int}{x:Hp}{m:a8}(hx:K1 x)(q:p8 σ x m)
include hx q
end
section
variable{ps:List (List g9)}{x:Hp}{m:a8}(hx:Oh x)(g:sN ps x m)(hg:Pg ps)
include hx g hg
end
end Go.Sh
