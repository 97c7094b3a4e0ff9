/- A part. -/
import Derived.Test.YtmgbbnfgfmfgaaaGreatQ22cT2
set_option linter.unusedVariables false
set_option linter.unusedSimpArgs false
set_option linter.unusedSectionVars false
namespace Go.Sh
def La(m:a8)(w:Nat)(s call:Int):a8:=DN (RM m (m.b7.set w (fG s call))) (m.b7.getD w cz).Target
theorem FU{m:a8}{s:Int}{n:b8}(h:m.Nodes.find? (λn=>n.Serial==s)=some n):DN m s=if n.Alive=true\/0<jg m.b7 s then m else Eg m n:=by
 unfold DN;rw[h]
theorem LF{m:a8}{s:Int}(h:m.Nodes.find? (λn=>n.Serial==s)=none):DN m s=m:=by
 unfold DN;rw[h]
theorem ID{σ:Int->Int}{x:Hp}{m:a8}(hR:SR x.S)(q:p9 σ x m){i:Nat}(hi:i<x.S.S.b7.length)(ht:Th (ce x.S i))(d:Int):p9 σ (wS x (lH x.S i d)) m:=by
 refine q.alike hR (J3 ..) rfl rfl λj hj=>?_;rw[eW hR hi ht];split;·rename_i e;subst e;exact⟨rfl,rfl,rfl,rfl,rfl,rfl,rfl⟩
 .exact⟨rfl,rfl,rfl,rfl,rfl,rfl,rfl⟩
theorem ll{x:Hp}(hS:kc x){c:k7}(hc:c∈x.b7):c.Target=0\/∃i,T8 x.S c.Target i:=by
 obtain⟨i,hi,rfl⟩:=wt hc;by_cases e:x.b7[i].Target=0
 .exact .inl e
 .exact .inr ((hS.cl i hi).2.2.2.1 e)
theorem p9.cH{σ:Int->Int}{x:Hp}{m:a8}(hx:J8 x)(q:p9 σ x m){w:Nat}(hw:w<6){h call:Int}(hh:h=0\/h∈lv x.S):p9 σ (cH x w h call) (La m w (σ h) call):=by
 have hS:=hx.sh;have hR:=hS.sr;have hwl:w<x.b7.length:=by rw[hS.c6];exact hw
 have hz:(σ h != 0)=(h != 0):=by
  have:=q.gd.zero hR (MT hR q.gd hh);rw[zbm];simp[this]
 have q1:p9 σ (wC x (x.b7.set w (fG h call))) (RM m (m.b7.set w (fG (σ h) call))):=by
  refine⟨q.gd,q.nd,q.sl,q.ge,q.la,q.npl,q.se,q.ro,?_,q.p1,q.p2,q.tk⟩;show m.b7.set w (fG (σ h) call)=(x.b7.set w (fG h call)).map (wx σ);rw[q.ce,zcp];congr 1;unfold wx fG;rw[hz]
 have hold:(m.b7.getD w cz).Target=σ (md x w):=by
  unfold md;rw[q.ce,zd,zB,zd,zc hwl];rfl
 have htg:md x w=x.b7[w].Target:=by unfold md;rw[zd,zc hwl];rfl
 unfold Sh.cH La;rw[hold];generalize hy:iv (wC x (x.b7.set w (fG h call))) h 1=y;generalize hm:RM m (m.b7.set w (fG (σ h) call))=m1 at q1;have k:∃s2,y=wS (wC x (x.b7.set w (fG h call))) s2/\SR s2/\p9 σ y m1/\s2.S.b7.length=x.S.S.b7.length/\∀i,i<x.S.S.b7.length->(Sh.ce s2 i).State=(Sh.ce x.S i).State/\(Sh.ce s2 i).Gen=(Sh.ce x.S i).Gen/\(Sh.ce s2 i).Val.Weak=(Sh.ce x.S i).Val.Weak+if h=bX x.S i/\Th (Sh.ce x.S i) then 1 else 0:=by
  subst hy;unfold iv;split
  .rename_i c;have c:T8 x.S h (D5 h):=c;refine⟨_,rfl,uX hR c.1 c.2.1 (by have:=(hR.ok _ c.1 c.2.1).wk;omega),ID (x:=wC x (x.b7.set w (fG h call))) hR q1 c.1 c.2.1 1,J3 ..,λi hi=>?_⟩;show (Sh.ce (lH x.S (D5 h) 1) i).State=_/\(Sh.ce (lH x.S (D5 h) 1) i).Gen=_/\(Sh.ce (lH x.S (D5 h) 1) i).Val.Weak=_;rw[eW hR c.1 c.2.1];split
   .rename_i e;subst e;exact⟨rfl,rfl,by rw[zb ⟨c.2.2,c.2.1⟩]⟩
   .rename_i e;refine⟨rfl,rfl,?_⟩;rw[za λd=>?_];·omega
    .exact e (T8.one hR (d.1▸wN hi d.2) c)
  .rename_i c;refine⟨_,rfl,hR,q1,rfl,λi hi=>⟨rfl,rfl,?_⟩⟩;rw[za λd=>?_];·omega
   .refine c ?_;have:=wN hi d.2;show T8 x.S h (D5 h);rw[d.1,this.D5 hR];exact this
 obtain⟨s2,ey,hR2,q2,hl2,hc2⟩:=k;have hcf:∀c∈x.b7.set w (fG h call),c.Target=0\/∃i,T8 x.S c.Target i:=λc hc=>by
  rcases zas hc with hc | rfl
  .exact ll hS hc
  .exact MT hR q.gd hh
 rcases ll hS (zh hwl) with e0 | ⟨p,hp⟩
 .rw[<-htg] at e0;rw[e0,q.gd.z,LF (q2.VX (by rw[ey];exact hR2))];unfold pG;rw[za];·exact q2
  .intro c;have:=c.KK (by rw[ey];exact hR2);omega
 .rw[<-htg] at hp;have hpp:=hp.D5 hR;obtain⟨s1',g1,w1⟩:=hc2 p hp.1;have hT2:Th (Sh.ce s2 p):=by unfold Th;rw[s1'];exact hp.2.1
  have hp2:T8 s2 (md x w) p:=⟨by rw[hl2];exact hp.1,hT2,by rw[g1];exact hp.2.2⟩;have hp2y:T8 y.S (md x w) p:=by rw[ey];exact hp2
  have hRy:SR y.S:=by rw[ey];exact hR2
  have h0:md x w≠0:=by have:=hp.KK hR;omega
  have s0:σ (md x w)≠0:=by have:=q.gd.pos hR hp;omega
  have ehd:md x w=bX x.S p:=hp.2.2;have hnm:(Sh.ce y.S p).Val.Weak=(Sh.jg (x.b7.set w (fG h call)) (md x w):Int)+1:=by
   rw[ey];show (Sh.ce s2 p).Val.Weak=_;have a:=IF hwl (fG h call) h0;have b:(Sh.ce x.S p).Val.Weak=(Sh.jg x.b7 (md x w):Int):=by rw[ehd];exact (hx.wk p hp.1 hp.2.1).1
   rw[w1,b];rw[htg] at a |-;rw[zb rfl] at a;by_cases c:h=x.b7[w].Target
   .rw[zb ⟨by rw[c,<-htg];exact ehd,hp.2.1⟩];rw[zb (show (fG h call).Target=_ from c)] at a;omega
   .rw[za λd=>c (by rw[d.1,<-htg];exact ehd.symm)];rw[za (show ¬(fG h call).Target=_ from c)] at a;omega
  have q3:p9 σ (wS y (lH y.S p (-1))) m1:=ID hRy q2 hp2y.1 hp2y.2.1 (-1);have hR3:SR (lH y.S p (-1)):=uX hRy hp2y.1 hp2y.2.1 (by rw[hnm];omega);have hp3:T8 (wS y (lH y.S p (-1))).S (md x w) p:=(wO hp2y.1 _).2 hp2y;have hf:=q3.find hR3 hp3;have hst:(Sh.ce (lH y.S p (-1)) p).State=(Sh.ce y.S p).State:=by rw[eW hRy hp2y.1 hp2y.2.1,zb rfl]
  have hcm:Sh.jg m1.b7 (σ (md x w))=Sh.jg (x.b7.set w (fG h call)) (md x w):=by
   have:m1.b7=(x.b7.set w (fG h call)).map (wx σ):=by
    have:=q2.ce;rw[ey] at this;exact this
   rw[this];exact q.jg hR (λc hc e=>q.gd.Vv hR (hcf c hc) (.inr ⟨p,hp⟩) e) h0 s0
  rw[FU hf,hcm];unfold pG;rw[hpp,zb hp2y];by_cases c:(Sh.ce y.S p).State=2/\(Sh.ce y.S p).Val.Weak=1
  .rw[zb c,za];·exact q3.Eg hR3 hp3.1 hp3.2.1
   .rintro (d | d)
    .have:(Sh.ce (lH y.S p (-1)) p).State=1:=by simpa[Sh.nd] using d
     rw[hst,c.1] at this;exact absurd this (by decide)
    .have:=c.2;rw[hnm] at this;omega
  .rw[za c,zb];·exact q3
   .by_cases d:(Sh.ce y.S p).State=2
    .right;have:(Sh.ce y.S p).Val.Weak≠1:=λe=>c ⟨d,e⟩;rw[hnm] at this;omega
    .left;have:(Sh.ce y.S p).State=1:=hp2y.2.1.resolve_right d;unfold Sh.nd;exact zC (hst.trans this)
def lx(n:b8):b8:=⟨n.Serial,n.Slot,n.Prog,n.Started,false,n.Stuck,[]⟩
def qL(m:a8)(s:Int):a8:=DN (xo m (fH m.Nodes s lx)) s
theorem xK(s:Int){f:b8->b8}(hf:∀n,(f n).Serial=n.Serial):∀l:List b8,(fH l s f).find? (λn=>n.Serial==s)=(l.find? λn=>n.Serial==s).map f
 | []=>rfl
 | n::l=>by
  unfold fH at *;rw[zT,List.find?_cons,List.find?_cons];by_cases e:n.Serial=s
  .rw[zb e];have:(f n).Serial=s:=(hf n).trans e;simp[e,this]
  .rw[za e];have:(n.Serial==s)=false:=by simpa using e
   rw[this];exact xK s hf l
theorem rn(s:Int){f:b8->b8}(hf:∀n,(f n).Serial=n.Serial):∀l:List b8,(fH l s f).filter (λn=>n.Serial != s)=l.filter λn=>n.Serial != s
 | []=>rfl
 | n::l=>by
  unfold fH at *;rw[zT,or,or];by_cases e:n.Serial=s
  .rw[zb e];have:(f n).Serial=s:=(hf n).trans e;simp only[this,e,zb9];exact rn s hf l
  .rw[za e];have:(n.Serial != s)=true:=by simpa using e
   simp only[this,wn];have ih:=rn s hf l;unfold fH at ih;rw[ih]
theorem p9.qL{σ:Int->Int}{x:Hp}{m:a8}(hR:SR x.S)(q:p9 σ x m){d:Int}(hd:d∈lv x.S)(hst:(ob x.S d).Strong<12)(hw:(ob x.S d).Weak=Sh.jg x.b7 d)
  (hinj:∀c∈x.b7,σ c.Target=σ d->c.Target=d):p9 σ (wS x (wj x.S d)) (qL m (σ d)):=by
 have p:=o0 hR hd;have h0:d≠0:=by have:=H4 hR hd;omega
 have s0:σ d≠0:=by have:=q.gd.ps hR hd;omega
 have hf:=q.find hR p.d;have hsd:(Sh.nd σ x.S (D5 d)).Serial=σ d:=(q.gd.f d _ p.d).symm;have hcm:Sh.jg m.b7 (σ d)=Sh.jg x.b7 d:=by rw[q.ce];exact q.jg hR hinj h0 s0
 have hf2:(xo m (fH m.Nodes (σ d) lx)).Nodes.find? (λn=>n.Serial==σ d)=some (lx (Sh.nd σ x.S (D5 d))):=by
  show (fH m.Nodes (σ d) lx).find? _=_;rw[xK _ (f:=lx) (λ_=>rfl),hf];rfl
 unfold Sh.qL;rw[FU hf2];have hcm':Sh.jg (xo m (fH m.Nodes (σ d) lx)).b7 (σ d)=Sh.jg x.b7 d:=hcm;rw[hcm'];unfold wj;rw[F4 hR p] at hw hst;by_cases c:(Sh.ce x.S (D5 d)).Val.Weak=0
 .have e:FD x.S (D5 d)=FE x.S (D5 d):=by unfold FD FE;rw[zb c]
  rw[e,za]
  .have:Sh.Eg (xo m (fH m.Nodes (σ d) lx)) (lx (Sh.nd σ x.S (D5 d)))=Sh.Eg m (Sh.nd σ x.S (D5 d)):=by
    unfold Sh.Eg lx;dsimp only;rw[hsd];have:=rn (σ d) (f:=lx) (λ_=>rfl) m.Nodes;unfold lx at this;rw[this]
   rw[this];exact q.Eg hR p.1 p.d.2.1
  .rintro (a | a);·exact absurd a (by unfold lx;simp)
   .rw[c] at hw;omega
 .have e:FD x.S (D5 d)=⟨2,(Sh.ce x.S (D5 d)).Gen,JV (Sh.ce x.S (D5 d)).Val⟩:=by unfold FD;rw[za c]
  rw[e,zb (.inr (by have:=(hR.ok _ p.1 p.d.2.1).wk;omega))];have hc:=λj=>K6 p.1 ⟨2,(Sh.ce x.S (D5 d)).Gen,JV (Sh.ce x.S (D5 d)).Val⟩ j;have hl:=V6 x.S (D5 d) ⟨2,(Sh.ce x.S (D5 d)).Gen,JV (Sh.ce x.S (D5 d)).Val⟩;generalize hs':H5 x.S (D5 d) ⟨2,(Sh.ce x.S (D5 d)).Gen,JV (Sh.ce x.S (D5 d)).Val⟩=s' at hc hl;have hsl:s'.S.Last=x.S.S.Last/\s'.Serial=x.S.Serial:=by subst hs';exact⟨rfl,rfl⟩
  have same:∀i,(Th (Sh.ce s' i)↔Th (Sh.ce x.S i))/\(Sh.ce s' i).Gen=(Sh.ce x.S i).Gen/\(Sh.ce s' i).Val.Serial=(Sh.ce x.S i).Val.Serial:=λi=>by
   rw[hc i];split;·rename_i e2;subst e2;exact⟨⟨λ_=>p.d.2.1,λ_=>.inr rfl⟩,rfl,rfl⟩
   .exact⟨Iff.rfl,rfl,rfl⟩
  refine⟨q.gd.up λk i a=>⟨⟨by have:=a.1;rw[<-hl];exact this,(same i).1.1 a.2.1,?_⟩,(same i).2.2⟩,?_,?_,?_,by rw[q.la];exact hsl.1.symm,q.npl,by rw[q.se];exact hsl.2.symm,q.ro,q.ce,q.p1,q.p2,q.tk⟩
  .have:=a.2.2;change k=1+(i:Int)+32*(Sh.ce s' i).Gen at this
   rw[(same i).2.1] at this;exact this
  .have:=q.nd.x4 (s':=s') hR p.1 hl (λj hj=>by rw[hc j,za hj]) p.d.2.1 ((same _).1.2 p.d.2.1) (same _).2.2 (f:=lx) (by
    unfold Sh.nd lx;rw[hc,zb rfl];dsimp only;rw[zY (show ¬(12:Int)<=(Sh.ce x.S (D5 d)).Val.Strong by omega)];rfl)
   rw[q.gd.f d _ p.d];exact this
  .show m.Slots=List.map _ (List.range s'.S.b7.length);rw[hl,q.sl];refine T3 λi hi=>?_;unfold DF;by_cases c2:Th (Sh.ce x.S i)
   .rw[zb c2,zb ((same i).1.2 c2),(same i).2.2]
   .rw[za c2,za λd=>c2 ((same i).1.1 d),hc i,za (show i≠D5 d from λe2=>c2 (e2▸p.d.2.1))]
  .show m.Gens=List.map _ (List.range s'.S.b7.length);rw[hl,q.ge];exact T3 λi hi=>(same i).2.1.symm
theorem p9.TU{σ:Int->Int}:∀(ds:List Int) {x:Hp} {m:a8},SR x.S->p9 σ x m->ds.Nodup->(∀d∈ds,d∈lv x.S/\(ob x.S d).Strong<12/\(ob x.S d).Weak=Sh.jg x.b7 d)->(∀d∈ds,∀c∈x.b7,σ c.Target=σ d->c.Target=d) ->
  p9 σ (wS x (ou x.S ds)) ((ds.map σ).foldl Sh.qL m)
 | [],x,m,hR,q,_,_,_=>q
 | d::ds,x,m,hR,q,hn,hm,hi=>by
  rw[me] at hn;obtain⟨a1,a2,a3⟩:=hm d zg;have Q:=q.qL hR a1 a2 a3 (hi d zg);show p9 σ (wS x (ou (wj x.S d) ds)) ((ds.map σ).foldl Sh.qL (Sh.qL m (σ d)));refine p9.TU ds (x:=wS x (wj x.S d)) (Cn hR a1) Q hn.2 (λk hk=>?_) λk hk=>hi k (zn _ hk);obtain⟨b1,b2,b3⟩:=hm k (zn _ hk);have hne:k≠d:=λe=>hn.1 (e▸hk);refine⟨by show k∈lv (wj x.S d);rw[Mv hR a1,zi];exact⟨b1,by simpa using hne⟩,?_⟩;show (ob (wj x.S d) k).Strong<12/\(ob (wj x.S d) k).Weak=_;rw[Mw hR a1 b1 hne];exact⟨b2,b3⟩
def Ax(m:a8)(S:List Int):a8:=S.foldl qL (Vl (Fs (RM m (ln m.b7 S)) (m.Tasks++ju m.b7 S)) (m.Pairs.filter λp=>decide (p.Key∉S)))
theorem RP{t:Tb}(hT:HR t)(ks:List Int)(hks:ks.length<=1000):(lf t ks).1.length=t.length:=by
 obtain⟨a,had,h1,_,h2,_⟩:=vY hT ks hks;unfold lf;rw[h1];exact h2
section
variable{σ:Int->Int}{x:Hp}{m:a8}(hx:J8 x)(q:p9 σ x m)
include hx q
theorem Ij{ds:List Int}(hm:∀d∈ds,d∈lv x.S){c:k7}(hc:c∈x.b7):iP (ds.map σ) (wx σ c)=iP ds c:=by
 have hR:=hx.sh.sr;obtain⟨i,hi,rfl⟩:=wt hc;unfold iP wx;cases e:x.b7[i].Intact;·rfl
 .have hl:=((hx.sh.cl i hi).2.2.2.2 e).1;have a:=q.gd.ps hR hl;have b:=H4 hR hl;have:(σ x.b7[i].Target∈ds.map σ)↔x.b7[i].Target∈ds:=by
   rw[zq];exact⟨λ⟨d,hd,e2⟩=>(q.gd.inl hR (hm d hd) hl e2)▸hd,λh=>⟨_,h,rfl⟩⟩
  rw[zbm];simp[this];omega
theorem PM{ds:List Int}(hm:∀d∈ds,d∈lv x.S):ln m.b7 (ds.map σ)=(ln x.b7 ds).map (wx σ):=by
 unfold ln;rw[q.ce,za6,za6];refine zt λc hc=>?_;show qZ (ds.map σ) (wx σ c)=wx σ (qZ ds c);unfold qZ;rw[Ij hx q hm hc];split <;> rfl
theorem PQ{ds:List Int}(hm:∀d∈ds,d∈lv x.S):ju m.b7 (ds.map σ)=ju x.b7 ds:=by
 have hg:∀w,w<x.b7.length->(x.b7.map (wx σ)).getD w cz=wx σ (x.b7.getD w cz):=λw hw=>by
  rw[zd,zB,zd,zc hw];rfl
 have hh:∀w,w<x.b7.length->iP (ds.map σ) (wx σ (x.b7.getD w cz))=iP ds (x.b7.getD w cz):=λw hw=>by
  rw[zd,zc hw];exact Ij hx q hm (zh hw)
 have hcls:cls m.b7 (ds.map σ)=cls x.b7 ds:=by
  unfold cls;rw[q.ce,zl];refine pm λw hw=>?_;rw[zaw] at hw;rw[hg w hw,hh w hw];rfl
 unfold ju;rw[hcls];refine zt λw hw=>?_;have hw:w<x.b7.length:=by
  unfold cls at hw;exact zaw.1 (zi.1 hw).1
 rw[q.ce,hg w hw];rfl
theorem p9.RX{ds:List Int}(hn:ds.Nodup)(hm:∀d∈ds,d∈lv x.S):p9 σ (⟨x.S,x.Roots,ln x.b7 ds,(lf x.T ds).1,⟨x.Q.L++ju x.b7 ds,x.Q.Cap⟩⟩:Hp) (Vl (Fs (RM m (ln m.b7 (ds.map σ))) (m.Tasks++ju m.b7 (ds.map σ))) (m.Pairs.filter λp=>decide (p.Key∉ds.map σ))):=by
 have hS:=hx.sh;have hR:=hS.sr;have hlen:ds.length<=24:=zO (Z3 hn hm) (M1 (A0.2 hR));obtain⟨_,w2,_,_,w5,_⟩:=jU hS.hr ds (by omega);refine⟨q.gd,q.nd,q.sl,q.ge,q.la,?_,q.se,q.ro,PM hx q hm,q.p1.filter _,λp=>?_,?_⟩
 .show m.Places=(((lf x.T ds).1.length:Nat):Int);rw[RP hS.hr ds (by omega)];exact q.npl
 .show p∈List.filter _ _↔∃k v,Has (lf x.T ds).1 k v/\_;rw[zi,q.p2,zG];constructor
  .rintro⟨⟨k,v,h,rfl⟩,c⟩;exact⟨k,v,(w5 k v).2 ⟨λhk=>c (zq.2 ⟨k,hk,rfl⟩),h⟩,rfl⟩
  .rintro⟨k,v,h,rfl⟩;obtain⟨h1,h2⟩:=(w5 k v).1 h;refine⟨⟨k,v,h2,rfl⟩,λc=>?_⟩;obtain⟨d,hd,e⟩:=zq.1 c;exact h1 (q.gd.inl hR (hm d hd) (hS.pr _ _ h2).1 e▸hd)
 .show m.Tasks++ju m.b7 (ds.map σ)=(x.Q.L++ju x.b7 ds).map (tx σ);rw[zaa,q.tk,PQ hx q hm];congr 1;conv=>lhs;rw[<-List.map_id (ju x.b7 ds)]
  refine zt λt ht=>?_;obtain⟨w,_,rfl,_⟩:=gD.1 ht;unfold tx;rw[za (show ¬(2:Int)=1 by decide)];rfl
theorem p9.gL{ds:List Int}(hn:ds.Nodup)(hm:∀d∈ds,d∈lv x.S)(hs:∀d∈ds,(ob x.S d).Strong<12):p9 σ (gL x ds) (Ax m (ds.map σ)):=by
 have hS:=hx.sh;have hR:=hS.sr;unfold Sh.gL Ax;refine p9.WQ (x:=jt x ds (lf x.T ds).1) _ (eH ds hR hn hm).sr ?_;have q1:=q.RX hx hn hm;have:=p9.TU (x:=(⟨x.S,x.Roots,ln x.b7 ds,(lf x.T ds).1,⟨x.Q.L++ju x.b7 ds,x.Q.Cap⟩⟩:Hp)) ds hR q1 hn (λd hd=>⟨hm d hd,hs d hd,?_⟩) λd hd c hc e=>?_;·exact this
 .show (ob x.S d).Weak=(Sh.jg (ln x.b7 ds) d:Int);have p:=o0 hR (hm d hd);rw[CG,F4 hR p];have:=(hx.wk _ p.1 p.d.2.1).1;rw[<-p.2.2] at this;exact this
 .refine q.gd.Vv hR ?_ (.inr ⟨_,(o0 hR (hm d hd)).d⟩) e;have hc:c∈ln x.b7 ds:=hc;unfold ln at hc;obtain⟨c',hc',rfl⟩:=zq.1 hc;rw[(oB ds c').1];exact ll hS hc'
end
def Ff(n:b8):b8:=⟨n.Serial,n.Slot,n.Prog,true,n.Alive,n.Stuck,n.Fields⟩
def GN(m:a8)(s:Int):Int:=((m.Nodes.find? λn=>n.Serial==s).map (·.Prog)).getD 0
def qy(m:a8)(s:Int):a8:=Fs (xo (fQ m s) (fH (fQ m s).Nodes s Ff)) (m.Tasks ++ [⟨1,s,GN m s⟩])
theorem HO(s:Int){f g:b8->b8}(hf:∀n,(f n).Serial=n.Serial)(l:List b8):fH (fH l s f) s g=fH l s (λn=>g (f n)):=by
 unfold fH;rw[za6];refine zt λn _=>?_;by_cases e:n.Serial=s
 .have h1:(f n).Serial=s:=(hf n).trans e;simp only[Function.comp,zb e,zb h1]
 .simp only[Function.comp,za e]
theorem p9.gh{σ:Int->Int}{x:Hp}{m:a8}(hS:kc x)(hf:aE x [])(q:p9 σ x m){h:Int}(hh:h∈lv x.S):p9 σ (gh x h) (qy m (σ h)):=by
 have hR:=hS.sr;have ho:=K0 hR hh;have p:=o0 hR hh;have hno:Ap x.S (fC (ob x.S h)):=⟨ho.s1,ho.s2,ho.st,ho.wk,ho.p1,ho.p2,ho.fl⟩;have q1:=q.put (o:=fC (ob x.S h)) hR hh rfl hno (f:=Ff) (by
  unfold Sh.nd Ff;rw[F4 hR p,zC p.2.1])
 have hpr:GN m (σ h)=(ob x.S h).Prog:=by
  unfold GN;rw[q.find hR p.d,F4 hR p];rfl
 have q2:p9 σ (⟨cT x.S h (fC (ob x.S h)),x.Roots,x.b7,x.T,⟨x.Q.L ++ [As x h],x.Q.Cap⟩⟩:Hp) (Fs (xo m (fH m.Nodes (σ h) Ff)) (m.Tasks ++ [⟨1,σ h,GN m (σ h)⟩])):=by
  refine⟨q1.gd,q1.nd,q1.sl,q1.ge,q1.la,q1.npl,q1.se,q1.ro,q1.ce,q1.p1,q1.p2,?_⟩;show m.Tasks++_=(x.Q.L ++ [As x h]).map (tx σ);rw[zaa,q.tk,hpr];congr 1
 have hR1:SR (cT x.S h (fC (ob x.S h))):=bP hR hh rfl hno;have hl1:h∈lv (cT x.S h (fC (ob x.S h))):=by rw[iE (o:=fC (ob x.S h)) hR hh rfl hno];exact hh
 have q3:=q2.UU hR1 (h:=h) (.inr hl1) (k:=DC m (σ h)) (λ_ hs=>by
  have e:ob (cT x.S h (fC (ob x.S h))) h=fC (ob x.S h):=by
   rw[gk (o:=fC (ob x.S h)) hR hh rfl hno (by have:=H4 hR hh;omega),zb rfl]
  change (ob (cT x.S h (fC (ob x.S h))) h).Strong<12 at hs
  show (ob (cT x.S h (fC (ob x.S h))) h).Strong=_;rw[e] at hs |-;rw[q.lM hS hh];show (ob x.S h).Strong=_;rw[hf h hh hs,I1];rfl)
 have e:(if σ h≠0/\11<=DC m (σ h) then uf (Fs (xo m (fH m.Nodes (σ h) Ff)) (m.Tasks ++ [⟨1,σ h,GN m (σ h)⟩])) (σ h) else (Fs (xo m (fH m.Nodes (σ h) Ff)) (m.Tasks ++ [⟨1,σ h,GN m (σ h)⟩])))=qy m (σ h):=by
  unfold qy fQ;split
  .unfold uf;dsimp only;rw[HO (f:=Ff) _ (λ_=>rfl),HO (f:=Dl) _ (λ_=>rfl)];rfl
  .rfl
 rw[e] at q3;exact q3
def GD(m:a8)(i n:Nat)(p:Int):a8:=⟨m.Nodes ++ [⟨m.Serial+1,i,p,false,true,false,List.replicate n 0⟩],m.Slots.set i (m.Serial+1),m.Gens,m.Last,m.Places,m.Serial+1,m.Roots,m.b7,m.Pairs,m.Tasks,m.Progs⟩
theorem p9.mk'{σ:Int->Int}{x:Hp}{m:a8}(hx:J8 x)(q:p9 σ x m){i:Nat}(hi:i<x.S.S.b7.length)(h0:(Sh.ce x.S i).State=0){n:Nat}(hn:n<=4){p:Int}(hp : -1<=p/\p<=5) :
  ∃σ',p9 σ' (wS x (dm x.S i n p)) (GD m i n p)/\σ' (bX x.S i)=x.S.Serial+1:=by
 have hS:=hx.sh;have hR:=hS.sr;have hc:=λj=>lI hR hi h0 hn hp j;have hl:=jD hR hi h0 hn hp;have hT0:¬Th (Sh.ce x.S i):=by unfold Th;rw[h0];decide
 have hpos:=sW hR hi;have old:∀ {k:Int} {j:Nat},T8 x.S k j->k≠bX x.S i:=λ{k j} a e=>by
  have hj:=yp hR hi h0 hn hp a;have h1:=a.2.2;rw[e] at h1;unfold bX at h1;have:=a.1;have:=hR.len;omega
 refine⟨λh=>if h=bX x.S i then x.S.Serial+1 else σ h,?_,zb rfl⟩;generalize hσ:(λh=>if h=bX x.S i then x.S.Serial+1 else σ h)=σ';have sn:σ' (bX x.S i)=x.S.Serial+1:=by subst hσ;exact zb rfl
 have so:∀k,(k=0\/∃j,T8 x.S k j)->σ' k=σ k:=λk hk=>by
  subst hσ;refine za ?_;rcases hk with e | ⟨j,a⟩
  .omega
  .exact old a
 have nd':∀j,Th (Sh.ce x.S j)->j<x.S.S.b7.length->Sh.nd σ' x.S j=Sh.nd σ x.S j:=λj hj hjl=>by
  unfold Sh.nd;congr 1;refine zt λv hv=>so v ?_;rcases hj with h1 | h2
  .have hA:At x.S (bX x.S j) j:=⟨hjl,h1,rfl⟩;have hlv:=(gS hR).2 ⟨j,hA⟩;rw[<-F4 hR hA] at hv;exact MT hR q.gd (hS.fl _ hlv v hv)
  .rw[((hx.wk j hjl (.inr h2)).2 h2).2.1] at hv;cases hv
 have sn0:Sn σ' x.S m.Nodes:=⟨q.nd.up,λk=>(q.nd.mem k).trans ⟨λ⟨j,a,b,c⟩=>⟨j,a,b,c.trans (nd' j b a).symm⟩,λ⟨j,a,b,c⟩=>⟨j,a,b,c.trans (nd' j b a)⟩⟩⟩;refine⟨⟨?_,λk j a=>?_⟩,?_,?_,?_,q.la,q.npl,?_,?_,?_,q.p1,λk=>?_,?_⟩;·rw[so 0 (.inl rfl)];exact q.gd.z
 .rcases (Nb hR hi h0 hn hp).1 a with b | ⟨rfl,rfl⟩
  .rw[so k (.inr ⟨j,b⟩),q.gd.f k j b];show _=(Sh.ce (dm x.S i n p) j).Val.Serial;rw[hc,za (yp hR hi h0 hn hp b)]
  .rw[sn];show _=(Sh.ce (dm x.S j n p) j).Val.Serial;rw[hc,zb rfl]
 .have:=sn0.add (s':=dm x.S i n p) hR hi hl (λj hj=>by rw[hc,za hj]) hT0 (by rw[hc,zb rfl];exact .inl rfl) (by rw[hc,zb rfl];show x.S.Serial<x.S.Serial+1;omega);have e:Sh.nd σ' (dm x.S i n p) i=⟨m.Serial+1,i,p,false,true,false,List.replicate n 0⟩:=by
   unfold Sh.nd;rw[hc,zb rfl];dsimp only;rw[q.se,zC rfl,zY (by decide),zch,so 0 (.inl rfl),q.gd.z]
  rw[e] at this;exact this
 .show m.Slots.set i (m.Serial+1)=List.map (λj=>DF (Sh.ce (dm x.S i n p) j)) (List.range (dm x.S i n p).S.b7.length);rw[hl,q.sl,vm,q.se];refine T3 λj hj=>?_;rw[hc];by_cases c:j=i
  .rw[zb c,zb c];rfl
  .rw[za c,za c]
 .show m.Gens=List.map (λj=>(Sh.ce (dm x.S i n p) j).Gen) (List.range (dm x.S i n p).S.b7.length);rw[hl,q.ge];refine T3 λj hj=>?_;rw[hc];split;·rename_i c;rw[c]
  .rfl
 .show m.Serial+1=x.S.Serial+1;rw[q.se]
 .show m.Roots=x.Roots.map σ';rw[q.ro];exact zt λv hv=>(so v (MT hR q.gd (hS.rt v hv))).symm
 .show m.b7=x.b7.map (wx σ');rw[q.ce];refine zt λc hcc=>?_;unfold wx;rw[so _ (ll hS hcc)]
 .show k∈m.Pairs↔∃a b,Has x.T a b/\k=⟨σ' a,σ' b⟩;rw[q.p2];have hh:∀a b,Has x.T a b->σ' a=σ a/\σ' b=σ b:=λa b h=>⟨so a (MT hR q.gd (.inr (hS.pr a b h).1)),so b (MT hR q.gd (.inr (hS.pr a b h).2))⟩;constructor
  .rintro⟨a,b,h,rfl⟩;exact⟨a,b,h,by rw[(hh a b h).1,(hh a b h).2]⟩
  .rintro⟨a,b,h,rfl⟩;exact⟨a,b,h,by rw[(hh a b h).1,(hh a b h).2]⟩
 .show m.Tasks=x.Q.L.map (tx σ');rw[q.tk];refine zt λt ht=>?_;unfold tx;split
  .rename_i c;rcases (hS.tk t ht).2.2 with d | d
   .rw[so _ (MT hR q.gd (.inr d.2.1))]
   .rw[d.1] at c;exact absurd c (by decide)
  .rfl
def RQ(m:a8)(n:b8):Bool:=n.Alive&&(!n.Stuck&&DC m n.Serial==0)
def LY(n:b8):Bool:=decide (0<=n.Prog) && !n.Started
def rP(m:a8):a8:=match m.Nodes.find? (RQ m) with
 | none=>m
 | some n=>if LY n then qy m n.Serial else Ax m [n.Serial]
def gm:Nat->a8->a8
 | 0,m=>m
 | n+1,m=>gm n (rP m)
theorem jl(n:Nat)(m:a8):gm (n+1) m=rP (gm n m):=by
 induction n generalizing m with
 | zero=>rfl
 | succ n ih=>show gm (n+1) (rP m)=_;rw[ih];rfl
def kZ(m:a8):a8:=gm 100 m
section
variable{σ:Int->Int}{x:Hp}{m:a8}(hx:J8 x)(q:p9 σ x m)
include hx q
theorem p9.zr:m.Nodes.find? (RQ m)=(Sh.zr x).head?.map λh=>Sh.nd σ x.S (D5 h):=by
 have hR:=hx.sh.sr;have e:m.Nodes.filter (RQ m)=(Sh.zr x).map λh=>Sh.nd σ x.S (D5 h):=by
  have:RQ m=λn=>n.Alive&&(!n.Stuck&&DC m n.Serial==0):=rfl;rw[this,<-zan,zan,pm (λn _=>Bool.and_comm _ _),<-zan,q.nd.alive hR,zct];congr 1;unfold Sh.zr;refine pm λh hh=>?_;have p:=o0 hR hh;show (!decide (12<=(Sh.ce x.S (D5 h)).Val.Strong)&&DC m (Sh.ce x.S (D5 h)).Val.Serial==0)=_;rw[<-q.gd.f h _ p.d,q.lM hx.sh hh,<-F4 hR p];by_cases c:(ob x.S h).Strong<12
  .have:=hx.fair h hh c;rw[I1] at this;rw[zY (by omega),zbm];simp;omega
  .rw[zC (by omega),zbm];simp;omega
 rw[<-List.head?_filter,e,List.head?_map]
theorem p9.FI:p9 σ (Sh.FI x) (rP m):=by
 have hR:=hx.sh.sr;unfold rP;rw[q.zr hx];cases e:Sh.zr x with
 | nil=>
  rw[nC e];exact q
 | cons z l=>
  rw[jQ e];obtain⟨hz,h0⟩:=cS.1 (e▸zg:z∈Sh.zr x);have p:=o0 hR hz;show p9 σ _ (if LY (Sh.nd σ x.S (D5 z)) then qy m (Sh.ce x.S (D5 z)).Val.Serial else Ax m [(Sh.ce x.S (D5 z)).Val.Serial]);rw[<-q.gd.f z _ p.d,F4 hR p];show p9 σ _ (if due (Sh.ce x.S (D5 z)).Val then _ else _);split;·exact q.gh hx.sh hx.fair hz
  .exact q.gL hx (ds:=[z]) (me.2 ⟨by simp,zb3⟩) (λd hd=>by rw[zp] at hd;rw[hd];exact hz) λd hd=>by
    rw[zp] at hd;rw[hd,h0];decide
end
theorem p9.oi{σ:Int->Int}{x:Hp}{m:a8}(hx:J8 x)(q:p9 σ x m):∀n,p9 σ (Sh.oi n x) (gm n m)
 | 0=>q
 | n+1=>by
  rw[Sh.fD,jl];exact (p9.oi hx q n).FI (P6 hx n)
theorem p9.bz{σ:Int->Int}{x:Hp}{m:a8}(hx:J8 x)(q:p9 σ x m):p9 σ (Sh.bz x) (kZ m):=q.oi hx 100
theorem FT{α:Type}{b:Nat}{acc:List α}{x:α}(hb:0<b)(h:(acc.length+1)*b<=140737488355328):app b acc [x]=some (acc ++ [x]):=K5 hb (by simpa using h)
theorem Iu{n b m:Nat}(h:n<=m)(hb:b<=1000)(hm:m<=1000000):n*b<=140737488355328:=by
 have h1:n*b<=1000000*1000:=Nat.mul_le_mul (by omega) hb;omega
theorem kH{α:Type}{b:Nat}{l:List α}{P:α->Option Bool}{p:α->Bool}(hP:∀x∈l,P x=some (p x))(hb:0<b)(hb2:b<=1000)(hl:l.length<=100000) :
  jn (λ(j15:List α)=>some j15) (λκ14=>
  (lp (S:=Int × (List α)) (E:=(List α)) (λ((s17,s18):Int × (List α))=>
   if (decide (s17<(l.length:Int))) then
    jn (λ(j25:List α)=>
     some (.inl (u7 (s17+1),j25))) (λκ24=>
     (ix l s17).bind λv26=>
     (P v26).bind λv27=>
     if v27 then
      (app b s18 [v26]).bind λv28=>
      κ24 v28
     else
     κ24 s18)
   else
   some (.inr s18)) (0,[])).bind λe16=>
  κ14 e16)=some (l.filter p):=by
 show (lp _ _).bind (λe16=>some e16)=_;rw[U7 (f:=_) l (λb x=>if p x then b ++ [x] else b) (λb=>b) (λk b=>b.length<=k) (by omega) (zV _) (λk hk b hb'=>?_) (λb _=>?_)];·rw[Yy,foldl_filter,zcj]
 .constructor
  .simp only[jn];rw[zb (by simpa using hk),s7 hk,Yy,hP _ (zh hk),Yy,n9 (by omega)];by_cases c:p l[k]=true
   .rw[c,zb rfl,zb rfl,FT hb (Iu (m:=1000000) (by omega) hb2 (by omega)),Yy]
   .rw[Bool.not_eq_true] at c;rw[c,za (by simp),za (by simp)]
  .split;·simp;omega
   .omega
 .simp only[];rw[za (by simp)]
theorem map_eq{α β:Type}{b:Nat}{l:List α}{P:α->Option β}{p:α->β}(hP:∀x∈l,P x=some (p x))(hb:0<b)(hb2:b<=1000)(hl:l.length<=100000) :
  jn (λ(j10:List β)=>some j10) (λκ9=>
  (lp (S:=Int × (List β)) (E:=(List β)) (λ((s12,s13):Int × (List β))=>
   if (decide (s12<(l.length:Int))) then
    (ix l s12).bind λv16=>
    (P v16).bind λv17=>
    (app b s13 [v17]).bind λv18=>
    some (.inl (u7 (s12+1),v18))
   else
   some (.inr s13)) (0,[])).bind λe11=>
  κ9 e11)=some (l.map p):=by
 show (lp _ _).bind (λe16=>some e16)=_;have key:∀(l:List α) (acc:List β),l.foldl (λb x=>b ++ [p x]) acc=acc++l.map p:=by
  intro l;induction l with
  | nil=>intro acc;simp
  | cons x l ih=>intro acc;rw[zai,ih];simp
 rw[U7 (f:=_) l (λb x=>b ++ [p x]) (λb=>b) (λk b=>b.length<=k) (by omega) (zV _) (λk hk b hb'=>?_) (λb _=>?_)];·rw[Yy,key,zcj]
 .constructor
  .simp only[];rw[zb (by simpa using hk),s7 hk,Yy,hP _ (zh hk),Yy,FT hb (Iu (m:=1000000) (by omega) hb2 (by omega)),Yy,n9 (by omega)]
  .simp;omega
 .simp only[];rw[za (by simp)]
theorem Em{α:Type}{l:List α}{P:α->Option Bool}{p:α->Bool}(hP:∀x∈l,P x=some (p x))(hl:l.length<=1000){a:α}(h:l.find? p=some a):∃k:Nat,∃hk:k<l.length,l[k]=a /\
  jn (λ(_:Unit)=>some (-1)) (λκ6=>
  (lp (S:=Int) (E:=Int ⊕ Unit) (λ(s9:Int)=>
   if (decide (s9<(l.length:Int))) then
    (ix l s9).bind λv11=>
    (P v11).bind λv12=>
    if v12 then
     some (.inr (.inl s9))
    else
    some (.inl (u7 (s9+1)))
   else
   some (.inr (.inr ()))) 0).bind λe8=>
  match e8 with
  | .inl w=>some w
  | .inr w=>κ6 w)=some (k:Int):=by
 obtain⟨h1,k,hk,e,hn⟩:=List.find?_eq_some_iff_getElem.1 h;refine⟨k,hk,e,?_⟩;simp only[jn];refine eO l.length (λi=>i<=k) (by omega) (zV _) (λi hi hik=>?_) (λhlk=>by omega);rw[zb (by simpa using hi),s7 hi,Yy,hP _ (zh hi),Yy];rcases zF i k with c | c
 .left;have:=hn i c;simp only[zca] at this;rw[this,za (by simp),n9 (by omega)];exact⟨rfl,c⟩
 .have:i=k:=by omega
  subst this;right;rw[e,h1,zb rfl];exact⟨_,rfl,rfl⟩
theorem El{α:Type}{l:List α}{P:α->Option Bool}{p:α->Bool}(hP:∀x∈l,P x=some (p x))(hl:l.length<=1000)(h:l.find? p=none) :
  jn (λ(_:Unit)=>some (-1)) (λκ6=>
  (lp (S:=Int) (E:=Int ⊕ Unit) (λ(s9:Int)=>
   if (decide (s9<(l.length:Int))) then
    (ix l s9).bind λv11=>
    (P v11).bind λv12=>
    if v12 then
     some (.inr (.inl s9))
    else
    some (.inl (u7 (s9+1)))
   else
   some (.inr (.inr ()))) 0).bind λe8=>
  match e8 with
  | .inl w=>some w
  | .inr w=>κ6 w)=some (-1:Int):=by
 rw[zci] at h;simp only[jn];refine eO l.length (λ_=>True) (by omega) trivial (λi hi _=>.inl ⟨?_,trivial⟩) (λ_=>⟨.inr (),by simp,rfl⟩);have:=h _ (zh hi);rw[Bool.not_eq_true] at this;rw[zb (by simpa using hi),s7 hi,Yy,hP _ (zh hi),Yy,this,za (by simp),n9 (by omega)]
theorem kr{E R:Type}{x:Option E}{e:E}{K:E->Option R}(h:x.bind some=some e):x.bind K=K e:=by
 cases x with
 | none=>cases h
 | some v=>obtain rfl:=zJ h;rfl
theorem DO{α R:Type}{b:Nat}{l:List (List α)}(hb:0<b)(hb2:b<=1000)(hl:l.length<=1000)(hs:l.flatten.length<=100000){K:List α->Option R} :
  (lp (S:=Int × (List α)) (E:=(List α)) (λ((s25,s26):Int × (List α))=>
      if (decide (s25<(l.length:Int))) then
       (ix l s25).bind λv29=>
       (app b s26 v29).bind λv30=>
       some (.inl (u7 (s25+1),v30))
      else
      some (.inr s26)) (0,[])).bind K=K l.flatten:=by
 refine kr (ca (t0:=([]:List α)) l.length (λk acc=>acc=(l.take k).flatten) (by omega) (by simp) (λk acc hk e=>.inl ⟨(l.take (k+1)).flatten,?_,rfl⟩) (λacc e=>⟨l.flatten,?_,rfl⟩))
 .subst e;have h2:(l.take (k+1)).flatten=(l.take k).flatten++l[k]:=by
   rw[zx hk,zby];simp
  have h3:(l.take (k+1)).flatten.length<=l.flatten.length:=by
   conv=>rhs;rw[<-zb5 (k+1) l,zby,zK]
   omega
  simp only[];rw[zb (by simpa using hk),s7 hk,Yy,K5 hb (Iu (m:=100000) (by rw[h2,zK] at h3;omega) hb2 (by omega)),Yy,n9 (by omega),h2]
 .subst e;simp only[];rw[za (by simp),zR]
theorem PJ{R:Type}{α:Type}{l:List (List α)}(hl:l.length<=1000)(hs:l.flatten.length<=100000){K:Int->Option R} :
  (lp (S:=Int × Int) (E:=Int) (λ((s48,s49):Int × Int)=>
   if (decide (s49<(l.length:Int))) then
    jn (λ(j54:Int)=>
     some (.inl (j54,u7 (s49+1)))) (λκ53=>
     (ix l s49).bind λv55=>
     if (decide ((u7 (s48+(v55.length:Int)))<0)) then
      none
     else
     κ53 (u7 (s48+(v55.length:Int))))
   else
   some (.inr s48)) (0,0)).bind K=K (l.flatten.length:Int):=by
 refine kr (Iw (t0:=(0:Int)) l.length (λk acc=>acc=((l.take k).flatten.length:Int)) (by omega) (by simp) (λk acc hk e=>⟨((l.take (k+1)).flatten.length:Int),?_,rfl⟩) (λacc e=>⟨(l.flatten.length:Int),?_,rfl⟩))
 .subst e;have h2:(l.take (k+1)).flatten.length=(l.take k).flatten.length+l[k].length:=by
   rw[zx hk,zby];simp
  have h3:(l.take (k+1)).flatten.length<=l.flatten.length:=by
   conv=>rhs;rw[<-zb5 (k+1) l,zby,zK]
   omega
  simp only[jn];rw[zb (by simpa using hk),s7 hk,Yy,vz (by omega) (by omega),za (by simp;omega),n9 (by omega),h2];congr 4
 .subst e;simp only[];rw[za (by simp),zR]
theorem FZ{α:Type}{b:Nat}{z:α}{l:List (List α)}(hb:0<b)(hb2:b<=1000)(hl:l.length<=1000)(hs:l.flatten.length<=100000) :
 jn (λ(j11:Int)=>
  jn (λ(_:Unit)=>
   if (decide ((u7 (j11-(u7 (0-0)))) > 0)) then
    (mk b (u7 (j11-(u7 (0-0)))) z).bind λv14=>
    jn (λ(j23:List α)=>
     some j23) (λκ22=>
     (lp (S:=Int × (List α)) (E:=(List α)) (λ((s25,s26):Int × (List α))=>
      if (decide (s25<(l.length:Int))) then
       (ix l s25).bind λv29=>
       (app b s26 v29).bind λv30=>
       some (.inl (u7 (s25+1),v30))
      else
      some (.inr s26)) (0,[])).bind λe24=>
     κ22 e24)
   else
   jn (λ(j39:List α)=>
    some j39) (λκ38=>
    (lp (S:=Int × (List α)) (E:=(List α)) (λ((s41,s42):Int × (List α))=>
     if (decide (s41<(l.length:Int))) then
      (ix l s41).bind λv45=>
      (app b s42 v45).bind λv46=>
      some (.inl (u7 (s41+1),v46))
     else
     some (.inr s42)) (0,[])).bind λe40=>
    κ38 e40)) (λκ12=>
   if (decide (j11<0)) then
    none
   else
   κ12 ())) (λκ10=>
  (lp (S:=Int × Int) (E:=Int) (λ((s48,s49):Int × Int)=>
   if (decide (s49<(l.length:Int))) then
    jn (λ(j54:Int)=>
     some (.inl (j54,u7 (s49+1)))) (λκ53=>
     (ix l s49).bind λv55=>
     if (decide ((u7 (s48+(v55.length:Int)))<0)) then
      none
     else
     κ53 (u7 (s48+(v55.length:Int))))
   else
   some (.inr s48)) (0,0)).bind λe47=>
  κ10 e47)=some l.flatten:=by
 refine (PJ hl hs).trans ?_;simp only[jn];have h0:u7 (0-0)=0:=rfl;rw[za (by simp),h0,Int.sub_zero,vz (by omega) (by omega)];have hm:mk b ((l.flatten.length:Nat):Int) z=some (List.replicate l.flatten.length z):=kB (by rw[Nat.mul_comm];have:=Iu (n:=l.flatten.length) (m:=100000) hs hb2 (by omega);omega) (by omega);split
 .rw[hm,Yy];exact DO hb hb2 hl hs
 .exact DO hb hb2 hl hs
structure Bn (m:a8):Prop where
 nl:m.Nodes.length<=24
 up:m.Nodes.Pairwise λa b=>a.Serial<b.Serial
 fl:∀n∈m.Nodes,n.Fields.length<=4
 sg:∀n∈m.Nodes,0<=n.Slot/\n.Slot.toNat<m.Slots.length/\n.Slot.toNat<m.Gens.length
 gg:∀g∈m.Gens,0<=g/\g<=9
 gl:m.Slots.length<=24/\m.Gens.length<=24
structure Bl (m:a8):Prop where
 rl:m.Roots.length<=30
 wl:m.b7.length<=30
 pa:m.Pairs.length<=30
 tl:m.Tasks.length<=200
theorem p9.bn{σ:Int->Int}{x:Hp}{m:a8}(hR:SR x.S)(q:p9 σ x m):Bn m:=by
 refine⟨q.nd.len hR,q.nd.up,λn hn=>?_,λn hn=>?_,λg hg=>?_,?_,?_⟩
 .obtain⟨i,hi,ti,rfl⟩:=(q.nd.mem n).1 hn;show ((Sh.ce x.S i).Val.Fields.map σ).length<=4;rw[zl];exact (hR.ok i hi ti).fl
 .obtain⟨i,hi,ti,rfl⟩:=(q.nd.mem n).1 hn;rw[q.sl,q.ge,zl,zl,zbu];unfold Sh.nd;simp;exact hi
 .rw[q.ge] at hg;obtain⟨i,hi,rfl⟩:=zq.1 hg;have:=hR.cell i (zaw.1 hi);have:=hR.l9;omega
 .rw[q.sl,zl,zbu];exact hR.len
 .rw[q.ge,zl,zbu];exact hR.len
theorem p9.bl{σ:Int->Int}{x:Hp}{m:a8}(hS:kc x)(q:p9 σ x m):Bl m:=by
 refine⟨?_,?_,?_,?_⟩;·rw[q.ro,zl,hS.r6];omega
 .rw[q.ce,zl,hS.c6];omega
 .rw[(q.perm hS).length_eq,zl];have:=rI hS.hr.l8;omega
 .rw[q.tk,zl];have:=hS.q30;omega
theorem WA(m:a8):DC m 0=0:=by
 have h:∀l:List Int,R7 l 0=0:=λl=>by unfold R7;rw[zb rfl]
 unfold DC;rw[h,h,h];have:((m.Nodes.filter (·.Alive)).map λn=>R7 n.Fields 0)=(m.Nodes.filter (·.Alive)).map λ_=>0:=zt λn _=>h _;rw[this];have hz:∀l:List b8,(l.map λ_=>0).sum=0:=λl=>by
  induction l with
  | nil=>rfl
  | cons a l ih=>rw[zT,zbc,ih]
 rw[hz]
theorem yn(m:a8):W3 m=some ⟨m.Tasks,30⟩:=rfl
theorem Iy{m:a8}(B:Bn m):A8 m.Nodes=some (m.Nodes.filter (·.Alive)):=by
 unfold A8;exact kH (λn _=>rfl) (by omega) (by omega) (by have:=B.nl;omega)
theorem Mm:∀(l:List b8),(∀n∈l,n.Fields.length<=4)->(l.map (·.Fields)).flatten.length<=4*l.length
 | [],_=>by simp
 | n::l,h=>by
  have h1:=Mm l λk hk=>h k (zn _ hk);have h2:=h n zg;simp only[zT,List.flatten_cons,zK,zH];omega
theorem vO(y:Int):∀l:List b8,R7 (l.map (·.Fields)).flatten y=(l.map λn=>R7 n.Fields y).sum
 | []=>I1 y
 | x::l=>by rw[zT,List.flatten_cons,F8,vO y l,zT,zbc]
theorem IA{m:a8}(B:Bn m)(C:Bl m)(s:Int):dV m s=some (DC m s:Int):=by
 have hv:B4 m.Pairs=some (m.Pairs.map (·.Val)):=by
  unfold B4;exact map_eq (λn _=>rfl) (by omega) (by omega) (by have:=C.pa;omega)
 have hh:gn ⟨m.Tasks,30⟩=some (jY m):=Oo (q:=⟨m.Tasks,30⟩) (by have:=C.tl;show m.Tasks.length<=1000;omega);have hal:(m.Nodes.filter (·.Alive)).length<=24:=zO (zA ..) B.nl;have hfl:((m.Nodes.filter (·.Alive)).map (·.Fields)).flatten.length<=96:=by
  have:=Mm (m.Nodes.filter (·.Alive)) λn hn=>B.fl n (zi.1 hn).1;omega
 have Kh:(jY m).length<=200:=by
  unfold jY oT;rw[zl];exact zO (zA ..) C.tl
 have eN:(m.Pairs.map (·.Val)).length<=30:=by rw[zl];exact C.pa
 unfold dV;simp only[jn];rw[show kD m=some m from rfl,Yy,hv,Yy,yn,Yy,hh,Yy,Iy B,Yy];refine (kr (e:=[m.Roots,m.Pairs.map (·.Val),jY m]++(m.Nodes.filter (·.Alive)).map (·.Fields)) (ca (t0:=[m.Roots,m.Pairs.map (·.Val),jY m]) (m.Nodes.filter (·.Alive)).length (λk acc=>acc = [m.Roots,m.Pairs.map (·.Val),jY m]++((m.Nodes.filter (·.Alive)).take k).map (·.Fields)) (by omega) (by simp) (λk acc hk e=>.inl ⟨_,?_,rfl⟩) (λacc e=>⟨acc,?_,?_⟩))).trans ?_
 .subst e;simp only[];rw[zb (by simpa using hk),s7 hk,Yy,FT (by omega) (by
   rw[zK,zl,zax];simp;omega),Yy,n9 (by omega),zx hk,zaa,zah]
  rfl
 .simp only[];rw[za (by simp)]
 .subst e;rw[zR]
 .have hlen:([m.Roots,m.Pairs.map (·.Val),jY m]++(m.Nodes.filter (·.Alive)).map (·.Fields)).length<=30:=by
   rw[zK,zl];simp;omega
  have hfla:([m.Roots,m.Pairs.map (·.Val),jY m]++(m.Nodes.filter (·.Alive)).map (·.Fields)).flatten.length<=400:=by
   rw[zby,zK];simp only[List.flatten_cons,List.flatten_nil,zav,zK];have:=C.rl;omega
  have hc:F6 ([m.Roots,m.Pairs.map (·.Val),jY m]++(m.Nodes.filter (·.Alive)).map (·.Fields))=some ([m.Roots,m.Pairs.map (·.Val),jY m]++(m.Nodes.filter (·.Alive)).map (·.Fields)).flatten:=by
   unfold F6;exact FZ (by omega) (by omega) (by omega) (by omega)
  rw[hc,Yy];have hn:DC m s=R7 ([m.Roots,m.Pairs.map (·.Val),jY m]++(m.Nodes.filter (·.Alive)).map (·.Fields)).flatten s:=by
   rw[zby,F8,vO];simp only[List.flatten_cons,List.flatten_nil,zav,F8];unfold DC;omega
  rw[hn];generalize ([m.Roots,m.Pairs.map (·.Val),jY m]++(m.Nodes.filter (·.Alive)).map (·.Fields)).flatten=l at hfla |-;refine ca (t0:=(0:Int)) l.length (λk acc=>acc=(R7 (l.take k) s:Int)) (by omega) (by simp[I1]) (λk acc hk e=>.inl ⟨_,?_,rfl⟩) (λacc e=>⟨_,?_,rfl⟩)
  .subst e;have hlt:=Hf (l.take k) s;rw[zax] at hlt;rw[zx hk,F8,H8,I1];simp only[];rw[zb (by simpa using hk),s7 hk,Yy,n9 (by omega)];by_cases c:l[k]=s/\s≠0
   .rw[zb (by simpa using ⟨c.2,c.1⟩),zb c,vz (by omega) (by omega)];congr 4
   .rw[za (by simpa using λa b=>c ⟨b,a⟩),za c];rfl
  .subst e;simp only[];rw[za (by simp),zR]
theorem yj{m:a8}(B:Bn m){s:Int}{n:b8}(h:m.Nodes.find? (λn=>n.Serial==s)=some n):∃k:Nat,∃hk:k<m.Nodes.length,m.Nodes[k]=n/\I9 m s=some (k:Int):=by
 obtain⟨k,hk,e,r⟩:=Em (P:=λa=>ff a s) (p:=λn=>n.Serial==s) (λn _=>rfl) (by have:=B.nl;omega) h;refine⟨k,hk,e,?_⟩;unfold I9 y7;exact rV r rfl
theorem Qz{m:a8}(B:Bn m){s:Int}(h:m.Nodes.find? (λn=>n.Serial==s)=none):I9 m s=some (-1):=by
 have r:=El (P:=λa=>ff a s) (p:=λn=>n.Serial==s) (λn _=>rfl) (by have:=B.nl;omega) h;unfold I9 y7;exact rV r rfl
theorem lB{l:List b8}{s:Int}{n:b8}(h:l.find? (λn=>n.Serial==s)=some n):n.Serial=s/\n∈l:=by
 have:=List.find?_some h;exact⟨by simpa using this,List.mem_of_find?_eq_some h⟩
theorem PK{l:List b8}(up:l.Pairwise λa b=>a.Serial<b.Serial){k:Nat}(hk:k<l.length){s:Int}(hs:l[k].Serial=s)(f:b8->b8):l.set k (f l[k])=fH l s f:=by
 unfold fH;refine zb2 (by simp) λj h1 h2=>?_;rw[zcq,t8];rw[zl] at h2;by_cases c:k=j
 .subst c;rw[zb rfl,zb hs]
 .have hne:l[j].Serial≠s:=by
   rw[<-hs];rcases zF k j with d | d
   .have:=zat.1 up k j hk h2 d;omega
   .have:=zat.1 up j k h2 hk (by omega);omega
  rw[za c,za hne]
theorem sq{m:a8}(B:Bn m){s:Int}{n:b8}(h:m.Nodes.find? (λn=>n.Serial==s)=some n){F:b8->Option b8}{f:b8->b8}(hF:∀k,F k=some (f k)) :
  ((I9 m s).bind λv1=>(p8 m.Nodes).bind λv2=>(ix v2 v1).bind λv3=>(F v3).bind λv4=>
   some (⟨(v2.set (v1).toNat v4),m.Slots,m.Gens,m.Last,m.Places,m.Serial,m.Roots,m.b7,m.Pairs,m.Tasks,m.Progs⟩:a8))=some (xo m (fH m.Nodes s f)):=by
 obtain⟨k,hk,e,r⟩:=yj B h;have hc:p8 m.Nodes=some m.Nodes:=dj (by omega) (Iu (m:=24) B.nl (by omega) (by omega));rw[r,Yy,hc,Yy,s7 hk,Yy,hF,Yy];rw[zP,PK B.up hk (s:=s) (by rw[e];exact (lB h).1)]
theorem QA{m:a8}(B:Bn m){s:Int}{n:b8}(h:m.Nodes.find? (λn=>n.Serial==s)=some n):Q6 m s=some (uf m s):=sq B h λ_=>rfl
theorem Uc{m:a8}(B:Bn m){s:Int}{n:b8}(h:m.Nodes.find? (λn=>n.Serial==s)=some n):M9 m s=some (xo m (fH m.Nodes s Ff)):=sq B h λ_=>rfl
theorem Wn{m:a8}(B:Bn m){s:Int}{n:b8}(h:m.Nodes.find? (λn=>n.Serial==s)=some n):C6 m s=some (xo m (fH m.Nodes s lx)):=sq B h λ_=>rfl
theorem Ub{m:a8}(B:Bn m){s:Int}{n:b8}(h:m.Nodes.find? (λn=>n.Serial==s)=some n)(l:List Int):O6 m s l=some (xo m (fH m.Nodes s λn=>VW n l)):=sq B h (F:=λk=>fh k l) λ_=>rfl
theorem Bn.fH{m:a8}(B:Bn m){s:Int}{f:b8->b8}(h:∀n∈m.Nodes,n.Serial=s->(f n).Serial=n.Serial/\(f n).Slot=n.Slot/\(f n).Fields.length<=4):Bn (xo m (Sh.fH m.Nodes s f)):=by
 have hser:∀n∈m.Nodes,(if n.Serial=s then f n else n).Serial=n.Serial/\(if n.Serial=s then f n else n).Slot=n.Slot/\(if n.Serial=s then f n else n).Fields.length<=4:=λn hn=>by
  split;·rename_i e;exact h n hn e
  .exact⟨rfl,rfl,B.fl n hn⟩
 refine⟨by show (Sh.fH m.Nodes s f).length<=24;unfold Sh.fH;rw[zl];exact B.nl,?_,λn hn=>?_,λn hn=>?_,B.gg,B.gl⟩
 .show (Sh.fH m.Nodes s f).Pairwise _;unfold Sh.fH;rw[zbk];refine zbq (λ{a b} ha hb q=>?_) B.up;rw[(hser a ha).1,(hser b hb).1];exact q
 .obtain⟨k,hk,rfl⟩:=zq.1 (show n∈Sh.fH m.Nodes s f from hn);exact (hser k hk).2.2
 .obtain⟨k,hk,rfl⟩:=zq.1 (show n∈Sh.fH m.Nodes s f from hn);rw[(hser k hk).2.1];exact B.sg k hk
theorem Bn.fQ{m:a8}(B:Bn m)(s:Int):Bn (fQ m s):=by
 unfold Sh.fQ;split;·exact B.fH λn hn _=>⟨rfl,rfl,B.fl n hn⟩
 .exact B
theorem CC{m:a8}(B:Bn m)(C:Bl m){s:Int}(h:s=0\/∃n,m.Nodes.find? (λn=>n.Serial==s)=some n):dI m s=some (fQ m s):=by
 unfold dI fQ;rw[IA B C,Yy];by_cases c:DC m s<11
 .rw[zb (by simp;omega),za (by omega)]
 .have h0:s≠0:=λe=>by subst e;rw[WA] at c;omega
  obtain⟨n,hn⟩:=h.resolve_left h0;rw[za (by simp;omega),zb ⟨h0,by omega⟩,QA B hn,Yy]
theorem yl{m:a8}(B:Bn m)(C:Bl m){s:Int}(h:s=0\/∃n,m.Nodes.find? (λn=>n.Serial==s)=some n){r:Nat}(hr:r<m.Roots.length):V1 m r s=some (dd m r s):=by
 have hro:(fQ m s).Roots=m.Roots:=by rw[aF]
 have hc:y5 m.Roots=some m.Roots:=dj (by omega) (Iu (m:=30) C.rl (by omega) (by omega));unfold V1;rw[CC B C h,Yy,hro,hc,Yy,s7 hr,Yy,zP];rfl
theorem Mj{m:a8}{s:Int}{n:b8}(h:m.Nodes.find? (λn=>n.Serial==s)=some n):∃n',(fQ m s).Nodes.find? (λn=>n.Serial==s)=some n'/\n'.Prog=n.Prog:=by
 unfold fQ;split
 .refine⟨Dl n,?_,rfl⟩;show (fH m.Nodes s Dl).find? _=_;rw[xK _ (f:=Dl) (λ_=>rfl),h];rfl
 .exact⟨n,h,rfl⟩
theorem Bs{m:a8}(B:Bn m)(C:Bl m){s:Int}{n:b8}(h:m.Nodes.find? (λn=>n.Serial==s)=some n):aU m s=some (qy m s):=by
 obtain⟨n',hn',ep⟩:=Mj h;have B':=B.fQ s;obtain⟨k,hk,e,r⟩:=yj B' hn';unfold aU;rw[CC B C (.inr ⟨n,h⟩),Yy,r,Yy,s7 hk,Yy,e,Uc B' hn',Yy];have ht:(fQ m s).Tasks=m.Tasks:=by rw[aF]
 have hc:G2 m.Tasks=some m.Tasks:=dj (by omega) (Iu (m:=200) C.tl (by omega) (by omega));dsimp only;rw[ht,hc,Yy,FT (by omega) (Iu (m:=201) (by have:=C.tl;omega) (by omega) (by omega)),Yy,ep];unfold qy GN;rw[h];rw[aF];rfl
theorem yk{m:a8}(B:Bn m)(C:Bl m)(s:Int):O7 m s=some (DN m s):=by
 unfold O7;cases h:m.Nodes.find? (λn=>n.Serial==s) with
 | none=>
  rw[Qz B h,Yy,LF h];simp[C7]
 | some n=>
  obtain⟨k,hk,e,r⟩:=yj B h;obtain⟨hs,hm⟩:=lB h;have hd:decide ((k:Int)<0)=false:=zY (by omega);rw[r,Yy,hd,FU h];rw[show (false==false)=true from rfl,fm,s7 hk,Yy,e,zbe];have hnm:ef m.b7 s=some (jg m.b7 s:Int):=Kt _ (by have:=C.wl;omega) s;cases ha:n.Alive
  .rw[show (false==false)=true from rfl,fm,hnm,Yy,zbe];by_cases c:0<jg m.b7 s
   .rw[zb (by simpa using c),zb (.inr c)]
   .rw[za (by simpa using c),za (by simp[c])];obtain⟨g1,g2,g3⟩:=B.sg n hm;have hp:C2 m.Nodes s=some (m.Nodes.filter λk=>k.Serial != s):=by
     unfold C2;exact kH (P:=λa=>ck a s) (λn _=>rfl) (by omega) (by omega) (by have:=B.nl;omega)
    have hc1:y5 m.Slots=some m.Slots:=dj (by omega) (Iu (m:=24) B.gl.1 (by omega) (by omega));have hc2:y5 m.Gens=some m.Gens:=dj (by omega) (Iu (m:=24) B.gl.2 (by omega) (by omega));rw[Yy,hp,Yy,hc1,Yy,hc2,Yy,MK g1 g3,Yy];have hg:m.Gens.getD n.Slot.toNat 0=m.Gens[n.Slot.toNat]:=by rw[zd,zc g3];rfl
    unfold Eg;rw[hg,hs];by_cases d:m.Gens[n.Slot.toNat]=m.Last
    .rw[zb (by simpa using d),MK g1 g2,Yy,zb d,zb d]
    .have hb:=B.gg _ (zh g3);rw[za (by simpa using d),MK g1 g2,Yy,za d,za d,vz (by omega) (by omega)]
  .rw[show (true==false)=false from rfl,IL,Yy];simp
theorem yg(m:a8)(s:Int):(qL m s).Roots=m.Roots/\(qL m s).b7=m.b7/\(qL m s).Pairs=m.Pairs/\(qL m s).Tasks=m.Tasks/\(qL m s).Progs=m.Progs:=by
 unfold qL DN;split;·exact⟨rfl,rfl,rfl,rfl,rfl⟩
 .split <;> exact⟨rfl,rfl,rfl,rfl,rfl⟩
theorem Bl.qL{m:a8}(C:Bl m)(s:Int):Bl (qL m s):=by
 obtain⟨a,b,c,d,_⟩:=yg m s;exact⟨by rw[a];exact C.rl,by rw[b];exact C.wl,by rw[c];exact C.pa,by rw[d];exact C.tl⟩
theorem Wo{m:a8}(B:Bn m)(C:Bl m){s:Int}{n:b8}(h:m.Nodes.find? (λn=>n.Serial==s)=some n):((C6 m s).bind λv21=>O7 v21 s)=some (qL m s):=by
 rw[Wn B h,Yy,yk (B.fH (s:=s) (f:=lx) λn hn _=>⟨rfl,rfl,zV _⟩) ⟨C.rl,C.wl,C.pa,C.tl⟩];rfl
theorem MM{σ:Int->Int}{x:Hp}{m:a8}(hR:SR x.S)(q:p9 σ x m)(C:Bl m){ds:List Int}(hl:ds.length<=24)(hn:ds.Nodup)(hm:∀d∈ds,d∈lv x.S/\(ob x.S d).Strong<12/\(ob x.S d).Weak=Sh.jg x.b7 d)(hi:∀d∈ds,∀c∈x.b7,σ c.Target=σ d->c.Target=d){R:Type}{K:a8->Option R} :
  (lp (S:=Int × a8) (E:=a8) (λ((s16,s17):Int × a8)=>
   if (decide (s16<((ds.map σ).length:Int))) then
    (ix (ds.map σ) s16).bind λv20=>
    (C6 s17 v20).bind λv21=>
    (O7 v21 v20).bind λv22=>
    some (.inl (u7 (s16+1),v22))
   else
   some (.inr s17)) (0,m)).bind K=K ((ds.map σ).foldl Sh.qL m):=by
 refine kr (ca (t0:=m) ds.length (λk acc=>acc=(((ds.take k).map σ).foldl Sh.qL m)/\Bl acc) (by omega) ⟨by simp,C⟩ (λk acc hk e=>.inl ⟨_,?_,rfl,e.2.qL (σ ds[k]) |> λh=>?_⟩) (λacc e=>⟨acc,?_,?_⟩))
 .obtain⟨rfl,C'⟩:=e;have hsub:∀d∈ds.take k,d∈ds:=λd hd=>zae hd;have Q:=p9.TU (ds.take k) hR q (hn.sublist (zcb ..)) (λd hd=>hm d (hsub d hd)) λd hd=>hi d (hsub d hd);obtain⟨r1,r2⟩:=yh (y:=x) hR hn (λd hd=>(hm d hd).1) hk;have hf:=Q.find r1 (o0 r1 r2).d;have hstep:=Wo (Q.bn r1) C' hf;simp only[];rw[zb (by simpa using hk),s7 (by simpa using hk),Yy,t8];have:((C6 ((List.map σ (List.take k ds)).foldl Sh.qL m) (σ ds[k])).bind λv21=>(O7 v21 (σ ds[k])).bind λv22=>some (Sum.inl (β:=a8) (u7 ((k:Int)+1),v22)))=some (Sum.inl (((k+1:Nat):Int),Sh.qL ((List.map σ (List.take k ds)).foldl Sh.qL m) (σ ds[k]))):=by
   rw[<-Option.bind_assoc,hstep,Yy,n9 (by omega)]
  rw[this,zx hk,zaa,zal];rfl
 .rw[zx hk,zaa,zal];rw[e.1] at h;exact h
 .simp only[];rw[za (by simp)]
 .rw[e.1,zR]
theorem Et{σ:Int->Int}{x:Hp}{m:a8}(hx:J8 x)(q:p9 σ x m){ds:List Int}(hn:ds.Nodup)(hm:∀d∈ds,d∈lv x.S)(hs:∀d∈ds,(ob x.S d).Strong<12):eX m (ds.map σ)=some (Ax m (ds.map σ)):=by
 have hS:=hx.sh;have hR:=hS.sr;have C:=q.bl hS;have hlen:ds.length<=24:=zO (Z3 hn hm) (M1 (A0.2 hR));have hln:(ds.map σ).length<=24:=by rw[zl];exact hlen
 have hcl:(cls m.b7 (ds.map σ)).length<=30:=by
  unfold cls;refine zO (zA ..) ?_;rw[zbu];exact C.wl
 have hct:(ju m.b7 (ds.map σ)).length<=30:=by rw[mK];exact hcl
 have h2:B6 (tc (cls m.b7 (ds.map σ))) (ln m.b7 (ds.map σ))=some (ju m.b7 (ds.map σ)):=by
  unfold B6;refine (map_eq (P:=λa=>eY a (ln m.b7 (ds.map σ))) (p:=λa:Int=>(⟨2,a,((ln m.b7 (ds.map σ)).getD a.toNat cz).Call⟩:g5)) (λa ha=>?_) (by omega) (by omega) (by unfold tc;rw[zl];omega)).trans ?_
  .unfold tc at ha;obtain⟨w,hw,rfl⟩:=zq.1 ha;have hwl:w<(ln m.b7 (ds.map σ)).length:=by unfold ln;rw[zl];exact Gc hw
   unfold eY;rw[s7 hwl,Yy,zP,zd,zc hwl];rfl
  .unfold ju tc;rw[za6];congr 1;refine zt λw hw=>?_;have hwl:=Gc hw;show (⟨2,(w:Int),_⟩:g5)=_;congr 1;unfold ln;rw[zP,zd,zB,zc hwl,zd,zc hwl];exact (oB _ _).2.1
 have h3:F1 [m.Tasks,ju m.b7 (ds.map σ)]=some (m.Tasks++ju m.b7 (ds.map σ)):=by
  unfold F1;refine (FZ (by omega) (by omega) (by simp) (by have:=C.tl;simp;omega)).trans ?_;simp
 have h4:C9 m.Pairs (ds.map σ)=some (m.Pairs.filter λp=>decide (p.Key∉ds.map σ)):=by
  unfold C9;refine kH (P:=λa=>eZ a (ds.map σ)) (λp _=>?_) (by omega) (by omega) (by have:=C.pa;omega);unfold eZ;rw[contains_eq _ _ (by omega),Yy];congr 1;by_cases c:p.Key∈ds.map σ
  .simp[c]
  .simp[c]
 unfold eX;simp only[jn];rw[DR _ _ (by have:=C.wl;omega) (by omega),Yy,h2,Yy,h3,Yy,h4,Yy];have q1:=q.RX hx hn hm;have C1:Bl (Vl (Fs (RM m (ln m.b7 (ds.map σ))) (m.Tasks++ju m.b7 (ds.map σ))) (m.Pairs.filter λp=>decide (p.Key∉ds.map σ))):=by
  refine⟨C.rl,?_,?_,?_⟩
  .show (ln m.b7 (ds.map σ)).length<=30;unfold ln;rw[zl];exact C.wl
  .exact zO (zA ..) C.pa
  .show (m.Tasks++ju m.b7 (ds.map σ)).length<=200;rw[zK];have:m.Tasks.length<=30:=by rw[q.tk,zl];exact hS.q30
   omega
 refine (MM (x:=(⟨x.S,x.Roots,ln x.b7 ds,(lf x.T ds).1,⟨x.Q.L++ju x.b7 ds,x.Q.Cap⟩⟩:Hp)) hR q1 C1 hlen hn (λd hd=>⟨hm d hd,hs d hd,?_⟩) λd hd c hc e=>?_).trans rfl
 .show (ob x.S d).Weak=(Sh.jg (ln x.b7 ds) d:Int);have p:=o0 hR (hm d hd);rw[CG,F4 hR p];have:=(hx.wk _ p.1 p.d.2.1).1;rw[<-p.2.2] at this;exact this
 .refine q.gd.Vv hR ?_ (.inr ⟨_,(o0 hR (hm d hd)).d⟩) e;have hc:c∈ln x.b7 ds:=hc;unfold ln at hc;obtain⟨c',hc',rfl⟩:=zq.1 hc;rw[(oB ds c').1];exact ll hS hc'
theorem BJ{m:a8}(h:m.Nodes.find? (RQ m)=none):rP m=m:=by
 unfold rP;rw[h]
theorem KV{m:a8}{n:b8}(h:m.Nodes.find? (RQ m)=some n):rP m=if LY n then qy m n.Serial else Ax m [n.Serial]:=by
 unfold rP;rw[h]
theorem lF{σ:Int->Int}{x:Hp}{m:a8}(hx:J8 x)(q:p9 σ x m):H2 m=some (kZ m):=by
 obtain⟨n,h48,hz,hj,he⟩:=vq hx;have hM:kZ m=gm n m:=by
  have hfix:rP (gm n m)=gm n m:=by
   refine BJ ?_;rw[(q.oi hx n).zr (P6 hx n),hz];rfl
  have key:∀k,gm (n+k) m=gm n m:=λk=>by
   induction k with
   | zero=>rfl
   | succ k ih=>rw[<-rg,jl,ih,hfix]
  have:=key (100-n);rw[show n+(100-n)=100 by omega] at this;exact this
 unfold H2;rw[hM];have hP:∀k,∀a∈(gm k m).Nodes,aM a (gm k m)=some (RQ (gm k m) a):=λk a _=>by
  have qk:=q.oi hx k;have B:=qk.bn (P6 hx k).sh.sr;have C:=qk.bl (P6 hx k).sh;unfold aM RQ;cases a.Alive <;> cases a.Stuck
  .rfl
  .rfl
  .show ((C7 true 0 (dV (gm k m) a.Serial)).bind _)=_;rw[fm,IA B C,Yy];refine zW some ?_;generalize DC (gm k m) a.Serial=c;by_cases c0:c=0
   .subst c0;rfl
   .have h1:((c:Int)==0)=false:=by simpa using c0
    have h2:(c==0)=false:=by simpa using c0
    rw[h1,h2];rfl
  .rfl
 refine kr (K:=some) (lE (κ:=some) (λk=>gm k m) rfl n (λ_=>True) (by omega) trivial (λk hk _=>.inl ⟨?_,trivial⟩) (λ_=>⟨gm n m,?_,rfl⟩))
 .have hxk:=P6 hx k;have qk:=q.oi hx k;have B:=qk.bn hxk.sh.sr;have C:=qk.bl hxk.sh;have hR:=hxk.sh.sr;cases ez:zr (oi k x) with
  | nil=>exact absurd ez (hj k hk)
  | cons z l=>
   obtain⟨hzl,h0⟩:=cS.1 (ez▸zg:z∈zr (oi k x));have p:=o0 hR hzl;have hf:=qk.zr hxk;rw[ez] at hf;have hf:(gm k m).Nodes.find? (RQ (gm k m))=some (Sh.nd σ (oi k x).S (D5 z)):=hf;obtain⟨i,hi,e,r⟩:=Em (hP k) (by have:=B.nl;omega) hf;have r':w8 (gm k m).Nodes (gm k m)=some (i:Int):=r;have hser:(Sh.nd σ (oi k x).S (D5 z)).Serial=σ z:=(qk.gd.f z _ p.d).symm;have hfn:=qk.find hR p.d;rw[r',Yy,za (by simp),s7 hi,Yy,e];rw[show cZ (Sh.nd σ (oi k x).S (D5 z))=some (LY (Sh.nd σ (oi k x).S (D5 z))) from rfl,Yy,jl];rw[KV hf,hser];split;·rw[Bs B C hfn,Yy]
   .have hb:=Et hxk qk (ds:=[z]) (me.2 ⟨by simp,zb3⟩) (λd hd=>by rw[zp] at hd;rw[hd];exact hzl) λd hd=>by
     rw[zp] at hd;rw[hd,h0];decide
    rw[show [σ z] = [z].map σ from rfl,hb,Yy]
 .have hf:=(q.oi hx n).zr (P6 hx n);rw[hz] at hf;have r:=El (hP n) (by have:=((q.oi hx n).bn (P6 hx n).sh.sr).nl;omega) hf;have r':w8 (gm n m).Nodes (gm n m)=some (-1):=r;rw[r',Yy,zb (by decide)]
theorem Bn.Eg{m:a8}(B:Bn m)(h9:m.Last<=9)(n:b8)(hg:∀g∈m.Gens,g<=m.Last):Bn (Sh.Eg m n)/\∀g∈(Sh.Eg m n).Gens,g<=m.Last:=by
 have hgg:∀g∈(if m.Gens.getD n.Slot.toNat 0=m.Last then m.Gens else m.Gens.set n.Slot.toNat (m.Gens.getD n.Slot.toNat 0+1)),0<=g/\g<=m.Last:=λg hgm=>by
  split at hgm;·exact⟨(B.gg g hgm).1,hg g hgm⟩
  .rename_i c;rcases zF n.Slot.toNat m.Gens.length with hl | hl
   .rcases zas hgm with q | rfl
    .exact⟨(B.gg g q).1,hg g q⟩
    .rw[zd,zc hl] at c |-;have a:=B.gg _ (zh hl);have b:=hg _ (zh hl);simp only[ww] at c |-;omega
   .rw[List.set_eq_of_length_le hl] at hgm;exact⟨(B.gg g hgm).1,hg g hgm⟩
 have hlen:(Sh.Eg m n).Slots.length=m.Slots.length/\(Sh.Eg m n).Gens.length=m.Gens.length:=by
  unfold Sh.Eg;refine⟨by simp,?_⟩;dsimp only;split <;> simp
 refine⟨⟨?_,?_,λk hk=>?_,λk hk=>?_,λg hgm=>?_,by rw[hlen.1,hlen.2];exact B.gl⟩,λg hgm=>(hgg g hgm).2⟩;·exact zO (zA ..) B.nl
 .exact B.up.filter _
 .exact B.fl k (zi.1 (show k∈m.Nodes.filter _ from hk)).1
 .rw[hlen.1,hlen.2];exact B.sg k (zi.1 (show k∈m.Nodes.filter _ from hk)).1
 .have:=hgg g hgm;exact⟨this.1,by omega⟩
def OI(m:a8):List Int:=m.Roots++(jY m++(m.Nodes.filter (·.Stuck)).map (·.Serial))
inductive FC (m:a8):Int->Prop
 | base {s:Int}:s∈OI m->FC m s
 | Vt {n:b8} {v:Int}:n∈m.Nodes->FC m n.Serial->v∈n.Fields->FC m v
 | Vx {p:g8}:p∈m.Pairs->FC m p.Key->FC m p.Val
section
variable{σ:Int->Int}{x:Hp}{m:a8}(hx:J8 x)(q:p9 σ x m)
include hx q
theorem On{n:b8}(hn:n∈m.Nodes)(hs:n.Stuck=true):∃h∈lv x.S,n=Sh.nd σ x.S (D5 h)/\n.Serial=σ h/\12<=(ob x.S h).Strong:=by
 have hR:=hx.sh.sr;obtain⟨i,hi,ti,rfl⟩:=(q.nd.mem n).1 hn;have h12:12<=(Sh.ce x.S i).Val.Strong:=by simpa[Sh.nd] using hs
 rcases ti with h1 | h2
 .have hA:At x.S (bX x.S i) i:=⟨hi,h1,rfl⟩;have hl:=(gS hR).2 ⟨i,hA⟩;refine⟨bX x.S i,hl,by rw[hA.d.D5 hR],(q.gd.f _ i hA.d).symm,?_⟩;rw[F4 hR hA];exact h12
 .have:=((hx.wk i hi (.inr h2)).2 h2).2.2;omega
theorem NR{s:Int}(r:FC m s):s=0\/∃h,h∈lv x.S/\s=σ h/\aZ x.S x.T (FF x) h:=by
 have hS:=hx.sh;have hR:=hS.sr;have hot:∀h,h∈lv x.S->h∈oc x->aZ x.S x.T (FF x) h:=λh hl ho=>.base (Ct hx hl ho) hl;induction r with
 | base hb=>
  unfold OI at hb;rcases zu.1 hb with a | a
  .rw[q.ro] at a;obtain⟨h,hh,rfl⟩:=zq.1 a;rcases hS.rt h hh with e | hl
   .exact .inl (by rw[e];exact q.gd.z)
   .refine .inr ⟨h,hl,rfl,hot h hl ?_⟩;unfold oc;exact ut _ (ga.2 ⟨hh,by have:=H4 hR hl;omega⟩)
  .rcases zu.1 a with a | a
   .rw[q.Kh hS] at a;obtain⟨h,hh,rfl⟩:=zq.1 a;obtain⟨t,ht,k,rfl⟩:=lG.1 hh;rcases (hS.tk t ht).2.2 with b | b
    .exact .inr ⟨_,b.2.1,rfl,hot _ b.2.1 (t7 _ hh)⟩
    .rw[b.1] at k;exact absurd k (by decide)
   .obtain⟨n,hn,rfl⟩:=zq.1 a;obtain⟨h,hl,_,e,h12⟩:=On hx q (zi.1 hn).1 (by simpa using (zi.1 hn).2);exact .inr ⟨h,hl,e,.base (pU.2 ⟨hl,.inr h12⟩) hl⟩
 | Vt hn r0 hv ih=>
  rename_i n v;have hp:=q.nd.pos hR hn;obtain⟨h,hl,e,r⟩:=ih.resolve_left (by omega);have p:=o0 hR hl;have en:n=Sh.nd σ x.S (D5 h):=q.nd.one hR hn (q.nd.at hR p.1 p.d.2.1) (by rw[e,q.gd.f h _ p.d];rfl);rw[en] at hv;obtain⟨u,hu,rfl⟩:=zq.1 hv;rw[<-F4 hR p] at hu;rcases hS.fl h hl u hu with e0 | hlu
  .exact .inl (by rw[e0];exact q.gd.z)
  .exact .inr ⟨u,hlu,rfl,.step r (ga.2 ⟨hu,by have:=H4 hR hlu;omega⟩) hlu⟩
 | Vx hp r0 ih=>
  rename_i p;obtain⟨k,v,hh,rfl⟩:=(q.p2 p).1 hp;obtain⟨a,b⟩:=hS.pr k v hh;have hk:=q.gd.ps hR a;obtain⟨h,hl,e,r⟩:=ih.resolve_left (by show σ k≠0;omega);have:k=h:=q.gd.inl hR a hl e;subst this;exact .inr ⟨v,b,rfl,.pair hh r b⟩
theorem UM{h:Int}(r:aZ x.S x.T (FF x) h):FC m (σ h):=by
 have hS:=hx.sh;have hR:=hS.sr;induction r with
 | base hb hl=>
  rename_i h;refine .base ?_;unfold OI;rcases (Gy hx hb).2 with a | a
  .unfold oc at a;rcases zu.1 a with a | a
   .refine ut _ ?_;rw[q.ro];exact zcd (ga.1 a).1
   .refine t7 _ (ut _ ?_);rw[q.Kh hS];exact zcd a
  .refine t7 _ (t7 _ ?_);have p:=o0 hR hl;refine zq.2 ⟨Sh.nd σ x.S (D5 h),zi.2 ⟨q.nd.at hR p.1 p.d.2.1,?_⟩,(q.gd.f h _ p.d).symm⟩;rw[F4 hR p] at a;exact zC a
 | step r ho hl ih=>
  rename_i a b;have hla:=aZ.live r;have p:=o0 hR hla;refine .Vt (q.nd.at hR p.1 p.d.2.1) (by rw[show (Sh.nd σ x.S (D5 a)).Serial=σ a from (q.gd.f a _ p.d).symm];exact ih) ?_;show σ b∈(Sh.ce x.S (D5 a)).Val.Fields.map σ;rw[<-F4 hR p];exact zcd (ga.1 ho).1
 | pair hh r hl ih=>
  exact .Vx ((q.p2 _).2 ⟨_,_,hh,rfl⟩) ih
theorem Rj{h:Int}(hl:h∈lv x.S):FC m (σ h)↔aZ x.S x.T (FF x) h:=by
 refine⟨λr=>?_,UM hx q⟩;have hR:=hx.sh.sr;have:=q.gd.ps hR hl;obtain⟨k,hk,e,r'⟩:=(NR hx q r).resolve_left (by omega);rw[q.gd.inl hR hl hk e];exact r'
theorem Rk{s:Int}(r:FC m s):s=0\/s∈m.Nodes.map (·.Serial):=by
 have hR:=hx.sh.sr;rcases NR hx q r with e | ⟨h,hl,rfl,_⟩
 .exact .inl e
 .have p:=o0 hR hl;exact .inr (zq.2 ⟨_,q.nd.at hR p.1 p.d.2.1,(q.gd.f h _ p.d).symm⟩)
end
section
variable{m:a8}(hser:∀s,FC m s->s=0\/s∈m.Nodes.map (·.Serial))(B:Bn m)
include hser B
def Hh(m:a8)(mp:List (Int × Bool)):Nat:=((m.Nodes.map (·.Serial)).filter λs => !(y9 mp s).getD false).length
structure Jz (m:a8) (q:c9) (mp:List (Int × Bool)):Prop where
 nd:q.L.Nodup
 cap:q.Cap=(m.Nodes.length:Int)
 iv:∀x∈q.L,Mk mp x/\x≠0
 rc:∀x,Mk mp x->x=0\/FC m x
 z:Mk mp 0
omit hser B in
theorem RE {mp:List (Int × Bool)} {x:Int} (hx:x∈m.Nodes.map (·.Serial)) (hm:¬Mk mp x):Hh m (o7 mp x true)<Hh m mp:=by
 unfold Hh;refine filter_lt (λy _ h=>?_) x hx (by simpa[Mk] using hm) ?_
 .by_cases q:Mk mp y
  .have:=(dH mp x y).2 (.inr q);unfold Mk at this;rw[this] at h;cases h
  .simpa[Mk] using q
 .have:=(dH mp x x).2 (.inl rfl);unfold Mk at this;rw[this];rfl
omit B in
theorem Jz.sub {q:c9} {mp:List (Int × Bool)} (h:Jz m q mp):∀y∈q.L,y∈m.Nodes.map (·.Serial):=λy hy=>by
 obtain⟨a,b⟩:=h.iv y hy;exact (hser y ((h.rc y a).resolve_left b)).resolve_left b
omit B in
theorem Jz.room {q:c9} {mp:List (Int × Bool)} (h:Jz m q mp) {x:Int} (hx:x∈m.Nodes.map (·.Serial)) (hm:¬Mk mp x):q.L.length<m.Nodes.length:=by
 have:(x::q.L).length<=(m.Nodes.map (·.Serial)).length:=Z3 (me.2 ⟨λk=>hm (h.iv x k).1,h.nd⟩) λy hy=>by
  rcases zM.1 hy with rfl | k
  .exact hx
  .exact Jz.sub hser h y k
 simp only[zH,zl] at this;omega
theorem rJ{xs:List Int}{q:c9}{mp:List (Int × Bool)}(hlen:xs.length<=1000000)(h0:Jz m q mp)(hr:∀x∈xs,x=0\/FC m x) :
  ∃q' mp',lp (S:=Int × c9 × (List (Int × Bool))) (E:=(c9 × (List (Int × Bool)))) (λ((s148,s149,s150):Int × c9 × (List (Int × Bool)))=>
        if (decide (s148<(xs.length:Int))) then
         jn (λ((j156,j157):c9 × (List (Int × Bool)))=>
          some (.inl (u7 (s148+1),j156,j157))) (λκ155=>
          (ix xs s148).bind λv159=>
          if (!((y9 s150 v159).getD (false:Bool))) then
           (D3 s149 v159).bind λv160=>
           κ155 (v160.1,(o7 s150 v159 true))
          else
          κ155 (s149,s150))
        else
        some (.inr (s149,s150))) (0,q,mp)=some (q',mp')/\Jz m q' mp'/\(∀x,Mk mp' x↔Mk mp x\/x∈xs)/\(∀x,Mk mp' x->Mk mp x\/x∈q'.L)/\(∀x∈q.L,x∈q'.L)/\2*Hh m mp'+q'.L.length<=2*Hh m mp+q.L.length:=by
 have nl:=B.nl;have:=jB (f:=λ((s148,s149,s150):Int × c9 × (List (Int × Bool)))=>
        if (decide (s148<(xs.length:Int))) then
         jn (λ((j156,j157):c9 × (List (Int × Bool)))=>
          some (.inl (u7 (s148+1),j156,j157))) (λκ155=>
          (ix xs s148).bind λv159=>
          if (!((y9 s150 v159).getD (false:Bool))) then
           (D3 s149 v159).bind λv160=>
           κ155 (v160.1,(o7 s150 v159 true))
          else
          κ155 (s149,s150))
        else
        some (.inr (s149,s150))) (t0:=(q,mp)) xs.length (λk t=>Jz m t.1 t.2/\(∀x,Mk t.2 x↔Mk mp x\/x∈xs.take k)/\(∀x,Mk t.2 x->Mk mp x\/x∈t.1.L)/\(∀x∈q.L,x∈t.1.L)/\2*Hh m t.2+t.1.L.length<=2*Hh m mp+q.L.length)
  (λt=>Jz m t.1 t.2/\(∀x,Mk t.2 x↔Mk mp x\/x∈xs)/\(∀x,Mk t.2 x->Mk mp x\/x∈t.1.L)/\(∀x∈q.L,x∈t.1.L)/\2*Hh m t.2+t.1.L.length<=2*Hh m mp+q.L.length) (by omega)
  ⟨h0,λx=>by simp,λx h=>.inl h,λx h=>h,zE _⟩ (λk t hk hP=>?_) (λt hP=>?_)
 .obtain⟨⟨q',mp'⟩,h1,h2⟩:=this;exact⟨q',mp',h1,h2⟩
 .obtain⟨q1,m1⟩:=t;obtain⟨p1,p2,p3,p4,p5⟩:=hP;simp only at p1 p2 p3 p4 p5;left;have ht:∀x,x∈xs.take (k+1)↔x∈xs.take k\/x=xs[k]:=λx=>by rw[zx hk,zu,zp]
  simp only[jn,wp,hk,t6,wn,s7 hk,Yy];by_cases hm:Mk m1 xs[k]
  .rw[za (by rw[show (y9 m1 xs[k]).getD false=true from hm];decide),n9];refine⟨(q1,m1),rfl,p1,λx=>?_,p3,p4,p5⟩;rw[p2,ht];constructor
   .rintro (a | a);·exact .inl a
    .exact .inr (.inl a)
   .rintro (a | a | rfl);·exact .inl a
    .exact .inr a
    .exact (p2 _).1 hm
  .have hm':(y9 m1 xs[k]).getD false=false:=by simpa[Mk] using hm
   have hk0:xs[k]≠0:=λe=>hm (by rw[e];exact p1.z);have hrc:=(hr _ (zh hk)).resolve_left hk0;have hin:=(hser _ hrc).resolve_left hk0;have hroom:=Jz.room hser p1 hin hm;rw[zb (by rw[hm'];decide),IU (by rw[p1.cap];omega) (by omega),Yy,n9];refine⟨(⟨q1.L ++ [xs[k]],q1.Cap⟩,o7 m1 xs[k] true),rfl,⟨?_,p1.cap,λx hx=>?_,λx hx=>?_,?_⟩,λx=>?_,λx hx=>?_,λx hx=>?_,?_⟩
   .simp only;rw[zbt];refine⟨p1.nd,by simp,λa ha b hb e=>?_⟩;rw[zp] at hb;subst hb;subst e;exact hm (p1.iv _ ha).1
   .simp only[zu,zp] at hx;rw[dH];rcases hx with a | a
    .exact⟨.inr (p1.iv x a).1,(p1.iv x a).2⟩
    .exact⟨.inl a,by rw[a];exact hk0⟩
   .rcases (dH m1 xs[k] x).1 hx with rfl | a
    .exact .inr hrc
    .exact p1.rc x a
   .exact (dH m1 xs[k] 0).2 (.inr p1.z)
   .simp only;rw[dH,p2,ht];constructor
    .rintro (rfl | a | a);·exact .inr (.inr rfl)
     .exact .inl a
     .exact .inr (.inl a)
    .rintro (a | a | a);·exact .inr (.inl a)
     .exact .inr (.inr a)
     .exact .inl a
   .simp only[zu,zp];rcases (dH m1 xs[k] x).1 hx with a | a
    .exact .inr (.inr a)
    .rcases p3 x a with b | b
     .exact .inl b
     .exact .inr (.inl b)
   .simp only[zu];exact .inl (p4 x hx)
   .have:=RE hin hm;simp only[zK,List.length_singleton];omega
 .obtain⟨q1,m1⟩:=t;refine⟨(q1,m1),?_,?_⟩;·simp only[zbd,zbz,zD,qr]
  .simpa using hP
omit hser in
theorem Ey {a:Int} (C:Bl m):O8 m a=some ((m.Pairs.filter λp=>p.Key==a).map (·.Val)):=by
 have pa:=C.pa;have h1:C0 m.Pairs a=some (m.Pairs.filter λp=>p.Key==a):=by
  unfold C0;exact kH (P:=λp=>cp p a) (λn _=>rfl) (by omega) (by omega) (by omega)
 have hl:(m.Pairs.filter λp=>p.Key==a).length<=30:=zO (zA ..) pa;unfold O8;rw[h1,Yy];refine rV (a:=(m.Pairs.filter λp=>p.Key==a).map (·.Val)) ?_ rfl;unfold D8;exact map_eq (λn _=>rfl) (by omega) (by omega) (by omega)
theorem Kq(C:Bl m)(hn0:∀n∈m.Nodes,n.Serial≠0)(hp0:∀p∈m.Pairs,p.Key≠0):∃mp,gG m=some mp/\∀s,Mk mp s↔s=0\/FC m s:=by
 have nl:=B.nl;have hst:C4 m.Nodes=some (m.Nodes.filter (·.Stuck)):=by
  unfold C4;exact kH (λn _=>rfl) (by omega) (by omega) (by omega)
 have hsl:(m.Nodes.filter (·.Stuck)).length<=24:=zO (zA ..) nl;have hss:I3 (m.Nodes.filter (·.Stuck))=some ((m.Nodes.filter (·.Stuck)).map (·.Serial)):=by
  unfold I3;refine rV (a:=(m.Nodes.filter (·.Stuck)).map (·.Serial)) ?_ rfl;unfold B5;exact map_eq (λn _=>rfl) (by omega) (by omega) (by omega)
 have hh:gn ⟨m.Tasks,30⟩=some (jY m):=Oo (q:=⟨m.Tasks,30⟩) (by have:=C.tl;show m.Tasks.length<=1000;omega);have Kh:(jY m).length<=200:=by
  unfold jY oT;rw[zl];exact zO (zA ..) C.tl
 have hbl:(OI m).length<=300:=by
  unfold OI;rw[zK,zK,zl];have:=C.rl;omega
 have hc:F6 [m.Roots,jY m,(m.Nodes.filter (·.Stuck)).map (·.Serial)]=some (OI m):=by
  unfold F6;refine (FZ (by omega) (by omega) (by simp) ?_).trans ?_
  .show ([m.Roots,jY m,(m.Nodes.filter (·.Stuck)).map (·.Serial)].flatten).length<=100000;unfold OI at hbl;simpa using zO hbl (by omega)
  .unfold OI;simp
 unfold gG aV;rw[hst,Yy,hss,Yy,Yy,yn,Yy,hh,Yy,hc,Yy];have hz0:Mk (o7 [] 0 true) 0:=(dH [] 0 0).2 (.inl rfl);have hzz:∀x,Mk (o7 [] 0 true) x->x=0:=λx h=>((dH [] 0 x).1 h).resolve_right (by simp[Mk,y9]);obtain⟨q0,m0,e0,i0,i1,i2,i3,i4⟩:=rJ hser B (xs:=OI m) (q:=⟨[],(m.Nodes.length:Int)⟩) (mp:=o7 [] 0 true) (by omega) ⟨zb3,rfl,(λx hx=>by cases hx),(λx h=>.inl (hzz x h)),hz0⟩ (λx h=>.inr (.base h));have hu:Hh m (o7 [] 0 true)<=24:=by
  unfold Hh;refine zO (zA ..) ?_;rw[zl];exact nl
 suffices key:∃mp,(lp (S:=c9 × (List (Int × Bool))) (E:=(List (Int × Bool))) (λ((s102,s103):c9 × (List (Int × Bool)))=>
    (H3 s102).bind λv106=>
    if (decide (v106 > 0)) then
     (W4 s102).bind λv107=>
     (I9 m v107.2.1).bind λv108=>
     (ix m.Nodes v108).bind λv109=>
     (lp (S:=Int × c9 × (List (Int × Bool))) (E:=(c9 × (List (Int × Bool)))) (λ((s162,s163,s164):Int × c9 × (List (Int × Bool)))=>
       if (decide (s162<(v109.Fields.length:Int))) then
        jn (λ((j170,j171):c9 × (List (Int × Bool)))=>
         some (.inl (u7 (s162+1),j170,j171))) (λκ169=>
         (ix v109.Fields s162).bind λv173=>
         if (!((y9 s164 v173).getD (false:Bool))) then
          (D3 s163 v173).bind λv174=>
          κ169 (v174.1,(o7 s164 v173 true))
         else
         κ169 (s163,s164))
       else
       some (.inr (s163,s164))) (0,v107.1,s103)).bind λe161=>
     (O8 m v107.2.1).bind λv128=>
     (lp (S:=Int × c9 × (List (Int × Bool))) (E:=(c9 × (List (Int × Bool)))) (λ((s148,s149,s150):Int × c9 × (List (Int × Bool)))=>
        if (decide (s148<(v128.length:Int))) then
         jn (λ((j156,j157):c9 × (List (Int × Bool)))=>
          some (.inl (u7 (s148+1),j156,j157))) (λκ155=>
          (ix v128 s148).bind λv159=>
          if (!((y9 s150 v159).getD (false:Bool))) then
           (D3 s149 v159).bind λv160=>
           κ155 (v160.1,(o7 s150 v159 true))
          else
          κ155 (s149,s150))
        else
        some (.inr (s149,s150))) (0,e161.1,e161.2)).bind λe147=>
     some (.inl (e147.1,e147.2))
    else
    some (.inr s103)) (q0,m0))=some mp/\∀s,Mk mp s↔s=0\/FC m s by
  obtain⟨mp,h1,h2⟩:=key;refine⟨mp,?_,h2⟩;refine (kr (e:=(q0,m0)) ((Option.bind_fun_some _).trans e0)).trans ?_;exact kr ((Option.bind_fun_some _).trans h1)
 refine uS (s0:=(q0,m0)) (λt=>Jz m t.1 t.2/\(∀x∈OI m,Mk t.2 x)/\∀a,Mk t.2 a->a=0\/a∈t.1.L\/((∀n∈m.Nodes,n.Serial=a->∀b∈n.Fields,Mk t.2 b)/\∀p∈m.Pairs,p.Key=a->Mk t.2 p.Val)) (λmp=>∀s,Mk mp s↔s=0\/FC m s) (λt=>2*Hh m t.2+t.1.L.length)
   ⟨i0,λx h1=>(i1 x).2 (.inr h1),λa ha=>?_⟩ (by show 2*Hh m m0+q0.L.length<_;simp only[zag] at i4;omega) ?_
 .rcases i2 a ha with b | b
  .exact .inl (hzz a b)
  .exact .inr (.inl b)
 .rintro⟨q,mp⟩ ⟨p1,p2,p3⟩;simp only at p1 p2 p3 |-;have hq:=Z3 p1.nd (Jz.sub hser p1);rw[zl] at hq;unfold H3;rw[Yy];cases hqL:q.L with
  | nil=>
   right;refine⟨mp,by rw[za (by simp)],λx=>⟨p1.rc x,λh=>?_⟩⟩;rcases h with rfl | h
   .exact p1.z
   .have cl:∀a,Mk mp a->a≠0->(∀n∈m.Nodes,n.Serial=a->∀b∈n.Fields,Mk mp b)/\∀p∈m.Pairs,p.Key=a->Mk mp p.Val:=λa h1 h2=>by
     rcases p3 a h1 with c | c | c
     .exact absurd c h2
     .rw[hqL] at c;cases c
     .exact c
    induction h with
    | base a=>exact p2 _ a
    | Vt hn r hv ih=>
     rename_i n v;exact (cl _ ih (hn0 n hn)).1 n hn rfl v hv
    | Vx hp r ih=>
     rename_i p;exact (cl _ ih (hp0 p hp)).2 p hp rfl
  | cons a r=>
   left;have hqe:q=⟨a::r,q.Cap⟩:=by rw[<-hqL]
   have haq:a∈q.L:=by rw[hqL];exact zg
   obtain⟨hma,ha0⟩:=p1.iv a haq;have hra:=(p1.rc a hma).resolve_left ha0;have has:=Jz.sub hser p1 a haq;obtain⟨n,hf⟩:∃n,m.Nodes.find? (λn=>n.Serial==a)=some n:=by
    obtain⟨k,hk,e⟩:=zq.1 has;exact zac.1 (List.find?_isSome.2 ⟨k,hk,by simpa using e⟩)
   obtain⟨hns,hnm⟩:=lB hf;obtain⟨i,hi,ei,ri⟩:=yj B hf;have hnd:=p1.nd;rw[hqL] at hnd hq;simp only[zH] at hq;have hfl:=B.fl n hnm;obtain⟨q1,m1,e1',j0,j1,j2,j3,j4⟩:=rJ hser B (xs:=n.Fields) (q:=⟨r,q.Cap⟩) (mp:=mp) (by omega) ⟨(me.1 hnd).2,p1.cap,λx hx=>p1.iv x (by rw[hqL];exact zn _ hx),p1.rc,p1.z⟩ (λx h=>.inr (.Vt hnm (by rw[hns];exact hra) h));have hvl:((m.Pairs.filter λp=>p.Key==a).map (·.Val)).length<=30:=by
    rw[zl];exact zO (zA ..) C.pa
   obtain⟨q2,m2,e2',k0,k1,k2,k3,k4⟩:=rJ hser B (xs:=(m.Pairs.filter λp=>p.Key==a).map (·.Val)) (q:=q1) (mp:=m1) (by omega) j0 (λx h=>by
    obtain⟨p,hp,rfl⟩:=zq.1 h;obtain⟨hp1,hp2⟩:=zi.1 hp;have hk:p.Key=a:=by simpa using hp2
    exact .inr (.Vx hp1 (by rw[hk];exact hra)))
   refine⟨(q2,m2),?_,⟨k0,λx h1=>(k1 x).2 (.inl ((j1 x).2 (.inl (p2 x h1)))),λb hb=>?_⟩,?_⟩
   .rw[zb (by simp),hqe,NK (by omega),Yy];simp only;rw[ri,Yy,s7 hi,Yy,ei];refine rV e1' ?_;simp only;rw[Ey B C,Yy];exact rV e2' rfl
   .simp only at hb |-;have up1:∀x,Mk m1 x->Mk m2 x:=λx h=>(k1 x).2 (.inl h);have up0:∀x,Mk mp x->Mk m2 x:=λx h=>up1 x ((j1 x).2 (.inl h));rcases k2 b hb with c | c
    .rcases j2 b c with d | d
     .rcases p3 b d with f | f | f
      .exact .inl f
      .rw[hqL] at f;rcases zM.1 f with rfl | f
       .refine .inr (.inr ⟨λk hk hks v hv=>?_,λp hp hpk=>?_⟩)
        .have:k=n:=by
          obtain⟨u,hu,eu⟩:=wt hk;obtain⟨w,hw,ew⟩:=wt hnm;rcases Nat.lt_trichotomy u w with c1 | c1 | c1
          .have:=zat.1 B.up u w hu hw c1;rw[eu,ew] at this;omega
          .subst c1;rw[<-eu,<-ew]
          .have:=zat.1 B.up w u hw hu c1;rw[eu,ew] at this;omega
         rw[this] at hv;exact up1 v ((j1 v).2 (.inr hv))
        .exact (k1 _).2 (.inr (zq.2 ⟨p,zi.2 ⟨hp,by simpa using hpk⟩,rfl⟩))
       .exact .inr (.inl (k3 b (j3 b f)))
      .exact .inr (.inr ⟨λk hk hks v hv=>up0 v (f.1 k hk hks v hv),λp hp hpk=>up0 _ (f.2 p hp hpk)⟩)
     .exact .inr (.inl (k3 b d))
    .exact .inr (.inl c)
   .show 2*Hh m m2+q2.L.length<2*Hh m mp+(a::r).length;simp only[zH] at j4 k4 |-;omega
end
theorem uU{l:List b8}(h:l.length<=1000):I3 l=some (l.map (·.Serial)):=by
 unfold I3;refine rV (a:=l.map (·.Serial)) ?_ rfl;unfold B5;exact map_eq (λn _=>rfl) (by omega) (by omega) (by omega)
theorem p9.Ry{σ:Int->Int}{x:Hp}{m:a8}(hR:SR x.S)(q:p9 σ x m):(m.Nodes.filter (·.Alive)).map (·.Serial)=Sh.Ry x:=by
 rw[q.nd.alive hR,za6];unfold Sh.Ry;refine zt λh hh=>?_;show (Sh.ce x.S (D5 h)).Val.Serial=(ob x.S h).Serial;rw[F4 hR (o0 hR hh)]
theorem Iz{σ:Int->Int}{x:Hp}{m:a8}(hR:SR x.S)(q:p9 σ x m):dU m=some (Sh.Ry x):=by
 have B:=q.bn hR;unfold dU;rw[Iy B,Yy,uU (zO (zA ..) (by have:=B.nl;omega)),Yy,q.Ry hR]
theorem Om(x:Hp):(Ry x).length=(lv x.S).length:=by unfold Ry;rw[zl]
theorem VL{p:Prop}{i:Decidable p}(h:¬p):false=@decide p i:=(zY h).symm
theorem VM{p:Prop}{i:Decidable p}(h:p):true=@decide p i:=(zC h).symm
section
variable{σ:Int->Int}{x:Hp}{m:a8}(hx:J8 x)(q:p9 σ x m)
include hx q
theorem Ee:∀d∈dA x,(ob x.S d).Strong<12:=λd hd=>by
 obtain⟨a,b⟩:=(bq (x:=x)).1 hd;rcases Int.lt_or_le (ob x.S d).Strong 12 with c | c
 .exact c
 .exact absurd (.base (pU.2 ⟨a,.inr c⟩) a) b
theorem Kp{mp:List (Int × Bool)}(h:∀s,Mk mp s↔s=0\/FC m s):B7 m.Nodes mp=some ((dA x).map λh=>Sh.nd σ x.S (D5 h)):=by
 have hR:=hx.sh.sr;have B:=q.bn hR;have nl:=B.nl;unfold B7;refine (kH (P:=λn=>bw n mp) (p:=λn=>n.Alive && !((y9 mp n.Serial).getD false)) (λn _=>rfl) (by omega) (by omega) (by omega)).trans ?_;congr 1;rw[<-zan,zan,pm (λn _=>Bool.and_comm _ _),<-zan,q.nd.alive hR,zct];congr 1;unfold dA Vu;refine pm λd hd=>?_;have p:=o0 hR hd;show (!((y9 mp (Sh.ce x.S (D5 d)).Val.Serial).getD false))=_;rw[<-q.gd.f d _ p.d];have h0:σ d≠0:=by have:=q.gd.ps hR hd;omega
 have:(y9 mp (σ d)).getD false=true↔aZ x.S x.T (FF x) d:=by
  rw[<-Rj hx q hd];exact (h (σ d)).trans ⟨λc=>c.resolve_left h0,.inr⟩
 by_cases c:aZ x.S x.T (FF x) d
 .rw[this.2 c];exact VL λe=>e c
 .have hc:(y9 mp (σ d)).getD false=false:=by
   cases e:(y9 mp (σ d)).getD false;·rfl
   .exact absurd (this.1 e) c
  rw[hc];exact VM c
theorem JQ:((dA x).map λh=>Sh.nd σ x.S (D5 h)).filter LY=(jc x).map λh=>Sh.nd σ x.S (D5 h):=by
 have hR:=hx.sh.sr;rw[zct];unfold jc;congr 1;refine pm λd hd=>?_;have hl:=bG hx d hd;have p:=o0 hR hl;rw[F4 hR p];rfl
theorem IB{l:List Int}(hl:∀h∈l,h∈lv x.S):(l.map λh=>Sh.nd σ x.S (D5 h)).map (·.Serial)=l.map σ:=by
 rw[za6];refine zt λh hh=>?_;exact (q.gd.f h _ (o0 hx.sh.sr (hl h hh)).d).symm
end
theorem p9.XY{σ:Int->Int}{x:Hp}{m:a8}(hx:J8 x)(hS:SL x)(hz:Sh.zr x = [])(q:p9 σ x m){l:List Int}(hn:l.Nodup)(hd:∀h∈l,h∈Sh.lv x.S/\due (Sh.ob x.S h)=true) :
  ∀k,k<=l.length->p9 σ ((l.take k).foldl Sh.gh x) (((l.take k).map σ).foldl qy m)
 | 0,_=>q
 | k+1,h=>by
  have ih:=p9.XY hx hS hz q hn hd k (by omega);have hsub:∀h∈l.take k,h∈l:=λh hh=>zae hh;have Q:=yA (l.take k) hx hS hz (hn.sublist (zcb ..)) λh hh=>hd h (hsub h hh);rw[zx (by omega),zaa,zal,zal];exact ih.gh Q.rt.sh Q.rt.fair (by rw[Q.lv];exact (hd _ (zh _)).1)
theorem yV{σ:Int->Int}{x:Hp}{m:a8}(hx:J8 x)(hS:SL x)(hz:Sh.zr x = [])(q:p9 σ x m){l:List Int}(hl:l.length<=24)(hn:l.Nodup)(hd:∀h∈l,h∈Sh.lv x.S/\due (Sh.ob x.S h)=true){R:Type}{K:a8->Option R} :
  (lp (S:=Int × a8) (E:=a8) (λ((s20,s21):Int × a8)=>
   if (decide (s20<((l.map σ).length:Int))) then
    (ix (l.map σ) s20).bind λv24=>
    (aU s21 v24).bind λv25=>
    some (.inl (u7 (s20+1),v25))
   else
   some (.inr s21)) (0,m)).bind K=K ((l.map σ).foldl qy m):=by
 refine kr (ca (t0:=m) l.length (λk acc=>acc=((l.take k).map σ).foldl qy m) (by omega) rfl (λk acc hk e=>.inl ⟨_,?_,rfl⟩) (λacc e=>⟨acc,?_,?_⟩))
 .subst e;have Q:=p9.XY hx hS hz q hn hd k (by omega);have hsub:∀h∈l.take k,h∈l:=λh hh=>zae hh;have D:=yA (l.take k) hx hS hz (hn.sublist (zcb ..)) λh hh=>hd h (hsub h hh);have hR':=D.rt.sh.sr;have hlk:l[k]∈lv ((l.take k).foldl gh x).S:=by rw[D.lv];exact (hd _ (zh hk)).1
  simp only[];rw[zb (by simpa using hk),s7 (by simpa using hk),Yy,t8,Bs (Q.bn hR') (Q.bl D.rt.sh) (Q.find hR' (o0 hR' hlk).d),Yy,n9 (n:=k) (by omega),zx hk,zaa,zal];rfl
 .simp only[];rw[za (by simp)]
 .rw[e,zR]
theorem HL(m:a8)(l:List Int):(Ax m l).Progs=m.Progs:=by
 unfold Ax;have key:∀(l:List Int) (m:a8),(l.foldl qL m).Progs=m.Progs:=λl=>by
  induction l with
  | nil=>exact λm=>rfl
  | cons s l ih=>exact λm=>(ih (qL m s)).trans (yg m s).2.2.2.2
 exact key l _
theorem Jm(m:a8)(s:Int):(qy m s).Progs=m.Progs:=by
 show (fQ m s).Progs=m.Progs;rw[aF]
theorem RA(l:List Int):∀m:a8,(l.foldl qy m).Progs=m.Progs:=by
 induction l with
 | nil=>exact λm=>rfl
 | cons s l ih=>exact λm=>(ih (qy m s)).trans (Jm m s)
theorem xg(m:a8):(kZ m).Progs=m.Progs:=by
 have h1:∀m:a8,(rP m).Progs=m.Progs:=λm=>by
  unfold rP;split;·rfl
  .split;·exact Jm ..
   .exact HL ..
 have:∀n,(gm n m).Progs=m.Progs:=λn=>by
  induction n with
  | zero=>rfl
  | succ n ih=>rw[jl,h1,ih]
 exact this 100
def K3(m:a8)(r:Int):Int:=if r<0 then 0 else m.Roots.getD r.toNat 0
def qz(m:a8)(a s e:Int):a8 × Int × Int:=if e≠0 then (m,0,e) else (dd m a.toNat s,s,0)
def AH(m:a8)(s k v:Int):a8 × Int × Int:=match m.Nodes.find? (λn=>n.Serial==s) with
 | none=>(m,0,2)
 | some n=>if ¬(0<=k/\k<n.Fields.length) then (m,0,5) else (xo (fQ m v) (fH (fQ m v).Nodes s λj=>VW j (n.Fields.set k.toNat v)),v,0)
def wy(m:a8)(s v:Int):a8 × Int × Int:=
 if v≠0/\m.Places<=((m.Pairs.filter λp=>p.Key != s).length:Int) then (m,0,8) else (Vl (fQ m v) ((m.Pairs.filter λp=>p.Key != s)++if v=0 then [] else [⟨s,v⟩]),v,0)
def X7(m:a8)(o:g7):a8 × Int × Int:=
 if o.Kind=10 then (m,if K3 m o.A=K3 m o.B then 1 else 0,0)
 else if o.Kind=5 then (if K3 m o.A=0 then (m,0,2) else AH m (K3 m o.A) o.B (K3 m o.C))
 else if o.Kind=6 then (if 0<=o.B/\K3 m o.B=0 then (m,0,2) else if vZ ⟨m.Tasks,30⟩ o.A=true then (m,0,7) else (La m o.A.toNat (K3 m o.B) o.C,K3 m o.B,0))
 else if o.Kind=8 then (if K3 m o.A=0 then (m,0,2) else wy m (K3 m o.A) (K3 m o.B))
 else if o.Kind=1 then (if m.Slots.findIdx (· == 0)<m.Slots.length then (dd (GD m (m.Slots.findIdx (· == 0)) o.B.toNat o.C) o.A.toNat (m.Serial+1),m.Serial+1,0) else (m,0,4))
 else if o.Kind=2 then qz m o.A (K3 m o.B) 0
 else if o.Kind=4 then (if K3 m o.B=0 then (m,0,2) else match m.Nodes.find? (λn=>n.Serial==K3 m o.B) with
  | none=>(m,0,2)
  | some n=>if ¬(0<=o.C/\o.C<n.Fields.length) then (m,0,5) else qz m o.A (n.Fields.getD o.C.toNat 0) 0)
 else if o.Kind=7 then (if (m.b7.getD o.B.toNat cz).Target=0\/(m.b7.getD o.B.toNat cz).Intact=false then (m,0,9) else qz m o.A (m.b7.getD o.B.toNat cz).Target 0)
 else if o.Kind=9 then (if K3 m o.B=0 then (m,0,2) else match (m.Pairs.find? λp=>p.Key==K3 m o.B) with
  | none=>(m,0,9)
  | some p=>qz m o.A p.Val 0)
 else qz m o.A 0 0
def AB(m:a8)(o:g7):a8 × Int × Int:=if (X7 m o).2.2≠0 then (m,0,(X7 m o).2.2) else (kZ (X7 m o).1,(X7 m o).2.1,0)
theorem Dn.jd{x z:Hp}{o:g7}{v:Int}(d:Dn x o z v):Sh.jd x o=(bz z,v,0):=by unfold Sh.jd;rw[d.mc];rfl
theorem Er.jd{x:Hp}{o:g7}{e:Int}(h:Er x o e):Sh.jd x o=(x,0,e):=by unfold Sh.jd;rw[h.2.1];rfl
section
variable{σ:Int->Int}{x:Hp}{m:a8}(hx:J8 x)(q:p9 σ x m)
include hx q
theorem p9.said(r:Int):K3 m r=σ (sd x r):=by
 unfold K3 sd;split;·exact q.gd.z.symm
 .rw[q.ro,zd,zB,zd];cases x.Roots[r.toNat]? with
  | none=>exact q.gd.z.symm
  | some v=>rfl
theorem p9.nU(r:Int):K3 m r=0↔sd x r=0:=by
 rw[q.said hx];exact q.gd.zero hx.sh.sr (MT hx.sh.sr q.gd (dX hx.sh r))
theorem p9.aW{h:Int}(hh:h=0\/h∈lv x.S):Sh.aW x h=σ h:=by
 rcases hh with e | hl
 .subst e;rw[EZ hx.sh,q.gd.z]
 .exact (q.gd.lv hx.sh.sr hl).symm
theorem p9.HI{h:Int}(hl:h∈lv x.S):m.Nodes.find? (λn=>n.Serial==σ h)=some (Sh.nd σ x.S (D5 h))/\(Sh.nd σ x.S (D5 h)).Fields=(ob x.S h).Fields.map σ:=by
 have p:=o0 hx.sh.sr hl;refine⟨q.find hx.sh.sr p.d,?_⟩;rw[F4 hx.sh.sr p];rfl
structure ke (σ:Int->Int) (x:Hp) (m:a8) (o:g7):Prop where
 r:(∃e,e≠0/\X7 m o=(m,0,e)/\Sh.jd x o=(x,0,e))\/∃σ' z mz v,X7 m o=(mz,v,0)/\J8 z/\SL z/\p9 σ' z mz/\Sh.jd x o=(bz z,v,0)/\mz.Progs=m.Progs/\mz.Roots.length=6
theorem FR(s:Int):(fQ m s).Progs=m.Progs:=by rw[aF]
theorem yJ{o:g7}{a h:Int}(hr:J8 (G0 x a.toNat h))(hs:SL (G0 x a.toNat h))(hh:h=0\/h∈lv x.S)(hp:X7 m o=(dd m a.toNat (σ h),σ h,0))(hd:Sh.jd x o=(bz (G0 x a.toNat h),Sh.aW x h,0)):ke σ x m o:=
 ⟨.inr ⟨σ,_,_,σ h,hp,hr,hs,q.G0 hx.sh hx.fair hh,by rw[hd,q.aW hx hh],by show (fQ m (σ h)).Progs=_;exact FR hx q _,by
  show (m.Roots.set a.toNat (σ h)).length=6;rw[zap,q.ro,zl];exact hx.sh.r6⟩⟩
theorem il{o:g7}{e:Int}(he:Er x o e)(hp:X7 m o=(m,0,e)):ke σ x m o:=⟨.inl ⟨e,he.1,hp,he.jd⟩⟩
theorem XR(hS:SL x){a b c:Int}(hc:y4 2 a b c=0):ke σ x m ⟨2,a,b,c⟩:=by
 have d:=d2 hx hS hc;refine yJ hx q d.rt d.sl (dX hx.sh b) ?_ d.jd;show qz m a (K3 m b) 0=_;rw[q.said hx];rfl
theorem XS(hS:SL x){a b c:Int}(hc:y4 3 a b c=0):ke σ x m ⟨3,a,b,c⟩:=by
 have d:=d3 hx hS hc;refine yJ hx q (h:=0) d.rt d.sl (.inl rfl) ?_ (by rw[EZ hx.sh];exact d.jd);show qz m a 0 0=_;rw[q.gd.z];rfl
theorem WH(hS:SL x)(hz:zr x = []){a b c:Int}(hc:y4 10 a b c=0):ke σ x m ⟨10,a,b,c⟩:=by
 have d:=d10 hx hS hz hc;refine⟨.inr ⟨σ,x,m,_,rfl,hx,hS,q,?_,rfl,?_⟩⟩
 .rw[d.jd];show (_,_,_)=(_,(if K3 m a=K3 m b then (1:Int) else 0),_);have:K3 m a=K3 m b↔sd x a=sd x b:=by
   rw[q.said hx,q.said hx];exact⟨λe=>q.gd.Vv hx.sh.sr (MT hx.sh.sr q.gd (dX hx.sh a)) (MT hx.sh.sr q.gd (dX hx.sh b)) e,λe=>by rw[e]⟩
  by_cases c':sd x a=sd x b
  .rw[zb c',zb (this.2 c')]
  .rw[za c',za λe=>c' (this.1 e)]
 .rw[q.ro,zl];exact hx.sh.r6
theorem XV(hS:SL x){a b c:Int}(hc:y4 7 a b c=0):ke σ x m ⟨7,a,b,c⟩:=by
 obtain⟨h,d⟩:=d7 hx hS hc;have hg:m.b7.getD b.toNat cz=wx σ x.b7[b.toNat]:=by
  rw[q.ce,zd,zB,zc h];rfl
 have hp:X7 m ⟨7,a,b,c⟩=if (wx σ x.b7[b.toNat]).Target=0\/(wx σ x.b7[b.toNat]).Intact=false then (m,0,9) else qz m a (wx σ x.b7[b.toNat]).Target 0:=by
  rw[<-hg];rfl
 rcases d with ⟨hi,er⟩ | ⟨hi,d⟩;·exact il hx q er (by rw[hp,zb (.inr hi)])
 .have hl:=((hx.sh.cl _ h).2.2.2.2 hi).1;refine yJ hx q d.rt d.sl (.inr hl) ?_ d.jd;have h0:σ x.b7[b.toNat].Target≠0:=by have:=q.gd.ps hx.sh.sr hl;omega
  rw[hp,za];·rfl
  .rintro (e | e);·exact h0 e
   .have:x.b7[b.toNat].Intact=false:=e;rw[hi] at this;cases this
theorem XX(hS:SL x){a b c:Int}(hc:y4 9 a b c=0):ke σ x m ⟨9,a,b,c⟩:=by
 have hR:=hx.sh.sr;have hp0:K3 m b=0->X7 m ⟨9,a,b,c⟩=(m,0,2):=λe=>by
  show (if K3 m b=0 then (m,0,2) else _)=_;rw[zb e]
 have hp1:K3 m b≠0->X7 m ⟨9,a,b,c⟩=match (m.Pairs.find? λp=>p.Key==K3 m b) with
  | none=>(m,0,9)
  | some p=>qz m a p.Val 0:=λe=>by
  show (if K3 m b=0 then (m,0,2) else _)=_;rw[za e]
 rcases d9 hx hS hc with ⟨e,er⟩ | ⟨hl,hno,er⟩ | ⟨hl,v,hv,d⟩;·exact il hx q er (hp0 ((q.nU hx b).2 e))
 .have h0:K3 m b≠0:=λe=>eQ hR ((q.nU hx b).1 e▸hl);refine il hx q er ?_;rw[hp1 h0];have:(m.Pairs.find? λp=>p.Key==K3 m b)=none:=by
   rw[zci];intro p hp e;obtain⟨k,v,hh,rfl⟩:=(q.p2 p).1 hp;have e:σ k=K3 m b:=by simpa using e
   rw[q.said hx] at e;have:=q.gd.inl hR (hx.sh.pr k v hh).1 hl e;subst this;exact hno v hh
  rw[this]
 .have h0:K3 m b≠0:=λe=>eQ hR ((q.nU hx b).1 e▸hl);have hvl:=(hx.sh.pr _ _ hv).2;refine yJ hx q d.rt d.sl (.inr hvl) ?_ d.jd;rw[hp1 h0];cases hf:(m.Pairs.find? λp=>p.Key==K3 m b) with
  | none=>
   rw[zci] at hf;have:=hf ⟨σ (sd x b),σ v⟩ ((q.p2 _).2 ⟨_,_,hv,rfl⟩);exact absurd (by rw[q.said hx];simp) this
  | some p=>
   obtain⟨k,u,hh,rfl⟩:=(q.p2 p).1 (List.mem_of_find?_eq_some hf);have e:σ k=K3 m b:=by have:=List.find?_some hf;simpa using this
   rw[q.said hx] at e;have:=q.gd.inl hR (hx.sh.pr k u hh).1 hl e;subst this;rw[Has.fn hx.sh.hr hh hv];rfl
theorem XT(hS:SL x){a b c:Int}(hc:y4 4 a b c=0):ke σ x m ⟨4,a,b,c⟩:=by
 have hR:=hx.sh.sr;have hp0:K3 m b=0->X7 m ⟨4,a,b,c⟩=(m,0,2):=λe=>by
  show (if K3 m b=0 then (m,0,2) else _)=_;rw[zb e]
 have hp1:sd x b∈lv x.S->X7 m ⟨4,a,b,c⟩=if ¬(0<=c/\c<(ob x.S (sd x b)).Fields.length) then (m,0,5) else qz m a (((ob x.S (sd x b)).Fields.map σ).getD c.toNat 0) 0:=λhl=>by
  have h0:K3 m b≠0:=λe=>eQ hR ((q.nU hx b).1 e▸hl);obtain⟨hf,hfl⟩:=q.HI hx hl;show (if K3 m b=0 then (m,0,2) else match m.Nodes.find? (λn=>n.Serial==K3 m b) with
   | none=>(m,0,2)
   | some n=>if ¬(0<=c/\c<n.Fields.length) then (m,0,5) else qz m a (n.Fields.getD c.toNat 0) 0)=_
  rw[za h0,q.said hx,hf];dsimp only;rw[hfl,zl]
 rcases dX hx.sh b with e0 | hl
 .have er2:Er x ⟨4,a,b,c⟩ 2:=by
   rcases d4 hx hS hc with ⟨_,er⟩ | ⟨e,hf,er⟩ | ⟨hl,_⟩;·exact er
   .rw[e0] at hf;have:e=2:=by
     unfold J4 at hf;have hg:x6 x.S 0=some (z0,2):=by
      have:=xZ (s:=x.S.S) (h:=0) (by decide) (λi hi=>by
       have:=((rq hR).1 hi).KK hR;omega)
      unfold x6;rw[this];rfl
     rw[hg] at hf;have:=zJ hf;exact (zW Prod.snd this).symm
    rw[<-this];exact er
   .rw[e0] at hl;exact absurd hl (eQ hR)
  exact il hx q er2 (hp0 ((q.nU hx b).2 e0))
 .by_cases hcc:0<=c/\c<(ob x.S (sd x b)).Fields.length
  .have hp:=hp1 hl;rw[za (λd=>d hcc)] at hp;rcases d4 hx hS hc with ⟨e,_⟩ | ⟨e,hf,er⟩ | ⟨_,n,rfl,hn,d⟩;·exact absurd (e▸hl) (eQ hR)
   .exfalso;obtain⟨n,rfl⟩:∃n:Nat,c=n:=⟨c.toNat,by omega⟩;rw[DX hR hl (by omega)] at hf;exact er.1 (zW Prod.snd (zJ hf)).symm
   .refine yJ hx q d.rt d.sl (hx.sh.fl _ hl _ (zh hn)) ?_ d.jd;rw[hp,zP,zd,zB,zc hn];rfl
  .refine il hx q (e:=5) ?_ (by rw[hp1 hl,zb hcc]);rcases d4 hx hS hc with ⟨e,_⟩ | ⟨e,hf,er⟩ | ⟨_,n,rfl,hn,d⟩;·exact absurd (e▸hl) (eQ hR)
   .have:e=5:=by
     unfold J4 at hf;rw[uT (A0.2 hR) hl,Yy,za (by simp),(HG hcc).1] at hf;exact (zW Prod.snd (zJ hf)).symm
    rw[<-this];exact er
   .exact absurd ⟨by omega,by omega⟩ hcc
end
section
variable{σ:Int->Int}{x:Hp}{m:a8}(hx:J8 x)(q:p9 σ x m)
include hx q
theorem p9.r6:m.Roots.length=6:=by rw[q.ro,zl];exact hx.sh.r6
theorem XU(hS:SL x){a b c:Int}(hc:y4 5 a b c=0):ke σ x m ⟨5,a,b,c⟩:=by
 have hR:=hx.sh.sr;have hp0:K3 m a=0->X7 m ⟨5,a,b,c⟩=(m,0,2):=λe=>by
  show (if K3 m a=0 then (m,0,2) else _)=_;rw[zb e]
 have hp1:sd x a∈lv x.S->X7 m ⟨5,a,b,c⟩=if ¬(0<=b/\b<(ob x.S (sd x a)).Fields.length) then (m,0,5) else (xo (fQ m (σ (sd x c))) (fH (fQ m (σ (sd x c))).Nodes (σ (sd x a)) λj=>VW j (((ob x.S (sd x a)).Fields.map σ).set b.toNat (σ (sd x c)))),σ (sd x c),0):=λhl=>by
  have h0:K3 m a≠0:=λe=>eQ hR ((q.nU hx a).1 e▸hl);obtain⟨hf,hfl⟩:=q.HI hx hl;show (if K3 m a=0 then (m,0,2) else AH m (K3 m a) b (K3 m c))=_;rw[za h0,q.said hx,q.said hx];unfold AH;rw[hf];dsimp only;rw[hfl,zl]
 rcases dX hx.sh a with e0 | hl
 .have er2:Er x ⟨5,a,b,c⟩ 2:=by
   rcases d5 hx hS hc with ⟨_,er⟩ | ⟨e,hf,er⟩ | ⟨hl,_⟩;·exact er
   .rw[e0] at hf;have:e=2:=by
     unfold au J4 at hf;have hg:x6 x.S 0=some (z0,2):=by
      have:=xZ (s:=x.S.S) (h:=0) (by decide) (λi hi=>by
       have:=((rq hR).1 hi).KK hR;omega)
      unfold x6;rw[this];rfl
     rw[hg] at hf;have:=zJ hf;exact (zW Prod.snd this).symm
    rw[<-this];exact er
   .rw[e0] at hl;exact absurd hl (eQ hR)
  exact il hx q er2 (hp0 ((q.nU hx a).2 e0))
 .by_cases hcc:0<=b/\b<(ob x.S (sd x a)).Fields.length
  .have hp:=hp1 hl;rw[za (λd=>d hcc)] at hp;have hv:=dX hx.sh c;rcases xJ hx hS (sd x a) b (sd x c) (jP hx.sh a) (jP hx.sh c) with ⟨e,he,f1,_⟩ | ⟨_,_,n,rfl,hn,f0,_⟩
   .exfalso;obtain⟨n,rfl⟩:∃n:Nat,b=n:=⟨b.toNat,by omega⟩;unfold au at f1;rw[DX hR hl (by omega),Yy,za (by simp),N3 hR (jP hx.sh c),Yy,zC hv,za (by simp)] at f1;cases g:F9 x (ob x.S (sd x a)).Fields[n] (sd x c) (⟨sd x a,n,sd x c⟩:H0) with
    | none=>rw[g] at f1;cases f1
    | some w=>
     rw[g] at f1;exact he (zW Prod.snd (zJ f1)).symm
   .rcases d5 hx hS hc with ⟨e,_⟩ | ⟨e,hf,er⟩ | ⟨_,k,hk,hkn,d⟩;·exact absurd (e▸hl) (eQ hR)
    .exfalso;rcases xJ hx hS (sd x a) n (sd x c) (jP hx.sh a) (jP hx.sh c) with ⟨e,he,f1,_⟩ | ⟨_,_,n',h',hn',f1,_⟩
     .rw[f0] at f1;exact he (zW Prod.snd (zJ f1)).symm
     .rw[hf] at f1;exact er.1 (zW Prod.snd (zJ f1))
    .have:k=n:=by omega
     subst this;refine⟨.inr ⟨σ,_,_,_,hp,d.rt,d.sl,?_,?_,?_,?_⟩⟩
     .rw[zP];exact q.bF hx.sh hx.fair hl hv
     .rw[d.jd,q.aW hx hv]
     .show (fQ m _).Progs=_;exact FR hx q _
     .show (fQ m (σ (sd x c))).Roots.length=_;rw[aF];exact (q.r6 hx:m.Roots.length=6)
  .refine il hx q (e:=5) ?_ (by rw[hp1 hl,zb hcc]);rcases d5 hx hS hc with ⟨e,_⟩ | ⟨e,hf,er⟩ | ⟨_,n,rfl,hn,d⟩;·exact absurd (e▸hl) (eQ hR)
   .obtain rfl:e=5:=by
     unfold au J4 at hf;rw[uT (A0.2 hR) hl,Yy,za (by simp),(HG hcc).1] at hf;exact (zW Prod.snd (zJ hf)).symm
    exact er
   .exact absurd ⟨by omega,by omega⟩ hcc
theorem p9.Yb(k:Int):Sh.vZ ⟨m.Tasks,30⟩ k=Sh.vZ x.Q k:=by
 rw[zbm,gK,gK];have hk:∀t:g5,(tx σ t).Kind=t.Kind/\(t.Kind=2->(tx σ t).At=t.At):=λt=>by
  unfold tx;split;·rename_i h;exact⟨h.symm,λe=>by omega⟩
  .exact⟨rfl,λ_=>rfl⟩
 constructor
 .rintro⟨u,hu,k1,k2⟩;have hu:u∈x.Q.L.map (tx σ):=by rw[<-q.tk];exact hu
  obtain⟨t,ht,rfl⟩:=zq.1 hu;have:=(hk t).1;exact⟨t,ht,by omega,by rw[<-(hk t).2 (by omega)];exact k2⟩
 .rintro⟨t,ht,k1,k2⟩;refine⟨tx σ t,?_,by rw[(hk t).1];exact k1,by rw[(hk t).2 k1];exact k2⟩;show _∈m.Tasks;rw[q.tk];exact zcd ht
theorem FA(w:Nat)(s call:Int):(La m w s call).Progs=m.Progs/\(La m w s call).Roots=m.Roots:=by
 unfold La DN;split;·exact⟨rfl,rfl⟩
 .split <;> exact⟨rfl,rfl⟩
theorem pre6(hS:SL x){a b c:Int}(hc:y4 6 a b c=0):ke σ x m ⟨6,a,b,c⟩:=by
 have hR:=hx.sh.sr;obtain⟨ha,hb,hcc⟩:=PL hc;have hp:X7 m ⟨6,a,b,c⟩=if 0<=b/\K3 m b=0 then (m,0,2) else if Sh.vZ ⟨m.Tasks,30⟩ a=true then (m,0,7) else (La m a.toNat (K3 m b) c,K3 m b,0):=rfl
 rw[q.Yb hx,q.said hx] at hp;have hl:=dX hx.sh b;have hz:σ (sd x b)=0↔sd x b=0:=by rw[<-q.said hx];exact q.nU hx b
 by_cases h0:0<=b/\sd x b=0
 .have er2:Er x ⟨6,a,b,c⟩ 2:=by
   have hm:u4 x ⟨6,a,b,c⟩=_:=Tp hc;unfold L4 at hm;rw[za (by simp;omega),jh hx.sh,Yy] at hm;have has:Aq x b=(0,2):=by unfold Aq;rw[zb h0.2]
   rw[has,zb (by simp)] at hm;refine⟨by decide,?_,?_⟩
   .rw[hm,Yy];exact kl (e:=2) (by decide)
   .trivial
  exact il hx q er2 (by rw[hp,zb ⟨h0.1,hz.2 h0.2⟩])
 .rw[za (λd=>h0 ⟨d.1,hz.1 d.2⟩)] at hp;have key:(∃e,R4 x a (sd x b) c=some (x,e)/\Er x ⟨6,a,b,c⟩ e)\/(vZ x.Q a=false/\Dn x ⟨6,a,b,c⟩ (cH x a.toNat (sd x b) c) (aW x (sd x b))):=by
   rcases d6 hx hS hc with ⟨e,er⟩ | k | k
   .exfalso;have hb1:b = -1:=by omega
    subst hb1;have hm:u4 x ⟨6,a,-1,c⟩=_:=Tp hc;rw[er.2.1] at hm;unfold L4 at hm;rw[zb (by rfl)] at hm;rcases Dw hx a 0 c (by omega) hcc with ⟨e',he',f1,_⟩ | ⟨_,n,rfl,hn,hw,f1,_⟩
    .rw[f1,Yy,Yy,kl he'] at hm;have:=Fy hx ha (.inl rfl) (by omega) hcc f1 he';have:=zW (λp=>p.2.2) (zJ hm);dsimp only at this;omega
    .rw[f1,Yy,Yy] at hm;have:=RZ (a:=(n:Int)) (b:=-1) (c:=c) (z:=cH x n 0 c) (vU hx hn (.inl rfl) hcc hw) (Fu hx hS hn _ _) (k:=6) (r:=-1) (x:=x) (.inr ⟨.inl rfl,rfl⟩);dsimp only at hm;rw[this] at hm;have:=zW (λp=>p.2.2) (zJ hm);exact absurd (show (2:Int)=0 from this) (by decide)
   .exact .inl k
   .exact .inr k
  rcases key with ⟨e,hf,er⟩ | ⟨hw,d⟩
  .obtain rfl:=Fy hx ha hl (jP hx.sh b) hcc hf er.1;refine il hx q er ?_;rcases Dw hx a (sd x b) c (jP hx.sh b) hcc with ⟨e',he',f1,_⟩ | ⟨_,n,rfl,hn,hw,f1,_⟩
   .rw[hp,zb];unfold R4 at hf;obtain⟨n,rfl⟩:∃n:Nat,a=n:=⟨a.toNat,by omega⟩;have c6:=hx.sh.c6;have q30:=hx.sh.q30;have e1:((decide ((n:Int)<0))||(decide ((n:Int)>=(x.b7.length:Int))))=false:=by rw[c6];simp;omega
    rw[e1] at hf;simp only[ul,fm,zbe] at hf;have hwq:aD x.Q n=some (vZ x.Q n):=xi (by omega);rw[hwq,Yy,N3 hR (jP hx.sh b),Yy,zC hl] at hf;cases hw:vZ x.Q n
    .exfalso;rw[hw,za (by decide),za (by decide)] at hf;cases g1:jS x.b7 n (sd x b) c with
     | none=>rw[g1] at hf;cases hf
     | some a=>
      rw[g1,Yy] at hf;cases g2:ah ⟨x.S,x.Roots,a.1,x.T,x.Q⟩ (sd x b) 1 with
      | none=>rw[g2] at hf;cases hf
      | some b'=>
       rw[g2,Yy] at hf;cases g3:aR b' a.2.1 with
       | none=>rw[g3] at hf;cases hf
       | some d=>
        rw[g3,Yy] at hf;exact absurd (zW (λp=>p.2) (zJ hf)) (by simp)
    .rfl
   .rw[hf] at f1;exact absurd (zW Prod.snd (zJ f1)) (by simp)
  .rw[hw,za (by simp)] at hp;refine⟨.inr ⟨σ,_,_,_,hp,d.rt,d.sl,q.cH hx (by omega) hl,by rw[d.jd,q.aW hx hl],?_,?_⟩⟩;·exact (FA hx q ..).1
   .rw[(FA hx q ..).2];exact q.r6 hx
end
section
variable{σ:Int->Int}{x:Hp}{m:a8}(hx:J8 x)(q:p9 σ x m)
include hx q
theorem p9.Ys{k:Int}(hk:k∈lv x.S):(m.Pairs.filter λp=>p.Key != σ k).length=(x.T.filter λp=>p.State==1&&p.Key != k).length:=by
 have hR:=hx.sh.sr;rw[((q.perm hx.sh).filter _).length_eq,jH,za6,zct,zl,zan];congr 1;refine pm λp hp=>?_;show ((σ p.Key != σ k)&&(p.State==1))=_;by_cases h1:p.State=1
 .obtain⟨i,hi,rfl⟩:=wt hp;have hh:Has x.T x.T[i].Key x.T[i].Val:=⟨i,⟨hi,by rw[lP hi];exact h1,by rw[lP hi]⟩,by rw[lP hi]⟩;have hl:=(hx.sh.pr _ _ hh).1;by_cases c:x.T[i].Key=k
  .rw[c];simp
  .have:σ x.T[i].Key≠σ k:=λe=>c (q.gd.inl hR hl hk e);have a1:(σ x.T[i].Key != σ k)=true:=bne_iff_ne.2 this;have a2:(x.T[i].Key != k)=true:=bne_iff_ne.2 c;rw[a1,a2,za5,Bool.and_true]
 .have:(p.State==1)=false:=beq_eq_false_iff_ne.2 h1;rw[this,Bool.and_false,Bool.false_and]
theorem p9.full{k:Int}(hk:k∈lv x.S):m.Places<=((m.Pairs.filter λp=>p.Key != σ k).length:Int)↔(∀i,¬Fk x.T k i)/\∀i,i<x.T.length->(pt x.T i).State=1:=by
 rw[q.Ys hx hk,q.npl];have hle:=zA (λp:e6=>p.State==1&&p.Key != k) x.T;constructor
 .intro h;have e:(x.T.filter λp=>p.State==1&&p.Key != k).length=x.T.length:=by omega
  rw[List.length_filter_eq_length_iff] at e;have e':∀i,i<x.T.length->(pt x.T i).State=1/\(pt x.T i).Key≠k:=λi hi=>by
   rw[lP hi];simpa using e _ (zh hi)
  exact⟨λi hi=>(e' i hi.1).2 hi.2.2,λi hi=>(e' i hi).1⟩
 .rintro⟨h1,h2⟩;have e:(x.T.filter λp=>p.State==1&&p.Key != k).length=x.T.length:=by
   rw[List.length_filter_eq_length_iff];intro p hp;obtain⟨i,hi,rfl⟩:=wt hp;have a:=h2 i hi;have b:(pt x.T i).Key≠k:=λe=>h1 i ⟨hi,a,e⟩;rw[lP hi] at a b;simp[a,b]
  omega
theorem KE(s v:Int)(h:¬(v≠0/\m.Places<=((m.Pairs.filter λp=>p.Key != s).length:Int))):wy m s v=(Vl (fQ m v) ((m.Pairs.filter λp=>p.Key != s)++if v=0 then [] else [⟨s,v⟩]),v,0):=by
 unfold wy;rw[za h]
theorem XW(hS:SL x){a b c:Int}(hc:y4 8 a b c=0):ke σ x m ⟨8,a,b,c⟩:=by
 have hR:=hx.sh.sr;have hl:=dX hx.sh b;have hz:σ (sd x b)=0↔sd x b=0:=by rw[<-q.said hx];exact q.nU hx b
 have hp0:K3 m a=0->X7 m ⟨8,a,b,c⟩=(m,0,2):=λe=>by
  show (if K3 m a=0 then (m,0,2) else _)=_;rw[zb e]
 have hp1:sd x a∈lv x.S->X7 m ⟨8,a,b,c⟩=wy m (σ (sd x a)) (σ (sd x b)):=λha=>by
  have h0:K3 m a≠0:=λe=>eQ hR ((q.nU hx a).1 e▸ha);show (if K3 m a=0 then (m,0,2) else wy m (K3 m a) (K3 m b))=_;rw[za h0,q.said hx,q.said hx]
 rcases d8 hx hS hc with ⟨e,er⟩ | ⟨hk,e,hf,er⟩ | ⟨hk,r,hr,r0,d⟩;·exact il hx q er (hp0 ((q.nU hx a).2 e))
 .obtain rfl:=NG hx hS hk hl hf er.1;refine il hx q er ?_;rw[hp1 hk];unfold wy;rw[zb];have k0:sd x a≠0:=λe=>eQ hR (e▸hk);unfold bY at hf;rw[za (by simpa using k0),N3 hR (tt hx hS (.inr hk)),Yy,N3 hR (tt hx hS hl),zC (.inr hk),zC hl] at hf;simp only[zcc,ul,fm,Yy,Bool.or_self,zD,qr] at hf;obtain⟨r,r1,_,_,r5⟩:=dL hx.sh.hr (sd x a) (sd x b);rw[r1,Yy] at hf;have hne:r.2.2≠0:=λh0=>by
   rw[za (by simpa using h0)] at hf;cases g:D7 x r.2.1 (sd x b) ⟨r.1⟩ with
   | none=>rw[g] at hf;cases hf
   | some w=>
    rw[g,Yy] at hf;exact absurd (zW (λp=>p.2) (zJ hf)) (by simp)
  rcases r5 with ⟨e,rfl⟩ | ⟨_,_,⟨i,hi,rfl⟩ | ⟨_,rfl⟩⟩ | ⟨_,hv,⟨i,hi,rfl⟩ | ⟨d,_,_,_,_,rfl⟩ | ⟨h1,h2,rfl⟩⟩;·exact absurd e k0
  .exact absurd rfl hne
  .exact absurd rfl hne
  .exact absurd rfl hne
  .exact absurd rfl hne
  .exact⟨λe=>hv (hz.1 e),(q.full hx hk).2 ⟨h1,h2⟩⟩
 .have hno:¬(σ (sd x b)≠0/\m.Places<=((m.Pairs.filter λp=>p.Key != σ (sd x a)).length:Int)):=by
   rintro⟨hv,hf⟩;obtain⟨h1,h2⟩:=(q.full hx hk).1 hf;have hv:sd x b≠0:=λe=>hv (hz.2 e);obtain⟨r',r1,_,_,r5⟩:=dL hx.sh.hr (sd x a) (sd x b);rw[hr] at r1;obtain rfl:=zJ r1;rcases r5 with ⟨e,rfl⟩ | ⟨_,e,_⟩ | ⟨_,_,⟨i,hi,rfl⟩ | ⟨j,_,hd,hs,_,rfl⟩ | ⟨_,_,rfl⟩⟩;·exact absurd r0 (by simp)
   .exact hv e
   .exact h1 i hi
   .exact hs (h2 j hd)
   .exact absurd r0 (by simp)
  have hp:=hp1 hk;rw[KE hx q _ _ hno] at hp;have S:=q.iJ hx.sh hx.fair hk hl hr r0;have hif:(if sd x b=0 then ([]:List g8) else [⟨σ (sd x a),σ (sd x b)⟩])=if σ (sd x b)=0 then [] else [⟨σ (sd x a),σ (sd x b)⟩]:=by
   by_cases e:sd x b=0
   .rw[zb e,zb (hz.2 e)]
   .rw[za e,za λf=>e (hz.1 f)]
  rw[hif] at S;refine⟨.inr ⟨σ,_,_,_,hp,d.rt,d.sl,S,by rw[d.jd,q.aW hx hl],?_,?_⟩⟩;·show (fQ m _).Progs=_;exact FR hx q _
  .show (fQ m (σ (sd x b))).Roots.length=_;rw[aF];exact (q.r6 hx:m.Roots.length=6)
theorem p9.Vc{i:Nat}(hi:i<x.S.S.b7.length):DF (Sh.ce x.S i)=0↔(Sh.ce x.S i).State=0:=by
 have hR:=hx.sh.sr;have hc:=hR.cell i hi;unfold DF;split
 .rename_i t;have:=(hR.ok i hi t).s1;unfold Th at t;omega
 .rename_i t;unfold Th at t;split;·omega
  .omega
theorem p9.WU:m.Slots.length=x.S.S.b7.length:=by rw[q.sl];simp
theorem p9.WT{i:Nat}(hi:i<m.Slots.length):m.Slots[i]=DF (Sh.ce x.S i):=by
 have:=q.sl;simp only[this,t8,List.getElem_range]
theorem p9.fst{i:Nat}(h:VC x.S i):m.Slots.findIdx (· == 0)=i:=by
 obtain⟨h1,h2,h3⟩:=h;have hi:i<m.Slots.length:=by rw[q.WU hx];exact h1
 rw[List.findIdx_eq hi];refine⟨?_,λj hj=>?_⟩;·rw[q.WT hx hi,pu];exact (q.Vc hx h1).2 h2
 .rw[q.WT hx (by omega),beq_eq_false_iff_ne];exact λe=>h3 j hj ((q.Vc hx (by omega)).1 e)
theorem p9.Sr(h:∀i,i<x.S.S.b7.length->(Sh.ce x.S i).State≠0):¬m.Slots.findIdx (· == 0)<m.Slots.length:=by
 rw[List.findIdx_lt_length];rintro⟨v,hv,e⟩;obtain⟨i,hi,rfl⟩:=wt hv;have h1:i<x.S.S.b7.length:=by rw[<-q.WU hx];exact hi
 rw[q.WT hx hi,pu] at e;exact h i h1 ((q.Vc hx h1).1 e)
theorem XQ(hS:SL x)(hb:x.S.Serial<9223372036854775807){a b c:Int}(hc:y4 1 a b c=0):ke σ x m ⟨1,a,b,c⟩:=by
 have hR:=hx.sh.sr;obtain⟨ha,hbb,hcc⟩:=Tc hc;have hp:X7 m ⟨1,a,b,c⟩=if m.Slots.findIdx (· == 0)<m.Slots.length then (dd (GD m (m.Slots.findIdx (· == 0)) b.toNat c) a.toNat (m.Serial+1),m.Serial+1,0) else (m,0,4):=rfl
 rcases d1 hx hS hb hc with ⟨e,hf,er⟩ | ⟨hn,_,i,hF,d⟩
 .rcases MW hR hb b c with ⟨h,_⟩ | ⟨_,h,_⟩ | ⟨_,_,h,g⟩ | ⟨_,_,i,_,g⟩;·exact absurd hbb h
  .exact absurd hcc h
  .rw[hf] at g;obtain rfl:e=4:=zW (λp=>p.2.2) (zJ g);exact il hx q er (by rw[hp,za (q.Sr hx h)])
  .rw[hf] at g;exact absurd (zW (λp=>p.2.2) (zJ g)) er.1
 .obtain⟨hi,h0,_⟩:=id hF;obtain⟨σ',S,e1⟩:=q.mk' hx hi h0 hn hcc;have hy:=yq hx hi h0 hn hcc;have hh:bX x.S i=0\/bX x.S i∈lv (wS x (dm x.S i b.toNat c)).S:=.inr (by
   show _∈lv (dm x.S i b.toNat c);rw[Bw hR hi h0 hn hcc];exact t7 _ (zp.2 rfl))
  have S2:=S.G0 (r:=a.toNat) hy.sh hy.fair hh;rw[e1] at S2;rw[q.fst hx hF,zb (by rw[q.WU hx];exact hi),q.se] at hp;refine⟨.inr ⟨σ',_,_,_,hp,d.rt,d.sl,S2,d.jd,?_,?_⟩⟩
  .show (fQ (GD m i b.toNat c) (x.S.Serial+1)).Progs=_;rw[aF];rfl
  .show ((GD m i b.toNat c).Roots.set a.toNat _).length=6;rw[zap];exact (q.r6 hx:m.Roots.length=6)
theorem vi(hS:SL x)(hz:zr x = [])(hb:x.S.Serial<9223372036854775807){o:g7}(hc:y4 o.Kind o.A o.B o.C=0)(hk:o.Kind<=10):ke σ x m o:=by
 obtain⟨k,a,b,c⟩:=o;dsimp only at hc hk;have:=tg hc;have hk:k=1\/k=2\/k=3\/k=4\/k=5\/k=6\/k=7\/k=8\/k=9\/k=10:=by omega
 rcases hk with rfl | rfl | rfl | rfl | rfl | rfl | rfl | rfl | rfl | rfl
 .exact XQ hx q hS hb hc
 .exact XR hx q hS hc
 .exact XS hx q hS hc
 .exact XT hx q hS hc
 .exact XU hx q hS hc
 .exact pre6 hx q hS hc
 .exact XV hx q hS hc
 .exact XW hx q hS hc
 .exact XX hx q hS hc
 .exact WH hx q hS hz hc
end
theorem TO{l:List Int}(hl:l.length<=1000):G9 l 0=some (if l.findIdx (· == 0)<l.length then (l.findIdx (· == 0):Int) else -1):=by
 unfold G9;simp only[jn];refine eO l.length (λi=>i<=l.findIdx (· == 0)) (by omega) (zV _) (λi hi hik=>?_) (λhlk=>⟨.inr (),by simp,by rw[za (by omega)]⟩);rw[zb (by simpa using hi),s7 hi,Yy];rcases zF i (l.findIdx (· == 0)) with c | c
 .left;have:=List.not_of_lt_findIdx c;have h0:l[i]≠0:=by simpa using this
  rw[za (by simpa using λe=>h0 e.symm),n9 (by omega)];exact⟨rfl,c⟩
 .have e:i=l.findIdx (· == 0):=by omega
  right;have hlt:l.findIdx (· == 0)<l.length:=by omega
  have:(l[l.findIdx (· == 0)]==0)=true:=List.findIdx_getElem (w:=hlt) (p:=(· == 0));have h0:l[i]=0:=by simp only[e];simpa using this
  rw[zb (by rw[h0];rfl),zb hlt,e];exact⟨_,rfl,rfl⟩
theorem RN{l:List Int}(hl:l.length<=1000)(k v:Int):mh l k v=some (if 0<=k/\k<l.length then (l.set k.toNat v,0) else (l,5)):=by
 unfold mh gI;rw[Yy];by_cases c:0<=k/\k<l.length
 .obtain⟨n,rfl⟩:∃n:Nat,k=n:=⟨k.toNat,by omega⟩;have hn:n<l.length:=by omega
  rw[za (by simp;omega),kB (by omega) (by omega),Yy];have e:wX (List.replicate l.length (0:Int)) l=some l:=by
   unfold wX;rw[zb (by simp)];simp
  rw[e,Yy,s7 hn,Yy,zb c]
 .rw[za c,zb (by simp;omega)]
theorem SX(l:List Int)(k:Int):iG l k=some (if 0<=k/\k<l.length then (l.getD k.toNat 0,0) else (0,5)):=by
 by_cases c:0<=k/\k<l.length
 .obtain⟨n,rfl⟩:∃n:Nat,k=n:=⟨k.toNat,by omega⟩;have hn:n<l.length:=by omega
  unfold iG gI;rw[Yy,za (by simp;omega),s7 hn,Yy,zb c,zP,zd,zc hn];rfl
 .rw[(HG c).1,za c]
theorem Qr{l:List k7}{n:Nat}(hn:n<l.length):cD l n=some (if l[n].Target=0\/l[n].Intact=false then (0,9) else (l[n].Target,0)):=by
 unfold cD jT;have:(decide ((n:Int)>=0)&&decide ((n:Int)<(l.length:Int)))=true:=by simp;omega
 rw[this,Yy,za (by simp),s7 hn,Yy];by_cases q:l[n].Target=0\/l[n].Intact=false
 .rw[zb q,zb (by rcases q with q | q <;> simp[q])]
 .rw[za q,za (by simpa using q)]
section
variable{σ:Int->Int}{x:Hp}{m:a8}(hx:J8 x)(q:p9 σ x m)
include hx q
theorem p9.Xo{h:Int}(hh:h=0\/h∈lv x.S):σ h=0\/∃n,m.Nodes.find? (λn=>n.Serial==σ h)=some n:=by
 rcases hh with e | hl
 .left;rw[e];exact q.gd.z
 .exact .inr ⟨_,(q.HI hx hl).1⟩
theorem Ew{a:Int}(ha:0<=a/\a<=5){h:Int}(hh:h=0\/h∈lv x.S):az m a (σ h)=some (kZ (dd m a.toNat (σ h)),⟨σ h,0⟩):=by
 obtain⟨r,rfl⟩:∃r:Nat,a=r:=⟨a.toNat,by omega⟩;have S:=q.G0 (r:=r) hx.sh hx.fair hh;have hz:=bO hx (r:=r) (by omega) hh;have S2:=S.bz hz;have r6:=q.r6 hx;unfold az;rw[yl (q.bn hx.sh.sr) (q.bl hx.sh) (q.Xo hx hh) (by omega),Yy,lF hz S,Yy,zP];have e:(kZ (dd m r (σ h))).Roots=m.Roots.set r (σ h):=by
  rw[S2.ro,(ma hz).rt,<-S.ro];rfl
 have hl:r<(kZ (dd m r (σ h))).Roots.length:=by rw[e,zap];omega
 rw[s7 hl,Yy];have:(kZ (dd m r (σ h))).Roots[r]=σ h:=by simp only[e,List.getElem_set_self]
 rw[this]
theorem ym{r:Int}(hr:r<=5):T0 m r=some (K3 m r):=by
 have r6:=q.r6 hx;unfold T0 K3;by_cases c:r<0
 .rw[zb (by simpa using c),zb c]
 .obtain⟨n,rfl⟩:∃n:Nat,r=n:=⟨r.toNat,by omega⟩;have hn:n<m.Roots.length:=by omega
  rw[za (by simp),za c,s7 hn,Yy,zP,zd,zc hn];rfl
theorem GA{r:Int}(h0:0<=r)(hr:r<=5):ix m.Roots r=some (K3 m r):=by
 have:=ym hx q hr;unfold T0 at this;rw[za (by simp;omega)] at this;cases g:ix m.Roots r with
 | none=>rw[g] at this;cases this
 | some v=>rw[g] at this;exact this
theorem tv{r:Int}(hr:r<=5):(K3 m r=0/\∃z,O1 m r=some (z,2))\/(K3 m r≠0/\sd x r∈lv x.S/\∃n,m.Nodes.find? (λn=>n.Serial==K3 m r)=some n/\n.Serial=K3 m r/\n.Fields=(ob x.S (sd x r)).Fields.map σ/\O1 m r=some (n,0)):=by
 unfold O1;rw[ym hx q hr,Yy];by_cases c:K3 m r=0
 .rw[zb (by simpa using c)];exact .inl ⟨c,_,rfl⟩
 .rw[za (by simpa using c)];have hl:=(dX hx.sh r).resolve_left λe=>c ((q.nU hx r).2 e);obtain⟨hf,hfl⟩:=q.HI hx hl;rw[<-q.said hx] at hf;obtain⟨k,hk,e1,e2⟩:=yj (q.bn hx.sh.sr) hf;rw[e2,Yy,s7 hk,Yy,e1];exact .inr ⟨c,hl,_,hf,(lB hf).1,hfl,rfl⟩
theorem Qy{k a b c:Int}(hc:y4 k a b c=0)(hk:k=2\/k=3\/k=4\/k=7\/k=9):∃v e,bI m ⟨k,a,b,c⟩=some (v,e) /\
  X7 m ⟨k,a,b,c⟩=(if e≠0 then (m,0,e) else (dd m a.toNat v,v,0))/\(e=0->∃h,(h=0\/h∈lv x.S)/\v=σ h):=by
 have r6:=q.r6 hx;rcases hk with rfl | rfl | rfl | rfl | rfl
 .obtain⟨ha,hb⟩:=LN hc;refine⟨K3 m b,0,?_,rfl,λ_=>⟨_,dX hx.sh b,q.said hx b⟩⟩;show ((ix m.Roots b).bind λv1=>some (v1,(0:Int)))=_;rw[GA hx q (by omega) (by omega)];rfl
 .exact⟨0,0,rfl,rfl,λ_=>⟨0,.inl rfl,q.gd.z.symm⟩⟩
 .obtain⟨ha,hb,hcc⟩:=Td hc;have hp:X7 m ⟨4,a,b,c⟩=if K3 m b=0 then (m,0,2) else match m.Nodes.find? (λn=>n.Serial==K3 m b) with
   | none=>(m,0,2)
   | some n=>if ¬(0<=c/\c<n.Fields.length) then (m,0,5) else qz m a (n.Fields.getD c.toNat 0) 0:=rfl
  have hm:bI m ⟨4,a,b,c⟩=(O1 m b).bind λv2=>if (v2.2 != 0) then some (0,v2.2) else (iG v2.1.Fields c).bind λv3=>some (v3.1,v3.2):=rfl
  rcases tv hx q (r:=b) (by omega) with ⟨h0,z,e⟩ | ⟨h0,hl,n,hn,hs,hf,e⟩
  .refine⟨0,2,?_,?_,λe=>absurd e (by decide)⟩;·rw[hm,e];rfl
   .rw[hp,zb h0];rfl
  .rw[za h0,hn] at hp;dsimp only at hp;rw[e,Yy,za (by simp),SX,Yy] at hm;by_cases g:0<=c/\c<n.Fields.length
   .rw[za (λd=>d g)] at hp;rw[zb g] at hm;refine⟨n.Fields.getD c.toNat 0,0,hm,hp,λ_=>?_⟩;have hlen:c.toNat<(ob x.S (sd x b)).Fields.length:=by
     have:=g.2;rw[hf,zl] at this;omega
    refine⟨(ob x.S (sd x b)).Fields[c.toNat],hx.sh.fl _ hl _ (zh hlen),?_⟩;rw[hf,zd,zB,zc hlen];rfl
   .rw[zb g] at hp;rw[za g] at hm;exact⟨0,5,hm,hp,λe=>absurd e (by decide)⟩
 .obtain⟨ha,hb⟩:=Tf hc;obtain⟨n,rfl⟩:∃n:Nat,b=n:=⟨b.toNat,by omega⟩;have c6:=hx.sh.c6;have hnx:n<x.b7.length:=by omega
  have hn:n<m.b7.length:=by rw[q.ce,zl];exact hnx
  have hg:m.b7.getD n cz=m.b7[n]:=by rw[zd,zc hn];rfl
  have hp:X7 m ⟨7,a,n,c⟩=if (m.b7.getD n cz).Target=0\/(m.b7.getD n cz).Intact=false then (m,0,9) else qz m a (m.b7.getD n cz).Target 0:=rfl
  have hm:bI m ⟨7,a,n,c⟩=(cD m.b7 n).bind λv4=>some (v4.1,v4.2):=rfl;rw[hg] at hp;rw[Qr hn,Yy] at hm;by_cases g:m.b7[n].Target=0\/m.b7[n].Intact=false
  .rw[zb g] at hp hm;exact⟨0,9,hm,hp,λe=>absurd e (by decide)⟩
  .rw[za g] at hp hm;refine⟨_,0,hm,hp,λ_=>⟨x.b7[n].Target,.inr (((hx.sh.cl n hnx).2.2.2.2 ?_).1),?_⟩⟩
   .have:m.b7[n].Intact=x.b7[n].Intact:=by simp only[q.ce,t8];rfl
    rw[<-this];cases hi:m.b7[n].Intact with
    | true=>rfl
    | false=>exact absurd (.inr hi) g
   .simp only[q.ce,t8];rfl
 .obtain⟨ha,hb⟩:=Ti hc;have hp:X7 m ⟨9,a,b,c⟩=if K3 m b=0 then (m,0,2) else match (m.Pairs.find? λp=>p.Key==K3 m b) with
   | none=>(m,0,9)
   | some p=>qz m a p.Val 0:=rfl
  have hm:bI m ⟨9,a,b,c⟩=(O1 m b).bind λv5=>if (v5.2 != 0) then some (0,v5.2) else (O8 m v5.1.Serial).bind λv6=>if (decide ((v6.length:Int) > 0)) then (ix v6 0).bind λv7=>some (v7,0) else some (0,9):=rfl
  rcases tv hx q (r:=b) (by omega) with ⟨h0,z,e⟩ | ⟨h0,hl,n,hn,hs,hf,e⟩
  .refine⟨0,2,?_,?_,λe=>absurd e (by decide)⟩;·rw[hm,e];rfl
   .rw[hp,zb h0];rfl
  .rw[za h0,<-List.head?_filter] at hp;rw[e,Yy,za (by simp)] at hm;dsimp only at hm;rw[Ey (q.bn hx.sh.sr) (q.bl hx.sh),Yy,hs] at hm;cases g:m.Pairs.filter λp=>p.Key==K3 m b with
   | nil=>
    rw[g] at hp hm;exact⟨0,9,hm,hp,λe=>absurd e (by decide)⟩
   | cons p l=>
    rw[g] at hp hm;have hin:p∈m.Pairs:=(zi.1 (g▸zg:p∈m.Pairs.filter λp=>p.Key==K3 m b)).1;obtain⟨k,v,hh,rfl⟩:=(q.p2 p).1 hin;refine⟨σ v,0,?_,hp,λ_=>⟨v,.inr (hx.sh.pr k v hh).2,rfl⟩⟩;rw[hm,zb (by simp)];rfl
end
theorem DU{m:a8}{o:g7}{e:Int}(h:X7 m o=(m,0,e))(he:e≠0):AB m o=(m,0,e):=by
 unfold AB;rw[h,zb he]
theorem Bb{m mz:a8}{o:g7}{v:Int}(h:X7 m o=(mz,v,0)):AB m o=(kZ mz,v,0):=by
 unfold AB;rw[h,za (by simp)]
section
variable{σ:Int->Int}{x:Hp}{m:a8}(hx:J8 x)(q:p9 σ x m)
include hx q
theorem p9.Og(hz:Sh.zr x = []):kZ m=m:=by
 have h1:rP m=m:=BJ (by rw[q.zr hx,hz];rfl);have:∀n,gm n m=m:=λn=>by
  induction n with
  | zero=>rfl
  | succ n ih=>rw[jl,ih,h1]
 exact this 100
theorem CD{o:g7}(P:ke σ x m o){W:Option (a8 × Int)}{s:Int}
  (h:W=some ((X7 m o).1,(X7 m o).2.2))(hv:(X7 m o).2.2=0->(X7 m o).2.1=s) :
  (W.bind λv1=>if (v1.2 != 0) then some (m,(⟨0,v1.2⟩:g9)) else (H2 v1.1).bind λv2=>some (v2,(⟨s,0⟩:g9)))=some ((AB m o).1,⟨(AB m o).2.1,(AB m o).2.2⟩):=by
 rw[h,Yy];rcases P.r with ⟨e,he,hp,_⟩ | ⟨σ',z,mz,v,hp,hz,_,S,_,_,_⟩;·rw[DU hp he,hp,zb (by simpa using he)]
 .rw[hp] at hv;rw[Bb hp,hp,za (by simp),lF hz S,Yy,<-hv rfl]
theorem MV{a b c:Int}(hc:y4 5 a b c=0):iS m (K3 m c) ⟨5,a,b,c⟩=some ((X7 m ⟨5,a,b,c⟩).1,(X7 m ⟨5,a,b,c⟩).2.2):=by
 obtain⟨ha,hb,hcc⟩:=Te hc;have hp:X7 m ⟨5,a,b,c⟩=if K3 m a=0 then (m,0,2) else AH m (K3 m a) b (K3 m c):=rfl
 have B:=q.bn hx.sh.sr;have C:=q.bl hx.sh;have hv:=q.Xo hx (dX hx.sh c);rw[<-q.said hx] at hv;unfold iS;dsimp only;rcases tv hx q (r:=a) (by omega) with ⟨h0,z,e⟩ | ⟨h0,hl,n,hn,hs,hf,e⟩;·rw[e,Yy,zb (by simp),hp,zb h0]
 .rw[e,Yy,za (by simp),hp,za h0];unfold AH;rw[hn];dsimp only;have hfl:=B.fl n (lB hn).2;rw[RN (by omega),Yy];by_cases g:0<=b/\b<n.Fields.length
  .rw[zb g,za (by simp),za (λd=>d g),CC B C hv,Yy];have hn2:∃n',(fQ m (K3 m c)).Nodes.find? (λk=>k.Serial==n.Serial)=some n':=by
    rw[hs];unfold fQ;split
    .cases hh:(uf m (K3 m c)).Nodes.find? (λk=>k.Serial==K3 m a) with
     | some n'=>exact⟨n',rfl⟩
     | none=>
      exfalso;rw[zci] at hh;have hin:=(lB hn).2;have:(if n.Serial=K3 m c then Dl n else n)∈(uf m (K3 m c)).Nodes:=by
       show _∈fH m.Nodes (K3 m c) Dl;exact zcd hin
      have hse:(if n.Serial=K3 m c then Dl n else n).Serial=K3 m a:=by
       split;·exact hs
       .exact hs
      exact hh _ this (pu.2 hse)
    .exact⟨n,hn⟩
   obtain⟨n',hn2⟩:=hn2;rw[Ub (B.fQ _) hn2,Yy,hs]
  .rw[za g,zb (by simp),zb g]
theorem Ud{a b c:Int}(hc:y4 6 a b c=0):fi m (K3 m b) ⟨6,a,b,c⟩=some ((X7 m ⟨6,a,b,c⟩).1,(X7 m ⟨6,a,b,c⟩).2.2):=by
 obtain⟨ha,hb,hcc⟩:=PL hc;have hp:X7 m ⟨6,a,b,c⟩=if 0<=b/\K3 m b=0 then (m,0,2) else if Sh.vZ ⟨m.Tasks,30⟩ a=true then (m,0,7) else (La m a.toNat (K3 m b) c,K3 m b,0):=rfl
 have B:=q.bn hx.sh.sr;have C:=q.bl hx.sh;have tl:=C.tl;have wl:=C.wl;have c6:m.b7.length=6:=by rw[q.ce,zl,hx.sh.c6]
 obtain⟨n,rfl⟩:∃n:Nat,a=n:=⟨a.toNat,by omega⟩;have hn:n<m.b7.length:=by omega
 unfold fi;dsimp only;by_cases g:0<=b/\K3 m b=0
 .rw[zb (by simp[g.1,g.2]),hp,zb g]
 .rw[za (by simpa using g),hp,za g,yn,Yy,show aD (⟨m.Tasks,30⟩:j5) (n:Int)=some (Sh.vZ ⟨m.Tasks,30⟩ n) from xi (q:=⟨m.Tasks,30⟩) (by show m.Tasks.length<=1000;omega),Yy];cases hw:Sh.vZ ⟨m.Tasks,30⟩ (n:Int)
  .rw[za (by simp),za (by simp),Fz (by omega) hn,Yy,za (by simp)];dsimp only;have hg:m.b7.getD n cz=m.b7[n]:=by rw[zd,zc hn];rfl
   rw[yk (m:=RM m (m.b7.set n (fG (K3 m b) c))) ⟨B.nl,B.up,B.fl,B.sg,B.gg,B.gl⟩ ⟨C.rl,by show (m.b7.set n _).length<=30;rw[zap];exact C.wl,C.pa,C.tl⟩,Yy,zP];unfold La;rw[hg]
  .rw[zb rfl,zb rfl]
theorem MU{a b c:Int}(hc:y4 8 a b c=0):iR m (K3 m b) ⟨8,a,b,c⟩=some ((X7 m ⟨8,a,b,c⟩).1,(X7 m ⟨8,a,b,c⟩).2.2):=by
 obtain⟨ha,hb⟩:=Tg hc;have hp:X7 m ⟨8,a,b,c⟩=if K3 m a=0 then (m,0,2) else wy m (K3 m a) (K3 m b):=rfl
 have B:=q.bn hx.sh.sr;have C:=q.bl hx.sh;have pa:=C.pa;have hv:=q.Xo hx (dX hx.sh b);rw[<-q.said hx] at hv;unfold iR;dsimp only;rcases tv hx q (r:=a) (by omega) with ⟨h0,z,e⟩ | ⟨h0,hl,n,hn,hs,hf,e⟩;·rw[e,Yy,zb (by simp),hp,zb h0]
 .rw[e,Yy,za (by simp),hp,za h0];have hpk:D0 m.Pairs n=some (m.Pairs.filter λp=>p.Key != n.Serial):=by
   unfold D0;exact kH (P:=λp=>fg p n) (λp _=>rfl) (by omega) (by omega) (by omega)
  rw[hpk,Yy,hs];unfold wy;have hfl:=zA (λp:g8=>p.Key != K3 m a) m.Pairs;by_cases v0:K3 m b=0
  .rw[zb (by simpa using v0),za (λd=>d.1 v0),zb v0,zav];unfold fQ;rw[za (λd=>d.1 v0)]
  .rw[za (by simpa using v0)];by_cases g:m.Places<=((m.Pairs.filter λp=>p.Key != K3 m a).length:Int)
   .rw[zb (by simpa using g),zb ⟨v0,g⟩]
   .rw[za (by simpa using g),za (λd=>g d.2),CC B C hv,Yy,FT (by omega) (Iu (m:=100) (by omega) (by omega) (by omega)),Yy,za v0]
theorem Ko(hS:SL x)(hb:x.S.Serial<9223372036854775807){a b c:Int}(hc:y4 1 a b c=0):cY m ⟨1,a,b,c⟩=some ((AB m ⟨1,a,b,c⟩).1,⟨(AB m ⟨1,a,b,c⟩).2.1,(AB m ⟨1,a,b,c⟩).2.2⟩):=by
 obtain⟨ha,hbb,hcc⟩:=Tc hc;have hR:=hx.sh.sr;have B:=q.bn hR;have hp:X7 m ⟨1,a,b,c⟩=if m.Slots.findIdx (· == 0)<m.Slots.length then (dd (GD m (m.Slots.findIdx (· == 0)) b.toNat c) a.toNat (m.Serial+1),m.Serial+1,0) else (m,0,4):=rfl
 obtain⟨n,rfl⟩:∃n:Nat,b=n:=⟨b.toNat,by omega⟩;have gl:=B.gl;have nl:=B.nl;unfold cY;have hv:qm (⟨1,a,(n:Int),c⟩:g7).B=some (List.replicate n 0,0):=by
  unfold qm;rw[za (by simp;omega)];show ((mk 8 (n:Int) (0:Int)).bind _)=_;rw[kB (by omega) (by omega),Yy]
 rw[hv,Yy,za (by simp),TO (by omega),Yy];rcases MW hR hb n c with ⟨h,_⟩ | ⟨_,h,_⟩ | ⟨_,_,h,g⟩ | ⟨_,_,i,hF,g⟩;·exact absurd hbb h
 .exact absurd hcc h
 .have:=q.Sr hx h;rw[za this] at hp |-;rw[zb (by simp),DU hp (by decide)]
 .obtain⟨hi,h0,_⟩:=id hF;have hsi:i<m.Slots.length:=by rw[q.WU hx];exact hi
  have hn:n<=4:=by omega
  rw[q.fst hx hF,zb hsi] at hp |-;rw[zP] at hp;rw[Bb hp,za (by simp)];have hs':=hR.aW;have hw:u7 (m.Serial+1)=m.Serial+1:=by rw[q.se];exact P1 (by omega) (by omega)
  have hc1:y5 m.Slots=some m.Slots:=dj (by omega) (Iu (m:=30) (by omega) (by omega) (by omega));have hc2:p8 m.Nodes=some m.Nodes:=dj (by omega) (Iu (m:=30) (by omega) (by omega) (by omega));rw[hc1,Yy,s7 hsi,Yy,hc2,Yy,hw,FT (by omega) (Iu (m:=100) (by omega) (by omega) (by omega)),Yy,zP];obtain⟨σ',S,e1⟩:=q.mk' hx hi h0 hn hcc;have hy:=yq hx hi h0 hn hcc;have hh:bX x.S i=0\/bX x.S i∈lv (wS x (dm x.S i n c)).S:=.inr (by
   show _∈lv (dm x.S i n c);rw[Bw hR hi h0 hn hcc];exact t7 _ (zp.2 rfl))
  have T:=Ew hy S ha hh;rw[e1,<-q.se] at T;dsimp only;rw[show az ⟨m.Nodes ++ [⟨m.Serial+1,i,c,false,true,false,List.replicate n 0⟩],m.Slots.set i (m.Serial+1),m.Gens,m.Last,m.Places,m.Serial+1,m.Roots,m.b7,m.Pairs,m.Tasks,m.Progs⟩ a (m.Serial+1)=_ from T,Yy]
theorem Ua(hS:SL x)(hz:zr x = [])(hb:x.S.Serial<9223372036854775807){o:g7}(hc:y4 o.Kind o.A o.B o.C=0)(hk:o.Kind<=10):bJ m o=some ((AB m o).1,⟨(AB m o).2.1,(AB m o).2.2⟩):=by
 have P:=vi hx q hS hz hb hc hk;obtain⟨k,a,b,c⟩:=o;dsimp only at hc hk;have:=tg hc;have asks:(k=2\/k=3\/k=4\/k=7\/k=9)->(0<=a/\a<=5)->bJ m ⟨k,a,b,c⟩=((bI m ⟨k,a,b,c⟩).bind λv10=>if (v10.2 != 0) then some (m,(⟨0,v10.2⟩:g9)) else (az m a v10.1).bind λv11=>some (v11.1,v11.2))->bJ m ⟨k,a,b,c⟩=some ((AB m ⟨k,a,b,c⟩).1,⟨(AB m ⟨k,a,b,c⟩).2.1,(AB m ⟨k,a,b,c⟩).2.2⟩):=λhk ha e=>by
  obtain⟨v,er,h1,h2,h3⟩:=Qy hx q hc hk;rw[e,h1,Yy];by_cases g:er=0
  .obtain⟨h,hh,rfl⟩:=h3 g;rw[za (by simp[g])] at h2 |-;dsimp only;rw[Ew hx q ha hh,Yy,Bb h2]
  .rw[zb g] at h2;rw[zb (by simpa using g),DU h2 g]
 have hk:k=1\/k=2\/k=3\/k=4\/k=5\/k=6\/k=7\/k=8\/k=9\/k=10:=by omega
 rcases hk with rfl | rfl | rfl | rfl | rfl | rfl | rfl | rfl | rfl | rfl
 .show ((cY m ⟨1,a,b,c⟩).bind λv9=>some (v9.1,v9.2))=_;rw[Ko hx q hS hb hc];rfl
 .exact asks (by simp) (LN hc).1 rfl
 .exact asks (by simp) (VI hc) rfl
 .exact asks (by simp) (Td hc).1 rfl
 .show ((T0 m c).bind λv3=>(J7 m v3 ⟨5,a,b,c⟩).bind λv4=>some (v4.1,v4.2))=_;rw[ym hx q (by have:=Te hc;omega),Yy];unfold J7;rw[CD hx q P (MV hx q hc)];·rfl
  .show (if K3 m a=0 then (m,0,2) else AH m (K3 m a) b (K3 m c)).2.2=0->(if K3 m a=0 then (m,0,2) else AH m (K3 m a) b (K3 m c)).2.1=K3 m c;unfold AH;split;·exact λe=>absurd (show (2:Int)=0 from e) (by decide)
   .split;·exact λe=>absurd (show (2:Int)=0 from e) (by decide)
    .split;·exact λe=>absurd (show (5:Int)=0 from e) (by decide)
     .exact λ_=>rfl
 .show ((T0 m b).bind λv3=>(I0 m v3 ⟨6,a,b,c⟩).bind λv4=>some (v4.1,v4.2))=_;rw[ym hx q (by have:=PL hc;omega),Yy];unfold I0;rw[CD hx q P (Ud hx q hc)];·rfl
  .show (if 0<=b/\K3 m b=0 then (m,0,2) else if Sh.vZ ⟨m.Tasks,30⟩ a=true then (m,0,7) else (La m a.toNat (K3 m b) c,K3 m b,0)).2.2=0->(if 0<=b/\K3 m b=0 then (m,0,2) else if Sh.vZ ⟨m.Tasks,30⟩ a=true then (m,0,7) else (La m a.toNat (K3 m b) c,K3 m b,0)).2.1=K3 m b;split;·exact λe=>absurd (show (2:Int)=0 from e) (by decide)
   .split;·exact λe=>absurd (show (7:Int)=0 from e) (by decide)
    .exact λ_=>rfl
 .exact asks (by simp) (Tf hc).1 rfl
 .show ((T0 m b).bind λv3=>(J6 m v3 ⟨8,a,b,c⟩).bind λv4=>some (v4.1,v4.2))=_;rw[ym hx q (by have:=Tg hc;omega),Yy];unfold J6;rw[CD hx q P (MU hx q hc)];·rfl
  .show (if K3 m a=0 then (m,0,2) else wy m (K3 m a) (K3 m b)).2.2=0->(if K3 m a=0 then (m,0,2) else wy m (K3 m a) (K3 m b)).2.1=K3 m b;unfold wy;split;·exact λe=>absurd (show (2:Int)=0 from e) (by decide)
   .split;·exact λe=>absurd (show (8:Int)=0 from e) (by decide)
    .exact λ_=>rfl
 .exact asks (by simp) (Ti hc).1 rfl
 .obtain⟨ha,hb⟩:=RY hc;have hp:X7 m ⟨10,a,b,c⟩=(m,if K3 m a=K3 m b then 1 else 0,0):=rfl;show ((ix m.Roots a).bind λv1=>(ix m.Roots b).bind λv2=>if (v1==v2) then some (m,(⟨1,0⟩:g9)) else some (m,(⟨0,0⟩:g9)))=_;rw[GA hx q ha.1 ha.2,Yy,GA hx q hb.1 hb.2,Yy,Bb hp,q.Og hx hz];by_cases g:K3 m a=K3 m b
  .rw[zb (by simpa using g),zb g]
  .rw[za (by simpa using g),za g]
theorem p9.jd(hS:SL x)(hz:Sh.zr x = [])(hb:x.S.Serial<9223372036854775807){o:g7}(hc:y4 o.Kind o.A o.B o.C=0)(hk:o.Kind<=10):(∃σ',p9 σ' (Sh.jd x o).1 (AB m o).1)/\(AB m o).2=(Sh.jd x o).2:=by
 rcases (vi hx q hS hz hb hc hk).r with ⟨e,he,hp,hd⟩ | ⟨σ',z,mz,v,hp,hzr,_,S,hd,_,_⟩;·rw[DU hp he,hd];exact⟨⟨σ,q⟩,rfl⟩
 .rw[Bb hp,hd];have S2:=S.bz hzr;generalize Sh.bz z=y at S2 |-;generalize kZ mz=my at S2 |-;exact⟨⟨σ',S2⟩,rfl⟩
end
def Um(m:a8):Prop:=∀c∈m.b7,∀n∈m.Nodes,n.Alive=true->n.Serial=c.Target->c.Intact=true
def NS(l l':List b8):Prop:=∀n'∈l',n'.Alive=true->∃n∈l,n.Alive=true/\n.Serial=n'.Serial
theorem NS.refl(l:List b8):NS l l:=λn h a=>⟨n,h,a,rfl⟩
theorem NS.trans{a b c:List b8}(h:NS a b)(k:NS b c):NS a c:=λn hn ha=>by
 obtain⟨n1,h1,a1,e1'⟩:=k n hn ha;obtain⟨n2,h2,a2,e2'⟩:=h n1 h1 a1;exact⟨n2,h2,a2,e2'.trans e1'⟩
theorem NS.fH(l:List b8)(s:Int){f:b8->b8}(hf:∀n,(f n).Serial=n.Serial/\((f n).Alive=true->n.Alive=true)):NS l (Sh.fH l s f):=λn' hn ha=>by
 obtain⟨n,h,rfl⟩:=zq.1 hn;by_cases c:n.Serial=s
 .rw[zb c] at ha |-;exact⟨n,h,(hf n).2 ha,(hf n).1.symm⟩
 .rw[za c] at ha |-;exact⟨n,h,ha,rfl⟩
theorem NS.fQ(m:a8)(s:Int):NS m.Nodes (Sh.fQ m s).Nodes:=by
 unfold Sh.fQ;split;·exact NS.fH _ _ λn=>⟨rfl,id⟩
 .exact NS.refl _
theorem NS.DN(m:a8)(s:Int):NS m.Nodes (Sh.DN m s).Nodes:=by
 unfold Sh.DN;split;·exact NS.refl _
 .split;·exact NS.refl _
  .exact λn hn ha=>⟨n,(zi.1 hn).1,ha,rfl⟩
theorem JO(m:a8)(s:Int):(DN m s).b7=m.b7:=by
 unfold DN;split;·rfl
 .split <;> rfl
theorem Um.of{m m':a8}(h:Um m)(hc:m'.b7=m.b7)(hn:NS m.Nodes m'.Nodes):Um m':=λc hcm n' hn' ha e=>by
 obtain⟨n,h1,h2,h3⟩:=hn n' hn' ha;rw[hc] at hcm;exact h c hcm n h1 h2 (h3.trans e)
theorem pN(m:a8)(s:Int):(fQ m s).b7=m.b7:=by rw[aF]
theorem Um.Xs{m:a8}(h:Um m)(r:Nat)(s:Int):Um (dd m r s):=h.of (show (fQ m s).b7=_ from pN m s) (NS.fQ m s)
theorem Um.Yj{m:a8}(h:Um m)(s:Int):Um (qy m s):=h.of (show (fQ m s).b7=_ from pN m s) ((NS.fQ m s).trans (NS.fH _ _ λn=>⟨rfl,id⟩))
theorem Um.Ya{l:List Int}:∀ {m:a8},Um m->Um (l.foldl qy m):=by
 induction l with
 | nil=>exact λh=>h
 | cons s l ih=>exact λh=>ih (h.Yj s)
theorem TV(m:a8)(s:Int):NS m.Nodes (qL m s).Nodes/\∀n∈(qL m s).Nodes,n.Alive=true->n.Serial≠s:=by
 refine⟨(NS.fH m.Nodes s (f:=lx) λn=>⟨rfl,λh=>by cases h⟩).trans (NS.DN (xo m (fH m.Nodes s lx)) s),λn hn ha e=>?_⟩;have:NS (fH m.Nodes s lx) (qL m s).Nodes:=NS.DN (xo m (fH m.Nodes s lx)) s;obtain⟨n1,h1,a1,e1'⟩:=this n hn ha;obtain⟨n2,h2,rfl⟩:=zq.1 h1;by_cases c:n2.Serial=s
 .rw[zb c] at a1;cases a1
 .rw[za c] at e1';exact c (e1'.trans e)
theorem Ir:∀(S:List Int) (m:a8),NS m.Nodes (S.foldl qL m).Nodes/\(∀n∈(S.foldl qL m).Nodes,n.Alive=true->n.Serial∉S)/\(S.foldl qL m).b7=m.b7
 | [],m=>⟨NS.refl _,λ_ _ _=>by simp,rfl⟩
 | s::S,m=>by
  obtain⟨a,b,c⟩:=Ir S (qL m s);obtain⟨k1,k2⟩:=TV m s;rw[zai];refine⟨k1.trans a,λn hn ha h=>?_,c.trans (yg m s).2.1⟩;rcases zM.1 h with e | e
  .obtain⟨n1,h1,a1,e1'⟩:=a n hn ha;exact k2 n1 h1 a1 (e1'.trans e)
  .exact b n hn ha e
theorem Um.Yf{m:a8}(h:Um m)(S:List Int):Um (Ax m S):=λc hc n hn ha e=>by
 obtain⟨a,b,c'⟩:=Ir S (Vl (Fs (RM m (ln m.b7 S)) (m.Tasks++ju m.b7 S)) (m.Pairs.filter λp=>decide (p.Key∉S)));have hc:c∈ln m.b7 S:=by rw[<-show (Ax m S).b7=ln m.b7 S from c'];exact hc
 obtain⟨d,hd,rfl⟩:=zq.1 hc;rw[(oB S d).1] at e;obtain⟨n1,h1,a1,e1'⟩:=a n hn ha;have hi:=h d hd n1 h1 a1 (e1'.trans e);refine (oB S d).2.2.2 ⟨hi,?_⟩;unfold iP;have:d.Target∉S:=λk=>b n hn ha (e▸k);simp[this]
theorem Um.kZ{m:a8}(h:Um m):Um (kZ m):=by
 have h1:∀m:a8,Um m->Um (rP m):=λm h=>by
  unfold rP;split;·exact h
  .split;·exact h.Yj _
   .exact h.Yf _
 have:∀n,Um (gm n m):=λn=>by
  induction n with
  | zero=>exact h
  | succ n ih=>rw[jl];exact h1 _ ih
 exact this 100
section
variable{σ:Int->Int}{x:Hp}{m:a8}(hx:J8 x)(q:p9 σ x m)
include hx q
theorem Um.wk(h:Um m)(w:Nat)(s call:Int):Um (La m w s call):=by
 unfold La;have h1:Um (RM m (m.b7.set w (fG s call))):=λc hc n hn ha e=>by
  rcases zas hc with k | k
  .exact h c k n hn ha e
  .subst k;have:=(q.nd.pos hx.sh.sr hn).1;have e:n.Serial=s:=e;show (s != 0)=true;have:s≠0:=by omega
   simpa using this
 exact h1.of (JO _ _) (NS.DN _ _)
theorem Um.new(h:Um m)(i n:Nat)(p:Int):Um (GD m i n p):=λc hc k hk ha e=>by
 rcases zu.1 hk with k1 | k1
 .exact h c hc k k1 ha e
 .exfalso;rw[zp] at k1;subst k1;have e:m.Serial+1=c.Target:=e;have hc:c∈x.b7.map (wx σ):=by rw[<-q.ce];exact hc
  obtain⟨d,hd,rfl⟩:=zq.1 hc;have e:m.Serial+1=σ d.Target:=e;have hs:=hx.sh.sr.aW;have hse:=q.se;rcases ll hx.sh hd with z | ⟨j,a⟩
  .rw[z,q.gd.z] at e;omega
  .rw[q.gd.f _ j a] at e;have:=(hx.sh.sr.ok j a.1 a.2.1).s2;omega
theorem Um.Yw(h:Um m)(a s e:Int):Um (qz m a s e).1:=by
 unfold qz;split;·exact h
 .exact h.Xs _ _
omit hx q in
theorem ee {c:Prop} [Decidable c] {a b:a8 × Int × Int} (ha:Um a.1) (hb:Um b.1):Um (if c then a else b).1:=by
 by_cases k:c
 .rw[zb k];exact ha
 .rw[za k];exact hb
theorem Um.Vt(h:Um m)(s k v:Int):Um (AH m s k v).1:=by
 unfold AH;split;·exact h
 .exact ee h (h.of (show (fQ m v).b7=_ from pN m v) ((NS.fQ m v).trans (NS.fH _ _ λn=>⟨rfl,id⟩)))
theorem Um.Vx(h:Um m)(s v:Int):Um (wy m s v).1:=ee h (h.of (show (fQ m v).b7=_ from pN m v) (NS.fQ m v))
theorem Um.pre(h:Um m)(o:g7):Um (X7 m o).1:=by
 have t:=λa s e=>h.Yw hx q a s e;refine ee h (ee (ee h (h.Vt hx q _ _ _)) (ee (ee h (ee h (h.wk hx q _ _ _))) (ee (ee h (h.Vx hx q _ _)) (ee (ee ((h.new hx q _ _ _).Xs _ _) h) (ee (t _ _ _) (ee (ee h ?_) (ee (ee h (t _ _ _)) (ee (ee h ?_) (t _ _ _)))))))))
 .split;·exact h
  .exact ee h (t _ _ _)
 .split;·exact h
  .exact t _ _ _
theorem Um.do(h:Um m)(o:g7):Um (AB m o).1:=by
 have hp:=h.pre hx q o;unfold AB;generalize X7 m o=r at hp |-;by_cases k:r.2.2≠0
 .rw[zb k];exact h
 .rw[za k];have h2:=hp.kZ;generalize Sh.kZ r.1=M at h2 |-;exact h2
end
theorem Eu{σ:Int->Int}{x:Hp}{m:a8}(hx:J8 x)(hS:SL x)(hz:Sh.zr x = [])(q:p9 σ x m):∃m',dp m=some (m',⟨LM x-((jc x).length:Int),0⟩)/\p9 σ (wV x) m'/\m'.Progs=m.Progs/\(Um m->Um m'):=by
 have hR:=hx.sh.sr;have B:=q.bn hR;have C:=q.bl hx.sh;obtain⟨mp,h1,h2⟩:=Kq (λs r=>Rk hx q r) B C (λn hn=>by have:=q.nd.pos hR hn;omega) (λp hp=>by
  obtain⟨k,v,hh,rfl⟩:=(q.p2 p).1 hp;have:=q.gd.ps hR (hx.sh.pr k v hh).1;show σ k≠0;omega)
 have hgl:(dA x).length<=24:=zO (Z3 (dB hx) (bG hx)) (M1 (A0.2 hR));have hbl:(jc x).length<=24:=zO (zA ..) hgl;have hbs:I3 ((jc x).map λh=>Sh.nd σ x.S (D5 h))=some ((jc x).map σ):=by
  rw[uU (by rw[zl];omega),IB hx q λh hh=>(mG h hh).1]
 have hgs:I3 ((dA x).map λh=>Sh.nd σ x.S (D5 h))=some ((dA x).map σ):=by
  rw[uU (by rw[zl];omega),IB hx q (bG hx)]
 have hpo:D2 ((dA x).map λh=>Sh.nd σ x.S (D5 h))=some ((jc x).map λh=>Sh.nd σ x.S (D5 h)):=by
  unfold D2;rw[<-JQ hx q];exact kH (λn _=>rfl) (by omega) (by omega) (by rw[zl];omega)
 have QL:=p9.XY hx hS hz q (xy hx) mG (jc x).length (zE _);rw[zR] at QL;unfold dp;rw[h1,Yy,Kp hx q h2,Yy,hpo,Yy,hbs,Yy];by_cases hb:jc x = []
 .have hcol:wV x=gL x (dA x):=by unfold wV;rw[zb hb]
  have Qb:=q.gL hx (dB hx) (bG hx) (Ee hx q);have hrb:=dQ hx;have Qs:=Qb.bz hrb;rw[xV hx,<-hcol] at Qs;refine⟨_,?_,Qs,by rw[xg,HL],λh=>(h.Yf _).kZ⟩;refine (yV hx hS hz q hbl (xy hx) mG).trans ?_;simp only[];have hv:LM x-((jc x).length:Int)=u7 (((Ry x).length:Int)-((Ry (wV x)).length:Int)):=by
   have l1:(lv x.S).length<=24:=M1 (A0.2 hR);have l2:(lv (wV x).S).length<=24:=by rw[hcol];exact M1 (A0.2 hrb.sh.sr)
   unfold LM;rw[zb hb,hb,Om,Om,vz (by omega) (by omega)];simp
  rw[hb,List.map_nil,List.foldl_nil,za (by simp),hgs,Yy,Et hx q (dB hx) (bG hx) (Ee hx q),Yy,lF hrb Qb,Yy,Iz hR q,Yy,Iz (by rw[hcol];exact hrb.sh.sr) Qs,Yy];rw[hb] at hv;rw[<-hv]
 .have hcol:wV x=(jc x).foldl gh x:=by unfold wV;rw[za hb]
  refine⟨_,?_,by rw[hcol];exact QL,RA _ _,λh=>h.Ya⟩;refine (yV hx hS hz q hbl (xy hx) mG).trans ?_;have hpos:0<(jc x).length:=List.length_pos_iff.2 hb;simp only[];rw[zb (by rw[zl];simpa using hpos),zl,vz (by omega) (by omega)];unfold LM;rw[za hb]
def Pg(ps:List (List g7)):Prop:=Mp ps/\∀p∈ps,∀o∈p,y4 o.Kind o.A o.B o.C=0/\o.Kind<=10
theorem WG{l:List (List g7)}(h:fp l=true):Pg l:=by
 unfold fp at h;rw[zy,zf] at h;have key:∀p∈l,p.length<=6/\∀o∈p,pf o=true:=λp hp=>by
  have:=h.2 p hp;unfold tP at this;rw[zy,zG,zf] at this;exact this
 refine⟨λp hp=>(key p hp).1,λp hp o ho=>?_⟩;have:=(key p hp).2 o ho;unfold pf at this;simp only[zy,zG,pu] at this;exact⟨this.2,this.1.2⟩
theorem Pg.DE{ps:List (List g7)}(h:Pg ps)(n:Int):∀o∈Sh.DE ps n,y4 o.Kind o.A o.B o.C=0/\o.Kind<=10:=by
 intro o ho;unfold Sh.DE at ho;split at ho;·cases ho
 .rename_i c;have hk:n.toNat<ps.length:=by omega
  rw[zd,zc hk] at ho;exact h.2 _ (zh hk) o ho
theorem p9.uz{σ:Int->Int}{x:Hp}{m:a8}(q:p9 σ x m)(ts:List g5):p9 σ (Sh.uz x ts) (Fs m (ts.map (tx σ))):=
 ⟨q.gd,q.nd,q.sl,q.ge,q.la,q.npl,q.se,q.ro,q.ce,q.p1,q.p2,rfl⟩
def wG(ps:List (List g7))(x:Hp)(m:a8):Prop:=(∃σ,p9 σ x m)/\m.Progs=ps/\Um m
section
variable{ps:List (List g7)}{x:Hp}{m:a8}(hx:Oh x)(g:wG ps x m)
include hx g
theorem Ii(hb:x.S.Serial<9223372036854775807){o:g7}(hc:y4 o.Kind o.A o.B o.C=0)(hk:o.Kind<=10):∃m',bJ m o=some (m',⟨(jd x o).2.1,(jd x o).2.2⟩)/\wG ps (jd x o).1 m':=by
 obtain⟨⟨σ,q⟩,hp,hu⟩:=g;obtain⟨S,e⟩:=q.jd hx.rt hx.sl hx.zr hb hc hk;refine⟨(AB m o).1,?_,S,?_,hu.do hx.rt q o⟩;·rw[Ua hx.rt q hx.sl hx.zr hb hc hk,e]
 .rcases (vi hx.rt q hx.sl hx.zr hb hc hk).r with ⟨e,he,hp',_⟩ | ⟨σ',z,mz,v,hp',_,_,_,_,hpr,_⟩;·rw[DU hp' he];exact hp
  .rw[Bb hp'];show (kZ mz).Progs=ps;rw[xg,hpr,hp]
theorem TC{l:List g7}(hl:∀o∈l,y4 o.Kind o.A o.B o.C=0/\o.Kind<=10)(hl2:l.length<=1000)(hb:x.S.Serial+l.length<9223372036854775807):∃m',jf m l=some m'/\wG ps (runs x l).1 m':=by
 have all:=yM hx.rt hx.sl hx.zr l hb (λ_=>True) trivial (λ_ _ _ _ _ _=>trivial);unfold jf;simp only[jn];obtain⟨e,h1,h2⟩:∃e,lp (S:=Int × a8) (E:=a8) (λ((s11,s12):Int × a8)=>
   if (decide (s11<(l.length:Int))) then
    (ix l s11).bind λv15=>
    (bJ s12 v15).bind λv16=>
    some (.inl (u7 (s11+1),v16.1))
   else
   some (.inr s12)) (0,m)=some e/\wG ps (runs x l).1 e:=by
  refine jB l.length (λk t=>wG ps (runs x (l.take k)).1 t) (λe=>wG ps (runs x l).1 e) (by omega) g (λk t hk hP=>?_) (λt hP=>⟨t,?_,?_⟩)
  .obtain⟨a1,a2,a3,a4,a5,_⟩:=all k (by omega);obtain⟨hc,hk'⟩:=hl _ (zh hk);obtain⟨m',e1',e2'⟩:=Ii ⟨a1,a2,a3⟩ hP (by omega) hc hk';refine .inl ⟨m',?_,?_⟩
   .dsimp only;rw[zb (by simpa using hk),s7 hk,Yy,e1',Yy,n9 (n:=k) (by omega)]
   .rw[U5 hk,qg];exact e2'
  .dsimp only;rw[za (by simp)]
  .rw[zR] at hP;exact hP
 exact⟨e,by rw[h1];rfl,h2⟩
theorem Qe(hg:Pg ps){t:g5}{ts:List g5}(hq:x.Q.L=t::ts)(hb:x.S.Serial<8000000000000000000):∃u us,m.Tasks=u::us/\u.Prog=t.Prog/\∃m',db m u=some m'/\wG ps (JW ps x t ts) m':=by
 obtain⟨⟨σ,q⟩,hp,hu⟩:=g;have hR:=hx.rt.sh.sr;have htk:m.Tasks=tx σ t::ts.map (tx σ):=by rw[q.tk,hq,zT]
 have hl6:=CP hg.1 t.Prog;have hpr:(tx σ t).Prog=t.Prog:=by unfold tx;split <;> rfl
 have hkd:(tx σ t).Kind=t.Kind:=by
  unfold tx;split;·rename_i h;exact h.symm
  .rfl
 refine⟨_,_,htk,hpr,?_⟩;have pok:=GM hx hq;have pse:=CO hx hq;obtain⟨rok,_,rse⟩:=CX hx hq ps (by omega);have hnx:∀M:a8,M.Tasks=tx σ t::ts.map (tx σ)->aY (⟨M.Tasks,30⟩:j5)=some (⟨ts.map (tx σ),30⟩,tx σ t,0):=λM h=>by
  rw[yW,h];rfl
 have run:∀M,wG ps (pre x t ts) M->∃M',((dy M.Progs (tx σ t).Prog).bind λv9=>jf M v9)=some M'/\wG ps (UJ ps x t ts) M':=λM hM=>by
  rw[vj,Yy,hM.2.1,hpr];exact TC pok hM (hg.DE t.Prog) (by omega) (by omega)
 unfold db;simp only[jn];by_cases hk:t.Kind=1
 .have hk':(tx σ t).Kind=1:=by rw[hkd];exact hk
  have hat:(tx σ t).At=σ t.At:=by unfold tx;rw[zb hk]
  obtain⟨hl,_⟩:=Gs hx.rt hq hk;have hfr:=lA hx.rt hq hk;have r6:=q.r6 hx.rt;have kb:((tx σ t).Kind==1)=true:=by simp[hk']
  simp only[kb,wn];rw[hat,show V1 m 5 (σ t.At)=some (dd m 5 (σ t.At)) from yl (q.bn hR) (q.bl hx.rt.sh) (q.Xo hx.rt (.inr hl)) (r:=5) (by omega),Yy,yn,Yy,hnx (dd m 5 (σ t.At)) (by
   show (fQ m (σ t.At)).Tasks=_;rw[aF];exact htk),Yy]
  dsimp only;have S0:=(q.uz ts).Sy (Dt hx.rt hq) (r:=5) (h:=t.At) (k:=DC m (σ t.At)) (.inr hl) λhl' hs=>by
   have:=hx.rt.fair t.At hl hs;rw[I1] at this;rw[q.lM hx.rt.sh hl];exact this
  have S1:p9 σ (G0 (Sh.uz x ts) 5 t.At) (Fs (dd m 5 (σ t.At)) (ts.map (tx σ))):=by
   have e:Fs (dd m 5 (σ t.At)) (ts.map (tx σ))=Xt (if σ t.At≠0/\11<=DC m (σ t.At) then uf (Fs m (ts.map (tx σ))) (σ t.At) else Fs m (ts.map (tx σ))) (m.Roots.set 5 (σ t.At)):=by
    unfold dd fQ;split <;> rfl
   rw[e];exact S0
  have S2:p9 σ (wi x ts t.At) (Fs (dd m 5 (σ t.At)) (ts.map (tx σ))):=S1.OL (dc (x:=Sh.uz x ts) hx.rt.sh.sr 5 t.At).sr t.At;rw[show H2 ⟨(dd m 5 (σ t.At)).Nodes,(dd m 5 (σ t.At)).Slots,(dd m 5 (σ t.At)).Gens,(dd m 5 (σ t.At)).Last,(dd m 5 (σ t.At)).Places,(dd m 5 (σ t.At)).Serial,(dd m 5 (σ t.At)).Roots,(dd m 5 (σ t.At)).b7,(dd m 5 (σ t.At)).Pairs,ts.map (tx σ),(dd m 5 (σ t.At)).Progs⟩=_ from lF hfr S2,Yy];have G1:wG ps (pre x t ts) (kZ (Fs (dd m 5 (σ t.At)) (ts.map (tx σ)))):=by
   have hu2:Um (Fs (dd m 5 (σ t.At)) (ts.map (tx σ))):=(hu.Xs 5 (σ t.At)).of rfl (NS.refl _);refine⟨⟨σ,?_⟩,?_,hu2.kZ⟩;·unfold pre;rw[zb hk];exact S2.bz hfr
   .rw[xg];show (fQ m (σ t.At)).Progs=ps;rw[aF];exact hp
  obtain⟨M',h1,⟨σ',S3⟩,h3,hu3⟩:=run _ G1;rw[vj,Yy] at h1 |-;rw[h1,Yy];have rr:=bO rok.rt (r:=5) (by decide) (h:=0) (.inl rfl);have S4:=S3.G0 (r:=5) rok.rt.sh rok.rt.fair (.inl rfl);rw[S3.gd.z] at S4;have r6':=S3.r6 rok.rt;rw[show V1 M' 5 0=some (dd M' 5 0) from yl (S3.bn rok.rt.sh.sr) (S3.bl rok.rt.sh) (.inl rfl) (r:=5) (by omega),Yy,lF rr S4,Yy];refine⟨_,rfl,⟨σ',?_⟩,?_,(hu3.Xs 5 0).kZ⟩;·unfold JW;rw[zb hk];exact S4.bz rr
  .rw[xg];show (fQ M' 0).Progs=ps;rw[aF];exact h3
 .have kb:((tx σ t).Kind==1)=false:=by rw[hkd];simp[hk]
  simp only[kb,zD,qr];rw[yn,Yy,hnx m htk,Yy];dsimp only;have G1:wG ps (pre x t ts) (Fs m (ts.map (tx σ))):=by
   refine⟨⟨σ,?_⟩,hp,hu.of rfl (NS.refl _)⟩;unfold pre;rw[za hk];exact q.uz ts
  obtain⟨M',h1,h2⟩:=run _ G1;rw[vj,Yy] at h1 |-;rw[show jf ⟨m.Nodes,m.Slots,m.Gens,m.Last,m.Places,m.Serial,m.Roots,m.b7,m.Pairs,ts.map (tx σ),m.Progs⟩ _=_ from h1,Yy];refine⟨_,rfl,?_⟩;unfold JW;rw[za hk];exact h2
end
section
variable{ps:List (List g7)}{x:Hp}{m:a8}(hx:Oh x)(g:wG ps x m)(hg:Pg ps)
include hx g hg
theorem Gx{f:Int}(hf:0<=f)(hf2:f<=1000000)(hb:x.S.Serial<7900000000000000000):∃m',gF m f=some (m',⟨(dn ps (x,f):Int),Sd (dr ps (x,f))⟩)/\wG ps (dr ps (x,f)).1 m':=by
 obtain⟨a1,a2,a3⟩:=HV ps (p:=(x,f)) hf;have all:=xC ps (p:=(x,f)) hx hf (by show x.S.Serial+f<_;omega);dsimp only at a1;unfold gF;simp only[jn];obtain⟨e,h1,h2⟩:∃e,lp (S:=Int × Int × a8) (E:=(a8 × g9) ⊕ (Int × a8)) (λ((s15,s16,s17):Int × Int × a8)=>
   if (decide ((s17.Tasks.length:Int) > 0)) then
    (ix s17.Tasks 0).bind λv20=>
    (bE s17.Progs v20).bind λv21=>
    if (decide (v21 > s15)) then
     some (.inr (.inl (s17,(⟨s16,12⟩:g9))))
    else
    (db s17 v20).bind λv22=>
    some (.inl (u7 (s15-v21),u7 (s16+1),v22))
   else
   some (.inr (.inr (s16,s17)))) (f,0,m)=some e/\∃m',wG ps (dr ps (x,f)).1 m'/\((e = .inl (m',⟨(dn ps (x,f):Int),12⟩)/\Sd (dr ps (x,f))=12)\/(e = .inr ((dn ps (x,f):Int),m')/\Sd (dr ps (x,f))=0)):=by
  refine uS (λs=>∃k:Nat,k<=dn ps (x,f)/\s.1=(dN ps k (x,f)).2/\s.2.1=(k:Int)/\wG ps (dN ps k (x,f)).1 s.2.2) _ (λs=>dn ps (x,f)-s.2.1.toNat) ⟨0,zV _,rfl,rfl,g⟩ (by show dn ps (x,f)-_<_;omega) ?_;rintro⟨s1,s2,M⟩ ⟨k,hk,e1',e2',G⟩;dsimp only at e1' e2' G;subst e1' e2';obtain⟨b1,b2,b3,b4⟩:=all k;dsimp only at b2 b3 b4;obtain⟨⟨σ,q⟩,hp,_⟩:=id G;have hlen:M.Tasks.length=(dN ps k (x,f)).1.Q.L.length:=by rw[q.tk,zl]
  rcases zF k (dn ps (x,f)) with c | c
  .obtain⟨t,ts,e,cc⟩:=a3 k c;left;obtain⟨u,us,hu,hup,M',h3,h4⟩:=Qe b1 G hg e (by omega);have hc:=sx ps t;have hcs:AA ps u=AA ps t:=by unfold AA;rw[hup]
   refine⟨((dN ps (k+1) (x,f)).2,((k+1:Nat):Int),M'),?_,⟨k+1,c,rfl,rfl,?_⟩,by show _-_<_-_;dsimp only;omega⟩
   .dsimp only;rw[zb (by rw[hlen,e];simp),hu];show ((bE M.Progs u).bind _)=_;rw[hp,wW hg.1,Yy,hcs,za (by simp;omega),h3,Yy,P1 (by omega) (by omega),n9,pQ,jG ps e,zb cc]
   .dsimp only;rw[pQ,jG ps e,zb cc];exact h4
  .have hkk:k=dn ps (x,f):=by omega
   subst hkk;right;cases e:(dN ps (dn ps (x,f)) (x,f)).1.Q.L with
   | nil=>
    refine⟨_,?_,M,G,.inr ⟨rfl,?_⟩⟩
    .dsimp only;rw[za (by rw[hlen,e];simp)]
    .unfold Sd dr;rw[e];rfl
   | cons t ts=>
    have hc:¬AA ps t<=(dN ps (dn ps (x,f)) (x,f)).2:=λq=>a2 ((xz ps e).2 q);have htk:M.Tasks=tx σ t::ts.map (tx σ):=by rw[q.tk,e,zT]
    have hpr:(tx σ t).Prog=t.Prog:=by unfold tx;split <;> rfl
    have hcs:AA ps (tx σ t)=AA ps t:=by unfold AA;rw[hpr]
    refine⟨_,?_,M,G,.inl ⟨rfl,?_⟩⟩
    .dsimp only;rw[zb (by rw[hlen,e];simp),htk];show ((bE M.Progs (tx σ t)).bind _)=_;rw[hp,wW hg.1,Yy,hcs,zb (by simp;omega)]
    .unfold Sd dr;rw[e];rfl
 obtain⟨m',h3,⟨rfl,h5⟩ | ⟨rfl,h5⟩⟩:=h2;·exact⟨m',by rw[h1,h5];rfl,h3⟩
 .exact⟨m',by rw[h1,h5];rfl,h3⟩
theorem VZ(hb:x.S.Serial<7000000000000000000)(row:List Int):∃m',pc m row=some (m',⟨(er ps x row).2.1,(er ps x row).2.2⟩)/\wG ps (er ps x row).1 m':=by
 unfold pc;rw[(DT row).1,Yy];by_cases h:(aI row).2=0
 .have hc:=wY h;have he:er ps x row=eo ps x (aI row).1:=by unfold er;rw[za (λc=>c h)]
  rw[za (by simpa using h),he];unfold eo;by_cases h11:(aI row).1.Kind=11
  .rw[zb (by simpa using h11),zb h11];obtain⟨⟨σ,q⟩,hp,hu⟩:=g;obtain⟨m',k1,k2,k3,k4⟩:=Eu hx.rt hx.sl hx.zr q;rw[k1,Yy];exact⟨m',rfl,⟨σ,k2⟩,by rw[k3,hp],k4 hu⟩
  .rw[za (by simpa using h11),za h11];by_cases h12:(aI row).1.Kind=12
   .rw[zb (by simpa using h12),zb h12];rw[h12] at hc;have:=HQ hc;obtain⟨m',k1,k2⟩:=Gx hx g hg (f:=(aI row).1.A) (by omega) (by omega) (by omega);rw[k1,Yy];exact⟨m',rfl,k2⟩
   .rw[za (by simpa using h12),za h12];have:=tg hc;obtain⟨m',k1,k2⟩:=Ii hx g (by omega) hc (by omega);rw[k1,Yy];exact⟨m',rfl,k2⟩
 .have he:er ps x row=(x,0,(aI row).2):=by unfold er;rw[zb h]
  rw[zb (by simpa using h),he];exact⟨m,rfl,g⟩
def Xf(p:Int × Int):g9:=⟨p.1,p.2⟩
theorem My{rows:List (List Int)}(hl:rows.length<=1000)(hb:x.S.Serial<1000000000000):∃m',aT m rows=some (m',(iO ps x rows).2.map Xf)/\wG ps (iO ps x rows).1 m':=by
 unfold aT;simp only[jn];obtain⟨e,h1,h2⟩:∃e,lp (S:=Int × a8 × (List g9)) (E:=(a8 × (List g9))) (λ((s15,s16,s17):Int × a8 × (List g9))=>
   if (decide (s15<(rows.length:Int))) then
    (ix rows s15).bind λv20=>
    (pc s16 v20).bind λv21=>
    (app 16 s17 [v21.2]).bind λv22=>
    some (.inl (u7 (s15+1),v21.1,v22))
   else
   some (.inr (s16,s17))) (0,m,[])=some e/\(e.2=(iO ps x rows).2.map Xf/\wG ps (iO ps x rows).1 e.1):=by
  refine jB (T:=a8 × List g9) rows.length (λk t=>t.2=(iO ps x (rows.take k)).2.map Xf/\wG ps (iO ps x (rows.take k)).1 t.1) _ (by omega) ⟨rfl,g⟩ (λk t hk hP=>?_) (λt hP=>⟨t,?_,?_⟩)
  .obtain⟨M,acc⟩:=t;obtain⟨hacc,hM⟩:=hP;dsimp only at hacc hM;obtain⟨a1,a2⟩:=Ch hg.1 hx (rows.take k) (by rw[zax];omega);rw[zax] at a2;obtain⟨m',e1',e2'⟩:=VZ a1 hM hg (by omega) rows[k];have hla:acc.length=k:=by rw[hacc,zl,HZ,zax];omega
   refine .inl ⟨(m',acc ++ [⟨(er ps (iO ps x (rows.take k)).1 rows[k]).2.1,(er ps (iO ps x (rows.take k)).1 rows[k]).2.2⟩]),?_,?_,?_⟩
   .dsimp only;rw[zb (by simpa using hk),s7 hk,Yy,e1',Yy,FT (by omega) (by omega),Yy,n9 (n:=k) (by omega)]
   .dsimp only;rw[U5 hk,xH,zaa,hacc];rfl
   .rw[U5 hk,xH];exact e2'
  .dsimp only;rw[za (by simp)]
  .rw[zR] at hP;exact hP
 exact⟨e.1,by rw[h1];show some _=_;rw[<-h2.1],h2.2⟩
end
theorem Vj(l:List (List g7)):∃b,ia l=some b/\(b=true->l.length<=10/\∀p∈l,p.length<=10):=by
 unfold ia;simp only[jn];refine VN (Q:=λb=>b=true->l.length<=10/\(∀p∈l,p.length<=10)) (min l.length 10) (λk=>∀h:k<l.length,(l[k]).length<=10) (by have:min l.length 10<=10:=Nat.min_le_right ..;omega) (λk hk=>?_) ?_ (λhP=>?_) (λhP=>?_)
 .have hkl:k<l.length:=by omega
  have hk10:k<10:=by omega
  have c:((decide (((k:Nat):Int)<(l.length:Int)))&&(decide (((k:Nat):Int)<10)))=true:=by simp;omega
  by_cases q:(l[k]).length<=10
  .refine⟨_,?_,.inl ⟨λ_=>q,rfl⟩⟩;rw[zb c,s7 hkl,Yy,za (by simp;omega),n9]
  .refine⟨_,?_,.inr ⟨λh=>q (h hkl),rfl⟩⟩;rw[zb c,s7 hkl,Yy,zb (by simp;omega)]
 .rw[za (by simp;omega)]
 .refine⟨_,rfl,λh=>?_⟩;have h10:l.length<=10:=by have:=za9 h;omega
  refine⟨h10,λp hp=>?_⟩;obtain⟨k,hk,rfl⟩:=wt hp;exact hP k (by omega) hk
 .exact⟨false,rfl,λh=>by cases h⟩
theorem Rw(l:List (List Int))(m:Int):∃b,gp l m=some b/\(b=true->(l.length:Int)<=m):=by
 unfold gp;simp only[jn];refine VN (Q:=λb=>b=true->(l.length:Int)<=m) (min l.length 200) (λk=>∀h:k<l.length,(l[k]).length<=10) (by have:min l.length 200<=200:=Nat.min_le_right ..;omega) (λk hk=>?_) ?_ (λhP=>?_) (λhP=>?_)
 .have hkl:k<l.length:=by omega
  have hk10:k<200:=by omega
  have c:((decide (((k:Nat):Int)<(l.length:Int)))&&(decide (((k:Nat):Int)<200)))=true:=by simp;omega
  by_cases q:(l[k]).length<=10
  .refine⟨_,?_,.inl ⟨λ_=>q,rfl⟩⟩;rw[zb c,s7 hkl,Yy,za (by simp;omega),n9]
  .refine⟨_,?_,.inr ⟨λh=>q (h hkl),rfl⟩⟩;rw[zb c,s7 hkl,Yy,zb (by simp;omega)]
 .rw[za (by simp;omega)]
 .exact⟨_,rfl,λh=>za9 h⟩
 .exact⟨false,rfl,λh=>by cases h⟩
def CQ:List (List g7):=[[(⟨2,2,5,0⟩:g7)]]
def nq:List (List Int):=[[1,0,1,0],[5,0,0,0],[3,0,0,0],[11,0,0,0],[12,9,0,0],[3,2,0,0],[11,0,0,0],[2,9,0,0]]
def CF:a8:=⟨[],[0,0,0],[0,0,0],5,8,0,List.replicate 6 0,List.replicate 6 ⟨0,false,-1⟩,[],[],CQ⟩
def Yi:a8:=⟨[],[],[],0,0,0,[],[],[],[],[]⟩
def Uj(k:Nat)(l:Int)(p:Nat)(ps:List (List g7)):a8:=⟨[],List.replicate k 0,List.replicate k 0,l,p,0,List.replicate 6 0,List.replicate 6 ⟨0,false,-1⟩,[],[],ps⟩
theorem Nj(k:Nat)(l:Int)(p i:Nat):ce (pW k l p).S i=⟨0,0,z0⟩:=by
 unfold ce pW;dsimp only;rw[zd,List.getElem?_replicate];split <;> rfl
theorem Uk(k:Nat)(l:Int)(p:Nat)(ps:List (List g7)):p9 (λ_=>0) (pW k l p) (Uj k l p ps):=by
 have nt:∀i,¬Th (ce (pW k l p).S i):=λi=>by rw[Nj];unfold Th;decide
 have rep:∀(f:Nat->Int),(∀i,f i=0)->List.replicate k (0:Int)=(List.range (pW k l p).S.S.b7.length).map f:=λf hf=>by
  symm
  rw[List.eq_replicate_iff];refine⟨by rw[zl,zbu];exact List.length_replicate ..,λb hb=>?_⟩;obtain⟨i,_,rfl⟩:=zq.1 hb;exact hf i
 refine⟨⟨rfl,λh i a=>absurd a.2.1 (nt i)⟩,⟨List.Pairwise.nil,λn=>⟨λh=>(nomatch h),λ⟨i,_,t,_⟩=>absurd t (nt i)⟩⟩,rep _ λi=>?_,rep _ λi=>by rw[Nj],rfl,?_,rfl,rfl,rfl,List.Pairwise.nil,λq=>⟨λh=>(nomatch h),λ⟨a,v,h,_⟩=>?_⟩,rfl⟩
 .unfold DF;rw[za (nt i),Nj];rfl
 .show (p:Int)=((List.replicate p _).length:Nat);rw[List.length_replicate]
 .obtain⟨i,hi,_⟩:=h;have:=hi.2.1;rw[show (pW k l p).T=List.replicate p ⟨0,0,0⟩ from rfl,vk] at this;cases this
theorem Sp{n last places:Int}{ps:List (List g7)}(hl:ps.length<=12)(hp:∀p∈ps,p.length<=12) :
  (∃e E,e≠0/\R8 n last places ps=some (E,e)/\aS n last places ps=some (Yi,e)/\(e=13\/e=1/\¬((1<=n/\n<=24)/\(0<=last/\last<=9)/\1<=places/\places<=8))) \/
  (∃k p:Nat,n=k/\places=p/\(1<=k/\k<=24)/\Pg ps/\Rs (pW k last p) 0/\R8 n last places ps=some (⟨pW k last p,ps⟩,0)/\aS n last places ps=some (Uj k last p ps,0)/\wG ps (pW k last p) (Uj k last p ps)):=by
 rcases Wz (n:=n) (last:=last) (places:=places) hl hp with ⟨e,e1,_,e3⟩ | ⟨k,p,rfl,rfl,hk,hm,hr,e1,_⟩
 .left;have he:e≠0:=by omega
  refine⟨e,_,he,e1,?_,e3⟩;unfold aS;rw[e1,Yy,zb (by simpa using he)];rfl
 .right;have hpg:fp ps=true:=by
   cases hq:fp ps with
   | true=>rfl
   | false=>
    have e2:fS ps=some (fp ps):=EL (by omega) hp;unfold R8 at e1;rw[e2,Yy,hq,zb (show (!false)=true from rfl)] at e1;exact absurd (zW (λp=>p.2) (zJ e1)) (by simp)
  refine⟨k,p,rfl,rfl,hk,WG hpg,hr,e1,?_,⟨_,Uk k last p ps⟩,rfl,λc _ n hn=>(nomatch hn)⟩;unfold aS;rw[e1,Yy,za (by simp),kB (by omega) (by omega),Yy,show mk 8 6 (0:Int)=some (List.replicate 6 0) from rfl,Yy];refine rV (a:=List.replicate 6 ⟨0,false,-1⟩) (by kernel_rfl) ?_;rfl
theorem Rx:gq=some true:=by
 have hp:∀p∈CQ,p.length<=12:=λp h=>by
  have:p = [⟨2,2,5,0⟩]:=zp.1 h;subst this;decide
 rcases Sp (n:=3) (last:=5) (places:=8) (ps:=CQ) (by decide) hp with ⟨e,E,he,e1,e2,_⟩ | ⟨k,p,hk,hpp,_,hg,hr0,e1,e2,G⟩
 .have h3:aS 3 5 8 CQ=some (CF,0):=by kernel_rfl
  rw[e2] at h3;exact absurd (zW (λp=>p.2) (zJ h3)) he
 .obtain rfl:k=3:=by omega
  obtain rfl:p=8:=by omega
  have h3:aT (Uj 3 5 8 CQ) nq=some ((aT CF nq).getD (CF,[])):=by kernel_rfl
  obtain⟨m',k1,_⟩:=My hr0.oh G hg (rows:=nq) (by decide) (by have:=hr0.aW;omega);rw[h3] at k1;have k2:(iO CQ (pW 3 5 8) nq).2.map Xf=((aT CF nq).getD (CF,[])).2:=(zW (λp=>p.2) (zJ k1)).symm;have k3:(iO CQ (pW 3 5 8) nq).2.map Xg=((aT CF nq).getD (CF,[])).2:=k2;have b1:=XH hg.1 hr0.oh nq (by decide) (by have:=hr0.aW;omega);rw[k3] at b1;unfold gq;refine rV (a:=(Uj 3 5 8 CQ,(0:Int))) e2 ?_;refine rV (a:=((⟨pW 3 5 8,CQ⟩:r8),(0:Int))) e1 ?_;refine rV (a:=(aT CF nq).getD (CF,[])) h3 ?_;refine rV b1 ?_;kernel_rfl
theorem Wa{l:List (List g7)}{rows:List (List Int)}{m:Int}{K:Option Bool}(h:ia l=some true->l.length<=10->(∀p∈l,p.length<=10)->(rows.length:Int)<=m->K=some true) :
  ((ia l).bind λv1=>(C7 ((!v1)==false) false (gp rows m)).bind λv2=>(C7 (((!v1)||(!v2))==false) false gq).bind λv3=>if (((!v1)||(!v2))||(!v3)) then (gq).bind λv4=>some v4 else K)=some true:=by
 obtain⟨b,h1,h2⟩:=Vj l;obtain⟨c,h3,h4⟩:=Rw rows m;rw[h1,Yy,Rx];cases b;·rfl
 .rw[show C7 ((!true)==false) false (gp rows m)=gp rows m from rfl,h3,Yy];cases c;·rfl
  .exact h h1 (h2 rfl).1 (h2 rfl).2 (h4 rfl)
theorem Vb{ps:List (List g7)}{x:Hp}{m:a8}(hx:Oh x)(g:wG ps x m)(ht:ia ps=some true):ur m=some true:=by
 obtain⟨⟨σ,q⟩,hp,_⟩:=g;have B:=q.bn hx.rt.sh.sr;have C:=q.bl hx.rt.sh;have nl:=B.nl;have hR:=hx.rt.sh;have r6:=q.r6 hx.rt;have c6:m.b7.length=6:=by rw[q.ce,zl,hR.c6]
 have tl:m.Tasks.length<=30:=by rw[q.tk,zl];exact hR.q30
 have pl8:m.Pairs.length<=8:=by
  rw[(q.perm hR).length_eq,zl];unfold jH;rw[zl];exact zO (zA ..) hR.hr.l8
 have gl:=B.gl;unfold ur;simp only[jn];refine eO m.Nodes.length (λ_=>True) (by omega) trivial (λk hk _=>.inl ⟨?_,trivial⟩) (λ_=>⟨.inr (),?_,?_⟩)
 .have c:((decide (((k:Nat):Int)<(m.Nodes.length:Int)))&&(decide (((k:Nat):Int)<60)))=true:=by simp;omega
  have:=B.fl _ (zh hk);rw[zb c,s7 hk,Yy,za (by simp;omega),n9]
 .rw[za (by simp)]
 .have e:((((((((decide ((m.Nodes.length:Int)<=50))&&(decide ((m.Pairs.length:Int)<=20)))&&(decide ((m.Tasks.length:Int)<=100)))&&(decide ((m.b7.length:Int)<=20)))&&(decide ((m.Roots.length:Int)<=20)))&&(decide ((m.Slots.length:Int)<=30)))&&(decide ((m.Gens.length:Int)<=30))))=true:=by
   simp;omega
  dsimp only;rw[e,hp];simp only[ul,fm];rw[ht];rfl
theorem wG.r6{ps:List (List g7)}{x:Hp}{m:a8}(hx:Oh x)(g:wG ps x m):m.Roots.length=6:=by
 obtain⟨⟨σ,q⟩,_⟩:=g;exact q.r6 hx.rt
theorem WO{n:Int}(h0:0<=n)(h1:n<=255){b:Int}(hb:0<b):rem (u7 n) b=some (n % b):=by rw[P1 (by omega) (by omega),CZ h0 hb]
theorem Uh{n last:Int}(h0:0<=n)(h1:n<=255){ps:List (List g7)}(hl:ps.length<=12)(hp:∀p∈ps,p.length<=12)(hL:0<=last/\last<=9) :
  (∃E,R8 (u7 (1+n % 24)) last 8 ps=some (E,13)/\aS (u7 (1+n % 24)) last 8 ps=some (Yi,13)) \/
  (∃k:Nat,1+n % 24=k/\(1<=k/\k<=24)/\Pg ps/\Rs (pW k last 8) 0/\R8 (u7 (1+n % 24)) last 8 ps=some (⟨pW k last 8,ps⟩,0)/\aS (u7 (1+n % 24)) last 8 ps=some (Uj k last 8 ps,0)/\wG ps (pW k last 8) (Uj k last 8 ps)):=by
 have hw:u7 (1+n % 24)=1+n % 24:=P1 (by omega) (by omega);rw[hw];rcases Sp (n:=1+n % 24) (last:=last) (places:=8) (ps:=ps) hl hp with ⟨e,E,he,e1,e2,e3⟩ | ⟨k,p,hk,hpp,hk2,hg,hr,e1,e2,G⟩
 .rcases e3 with rfl | ⟨_,h⟩
  .exact .inl ⟨E,e1,e2⟩
  .exact absurd ⟨by omega,hL,by omega,by omega⟩ h
 .obtain rfl:p=8:=by omega
  exact .inr ⟨k,hk,hk2,hg,hr,e1,e2,G⟩
section
variable{σ:Int->Int}{x:Hp}{m:a8}(hx:Oh x)(q:p9 σ x m)
include hx q
end
section
variable{σ:Int->Int}{x:Hp}{m:a8}(hx:Oh x)(q:p9 σ x m)
include hx q
theorem p9.Ku:m.Nodes.length=(((List.range x.S.S.b7.length).filter λi=>decide (Th (Sh.ce x.S i)))).length:=by
 have hR:=hx.rt.sh.sr;have h1:m.Nodes.Nodup:=q.nd.up.imp λh e=>by rw[e] at h;exact absurd h (zbd _)
 have h2:(((List.range x.S.S.b7.length).filter λi=>decide (Th (Sh.ce x.S i))).map (Sh.nd σ x.S)).Nodup:=by
  rw[List.Nodup,zbk];refine List.Pairwise.imp (λ{a b} h e=>h ?_) ((List.nodup_range).filter _);have:(a:Int)=(b:Int):=zW b8.Slot e;omega
 have hp:m.Nodes.Perm (((List.range x.S.S.b7.length).filter λi=>decide (Th (Sh.ce x.S i))).map (Sh.nd σ x.S)):=by
  rw[zb4 h1 h2];intro n;rw[q.nd.mem,zq];constructor
  .rintro⟨i,hi,ti,rfl⟩;exact⟨i,zi.2 ⟨zaw.2 hi,zC ti⟩,rfl⟩
  .rintro⟨i,hi,rfl⟩;obtain⟨a,b⟩:=zi.1 hi;exact⟨i,zaw.1 a,za9 b,rfl⟩
 rw[hp.length_eq,zl]
theorem p9.Vd{i:Nat}(hi:i<x.S.S.b7.length) : -1<=DF (Sh.ce x.S i)/\DF (Sh.ce x.S i)<=x.S.Serial/\(0<DF (Sh.ce x.S i)↔Th (Sh.ce x.S i)):=by
 have hR:=hx.rt.sh.sr;have hs:=hR.aW;unfold DF;split
 .rename_i t;have:=hR.ok i hi t;have h1:=this.s1;have h2:=this.s2;exact⟨by omega,h2,⟨λ_=>t,λ_=>by omega⟩⟩
 .rename_i t;split;·exact⟨by omega,by omega,⟨λh=>by omega,λh=>absurd h t⟩⟩
  .exact⟨by omega,by omega,⟨λh=>by omega,λh=>absurd h t⟩⟩
end
theorem modelSlots{n last:Int}{l:List (List g7)}{rows:List (List Int)}(h0:0<=n)(h1:n<=255)(g0:0<=last)(g1:last<=255):jR n last l rows=some true:=by
 unfold jR;refine Wa λht hl hp hr=>?_;have hp12:∀p∈l,p.length<=12:=λp q=>by have:=hp p q;omega
 rw[WO h0 h1 (by decide),Yy,WO g0 g1 (by decide),Yy];rcases Uh (last:=last % 10) h0 h1 (ps:=l) (by omega) hp12 (by omega) with ⟨E,e1,e2⟩ | ⟨k,hk,hk2,hg,hr0,e1,e2,G⟩
 .rw[e2,Yy];rfl
 .have hs:=hr0.aW;obtain⟨m',k1,k2⟩:=My hr0.oh G hg (rows:=rows) (by omega) (by omega);obtain⟨o1,_⟩:=Ch hg.1 hr0.oh rows (by omega);have hc:(iO l (pW k (last % 10) 8) rows).1.S.S.b7.length=k:=by
   have:=Mb hg.1 hr0.oh rows (by omega) (by omega) rows.length (zE _);rw[zR] at this;rw[this];show (List.replicate k _).length=k;simp
  have hw:u7 (1+n % 24)=(k:Int):=by rw[P1 (by omega) (by omega),hk]
  rw[e2,Yy];dsimp only;rw[za (by simp),k1,Yy];dsimp only;rw[Vb o1 k2 ht,Yy,hw];generalize (iO l (pW k (last % 10) 8) rows).1=x at *;have hR:=o1.rt.sh.sr;obtain⟨⟨σ,q⟩,hpr,hum⟩:=k2;have B:=q.bn hR;have nl:=B.nl;have hsl:m'.Slots.length=k:=by rw[q.WU o1.rt,hc]
  have hgl:m'.Gens.length=k:=by rw[q.ge];simp[hc]
  rw[hsl,hgl];simp only[zcc,zb9,Bool.or_self,zD,qr,jn];have hgi:∀i (h:i<m'.Gens.length),m'.Gens[i]=(ce x.S i).Gen:=λi h=>by
   have:=q.ge;simp only[this,t8,List.getElem_range]
  have hla:=q.la;have hse:=q.se;have hlen:=q.Ku o1;refine Iw (T:=Int) k (λj t=>t=((((List.range j).filter λi=>decide (Th (ce x.S i)))).length:Int)) (by omega) rfl (λj t hj hP=>⟨_,?_,rfl⟩) (λt hP=>⟨.inr t,?_,?_⟩)
  .subst hP;have hj1:j<m'.Gens.length:=by omega
   have hj2:j<m'.Slots.length:=by omega
   have hjc:j<x.S.S.b7.length:=by omega
   obtain⟨s1,s2,s3⟩:=q.Vd o1 hjc;have hcl:=hR.cell j hjc;dsimp only;rw[zb (by simp;omega),s7 hj1,Yy,hgi j hj1,s7 hj2,q.WT o1.rt hj2];have c1:(decide ((ce x.S j).Gen<0)||decide ((ce x.S j).Gen > m'.Last))=false:=by rw[hla];simp;omega
   rw[c1];simp only[ul,fm,Yy,zbe];have c2:decide (DF (ce x.S j) < -1)=false:=by simp;omega
   rw[c2];simp only[ul,fm,Yy,zbe];rw[za (by rw[hse];simp;omega)];rw[List.range_succ,za4,zK];have hle:=zA (λi=>decide (Th (ce x.S i))) (List.range j);rw[zbu] at hle;by_cases t:Th (ce x.S j)
   .rw[zb (by simpa using s3.2 t),P1 (by omega) (by omega),n9 (n:=j) (by omega),List.filter_cons_of_pos (by simpa using t)];simp
   .rw[za (by simpa using λh=>t (s3.1 h)),n9 (n:=j) (by omega),List.filter_cons_of_neg (by simpa using t)];simp
  .dsimp only;rw[za (by simp)]
  .dsimp only;subst hP;refine eO m'.Nodes.length (λ_=>True) (by omega) trivial (λi hi _=>.inl ⟨?_,trivial⟩) (λ_=>⟨.inr (),by simp,?_⟩)
   .have hin:=zh hi;obtain⟨p,hp,tp,e⟩:=(q.nd.mem _).1 hin;have eS:m'.Nodes[i].Slot=(p:Int):=by rw[e];rfl
    have eR:m'.Nodes[i].Serial=DF (ce x.S p):=by rw[e];unfold DF;rw[zb tp];rfl
    have hp2:p<m'.Slots.length:=by omega
    rw[zb (by simpa using hi),s7 hi,Yy];rw[eS,eR,s7 hp2,q.WT o1.rt hp2];have c1:(decide ((p:Int)<0)||decide ((p:Int)>=(k:Int)))=false:=by simp;omega
    rw[c1];simp only[ul,fm,Yy,zbe,zb9,za5];rcases mt i with c | c
    .subst c;simp[C7,P1]
    .have hi1:i-1<m'.Nodes.length:=by omega
     have hwi:u7 ((i:Int)-1)=((i-1:Nat):Int):=by rw[P1 (by omega) (by omega)];omega
     have hlt:=zat.1 q.nd.up (i-1) i hi1 hi (by omega);rw[eR] at hlt;have d1:decide ((i:Int) > 0)=true:=by simp;omega
     rw[d1,hwi,s7 hi1];simp only[ul,fm,Yy,za5];rw[za (by simp;omega),n9 (n:=i) (by omega)]
   .rw[hlen,hc];simp
section
variable{σ:Int->Int}{x:Hp}{m:a8}(hx:Oh x)(q:p9 σ x m)
include hx q
end
end Go.Sh
