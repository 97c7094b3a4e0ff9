/- A part. -/
import Derived.Test.YtmgbbnfgfmfgaaaGreatQ22dT2
set_option linter.unusedVariables false
set_option linter.unusedSimpArgs false
set_option linter.unusedSectionVars false
namespace Go.Sh
def Lf(m:a8)(w:Nat)(s call:Int):a8:=DR (RX m (m.b7.set w (fD s call))) (m.b7.getD w cz).Target
theorem Ge{m:a8}{s:Int}{n:b8}(h:m.Nodes.find? (λn=>n.Serial==s)=some n):DR m s=if n.Alive=true\/0<jb m.b7 s then m else El m n:=by
 unfold DR;rw[h]
theorem LJ{m:a8}{s:Int}(h:m.Nodes.find? (λn=>n.Serial==s)=none):DR m s=m:=by
 unfold DR;rw[h]
theorem IL{σ:Int->Int}{x:Hp}{m:a8}(hR:SR x.S)(q:p9 σ x m){i:Nat}(hi:i<x.S.S.b7.length)(ht:Th (ce x.S i))(d:Int):p9 σ (wS x (lC x.S i d)) m:=by
 refine q.alike hR (J1 ..) rfl rfl λj hj=>?_;rw[eU hR hi ht];split;·rename_i e;subst e;exact⟨rfl,rfl,rfl,rfl,rfl,rfl,rfl⟩
 .exact⟨rfl,rfl,rfl,rfl,rfl,rfl,rfl⟩
theorem lj{x:Hp}(hS:kc x){c:k7}(hc:c∈x.b7):c.Target=0\/∃i,T5 x.S c.Target i:=by
 obtain⟨i,hi,rfl⟩:=wt hc;by_cases e:x.b7[i].Target=0
 .exact .inl e
 .exact .inr ((hS.cl i hi).2.2.2.1 e)
theorem p9.cE{σ:Int->Int}{x:Hp}{m:a8}(hx:J8 x)(q:p9 σ x m){w:Nat}(hw:w<6){h call:Int}(hh:h=0\/h∈lv x.S):p9 σ (cE x w h call) (Lf m w (σ h) call):=by
 have hS:=hx.sh;have hR:=hS.sr;have hwl:w<x.b7.length:=by rw[hS.c6];exact hw
 have hz:(σ h != 0)=(h != 0):=by
  have:=q.gd.zero hR (MW hR q.gd hh);rw[zbm];simp[this]
 have q1:p9 σ (wC x (x.b7.set w (fD h call))) (RX m (m.b7.set w (fD (σ h) call))):=by
  refine⟨q.gd,q.nd,q.sl,q.ge,q.la,q.npl,q.se,q.ro,?_,q.p1,q.p2,q.tk⟩;show m.b7.set w (fD (σ h) call)=(x.b7.set w (fD h call)).map (wx σ);rw[q.ce,zcq];congr 1;unfold wx fD;rw[hz]
 have hold:(m.b7.getD w cz).Target=σ (lW x w):=by
  unfold lW;rw[q.ce,zd,zB,zd,zc hwl];rfl
 have htg:lW x w=x.b7[w].Target:=by unfold lW;rw[zd,zc hwl];rfl
 unfold Sh.cE Lf;rw[hold];generalize hy:il (wC x (x.b7.set w (fD h call))) h 1=y;generalize hm:RX m (m.b7.set w (fD (σ h) call))=m1 at q1;have k:∃s2,y=wS (wC x (x.b7.set w (fD h call))) s2/\SR s2/\p9 σ y m1/\s2.S.b7.length=x.S.S.b7.length/\∀i,i<x.S.S.b7.length->(Sh.ce s2 i).State=(Sh.ce x.S i).State/\(Sh.ce s2 i).Gen=(Sh.ce x.S i).Gen/\(Sh.ce s2 i).Val.Weak=(Sh.ce x.S i).Val.Weak+if h=bV x.S i/\Th (Sh.ce x.S i) then 1 else 0:=by
  subst hy;unfold il;split
  .rename_i c;have c:T5 x.S h (D3 h):=c;refine⟨_,rfl,va hR c.1 c.2.1 (by have:=(hR.ok _ c.1 c.2.1).wk;omega),IL (x:=wC x (x.b7.set w (fD h call))) hR q1 c.1 c.2.1 1,J1 ..,λi hi=>?_⟩;show (Sh.ce (lC x.S (D3 h) 1) i).State=_/\(Sh.ce (lC x.S (D3 h) 1) i).Gen=_/\(Sh.ce (lC x.S (D3 h) 1) i).Val.Weak=_;rw[eU hR c.1 c.2.1];split
   .rename_i e;subst e;exact⟨rfl,rfl,by rw[zb ⟨c.2.2,c.2.1⟩]⟩
   .rename_i e;refine⟨rfl,rfl,?_⟩;rw[za λd=>?_];·omega
    .exact e (T5.one hR (d.1▸wU hi d.2) c)
  .rename_i c;refine⟨_,rfl,hR,q1,rfl,λi hi=>⟨rfl,rfl,?_⟩⟩;rw[za λd=>?_];·omega
   .refine c ?_;have:=wU hi d.2;show T5 x.S h (D3 h);rw[d.1,this.D3 hR];exact this
 obtain⟨s2,ey,hR2,q2,hl2,hc2⟩:=k;have hcf:∀c∈x.b7.set w (fD h call),c.Target=0\/∃i,T5 x.S c.Target i:=λc hc=>by
  rcases zav hc with hc | rfl
  .exact lj hS hc
  .exact MW hR q.gd hh
 rcases lj hS (zh hwl) with e0 | ⟨p,hp⟩
 .rw[<-htg] at e0;rw[e0,q.gd.z,LJ (q2.Wf (by rw[ey];exact hR2))];unfold pB;rw[za];·exact q2
  .intro c;have:=c.KP (by rw[ey];exact hR2);omega
 .rw[<-htg] at hp;have hpp:=hp.D3 hR;obtain⟨s1',g1,w1⟩:=hc2 p hp.1;have hT2:Th (Sh.ce s2 p):=by unfold Th;rw[s1'];exact hp.2.1
  have hp2:T5 s2 (lW x w) p:=⟨by rw[hl2];exact hp.1,hT2,by rw[g1];exact hp.2.2⟩;have hp2y:T5 y.S (lW x w) p:=by rw[ey];exact hp2
  have hRy:SR y.S:=by rw[ey];exact hR2
  have h0:lW x w≠0:=by have:=hp.KP hR;omega
  have s0:σ (lW x w)≠0:=by have:=q.gd.pos hR hp;omega
  have ehd:lW x w=bV x.S p:=hp.2.2;have hnm:(Sh.ce y.S p).Val.Weak=(Sh.jb (x.b7.set w (fD h call)) (lW x w):Int)+1:=by
   rw[ey];show (Sh.ce s2 p).Val.Weak=_;have a:=IN hwl (fD h call) h0;have b:(Sh.ce x.S p).Val.Weak=(Sh.jb x.b7 (lW x w):Int):=by rw[ehd];exact (hx.wk p hp.1 hp.2.1).1
   rw[w1,b];rw[htg] at a |-;rw[zb rfl] at a;by_cases c:h=x.b7[w].Target
   .rw[zb ⟨by rw[c,<-htg];exact ehd,hp.2.1⟩];rw[zb (show (fD h call).Target=_ from c)] at a;omega
   .rw[za λd=>c (by rw[d.1,<-htg];exact ehd.symm)];rw[za (show ¬(fD h call).Target=_ from c)] at a;omega
  have q3:p9 σ (wS y (lC y.S p (-1))) m1:=IL hRy q2 hp2y.1 hp2y.2.1 (-1);have hR3:SR (lC y.S p (-1)):=va hRy hp2y.1 hp2y.2.1 (by rw[hnm];omega);have hp3:T5 (wS y (lC y.S p (-1))).S (lW x w) p:=(wV hp2y.1 _).2 hp2y;have hf:=q3.find hR3 hp3;have hst:(Sh.ce (lC y.S p (-1)) p).State=(Sh.ce y.S p).State:=by rw[eU hRy hp2y.1 hp2y.2.1,zb rfl]
  have hcm:Sh.jb m1.b7 (σ (lW x w))=Sh.jb (x.b7.set w (fD h call)) (lW x w):=by
   have:m1.b7=(x.b7.set w (fD h call)).map (wx σ):=by
    have:=q2.ce;rw[ey] at this;exact this
   rw[this];exact q.jb hR (λc hc e=>q.gd.VF hR (hcf c hc) (.inr ⟨p,hp⟩) e) h0 s0
  rw[Ge hf,hcm];unfold pB;rw[hpp,zb hp2y];by_cases c:(Sh.ce y.S p).State=2/\(Sh.ce y.S p).Val.Weak=1
  .rw[zb c,za];·exact q3.El hR3 hp3.1 hp3.2.1
   .rintro (d | d)
    .have:(Sh.ce (lC y.S p (-1)) p).State=1:=by simpa[Sh.nd] using d
     rw[hst,c.1] at this;exact absurd this (by decide)
    .have:=c.2;rw[hnm] at this;omega
  .rw[za c,zb];·exact q3
   .by_cases d:(Sh.ce y.S p).State=2
    .right;have:(Sh.ce y.S p).Val.Weak≠1:=λe=>c ⟨d,e⟩;rw[hnm] at this;omega
    .left;have:(Sh.ce y.S p).State=1:=hp2y.2.1.resolve_right d;unfold Sh.nd;exact zC (hst.trans this)
def lr(n:b8):b8:=⟨n.Serial,n.Slot,n.Prog,n.Started,false,n.Stuck,[]⟩
def qI(m:a8)(s:Int):a8:=DR (xp m (fE m.Nodes s lr)) s
theorem xK(s:Int){f:b8->b8}(hf:∀n,(f n).Serial=n.Serial):∀l:List b8,(fE l s f).find? (λn=>n.Serial==s)=(l.find? λn=>n.Serial==s).map f
 | []=>rfl
 | n::l=>by
  unfold fE at *;rw[zF,List.find?_cons,List.find?_cons];by_cases e:n.Serial=s
  .rw[zb e];have:(f n).Serial=s:=(hf n).trans e;simp[e,this]
  .rw[za e];have:(n.Serial==s)=false:=by simpa using e
   rw[this];exact xK s hf l
theorem rk(s:Int){f:b8->b8}(hf:∀n,(f n).Serial=n.Serial):∀l:List b8,(fE l s f).filter (λn=>n.Serial != s)=l.filter λn=>n.Serial != s
 | []=>rfl
 | n::l=>by
  unfold fE at *;rw[zF,ms,ms];by_cases e:n.Serial=s
  .rw[zb e];have:(f n).Serial=s:=(hf n).trans e;simp only[this,e,bne_self_eq_false];exact rk s hf l
  .rw[za e];have:(n.Serial != s)=true:=by simpa using e
   simp only[this,wn];have ih:=rk s hf l;unfold fE at ih;rw[ih]
theorem p9.qI{σ:Int->Int}{x:Hp}{m:a8}(hR:SR x.S)(q:p9 σ x m){d:Int}(hd:d∈lv x.S)(hst:(ob x.S d).Strong<12)(hw:(ob x.S d).Weak=Sh.jb x.b7 d)
  (hinj:∀c∈x.b7,σ c.Target=σ d->c.Target=d):p9 σ (wS x (wq x.S d)) (qI m (σ d)):=by
 have p:=o0 hR hd;have h0:d≠0:=by have:=H5 hR hd;omega
 have s0:σ d≠0:=by have:=q.gd.ps hR hd;omega
 have hf:=q.find hR p.d;have hsd:(Sh.nd σ x.S (D3 d)).Serial=σ d:=(q.gd.f d _ p.d).symm;have hcm:Sh.jb m.b7 (σ d)=Sh.jb x.b7 d:=by rw[q.ce];exact q.jb hR hinj h0 s0
 have hf2:(xp m (fE m.Nodes (σ d) lr)).Nodes.find? (λn=>n.Serial==σ d)=some (lr (Sh.nd σ x.S (D3 d))):=by
  show (fE m.Nodes (σ d) lr).find? _=_;rw[xK _ (f:=lr) (λ_=>rfl),hf];rfl
 unfold Sh.qI;rw[Ge hf2];have hcm':Sh.jb (xp m (fE m.Nodes (σ d) lr)).b7 (σ d)=Sh.jb x.b7 d:=hcm;rw[hcm'];unfold wq;rw[E9 hR p] at hw hst;by_cases c:(Sh.ce x.S (D3 d)).Val.Weak=0
 .have e:FM x.S (D3 d)=FN x.S (D3 d):=by unfold FM FN;rw[zb c]
  rw[e,za]
  .have:Sh.El (xp m (fE m.Nodes (σ d) lr)) (lr (Sh.nd σ x.S (D3 d)))=Sh.El m (Sh.nd σ x.S (D3 d)):=by
    unfold Sh.El lr;dsimp only;rw[hsd];have:=rk (σ d) (f:=lr) (λ_=>rfl) m.Nodes;unfold lr at this;rw[this]
   rw[this];exact q.El hR p.1 p.d.2.1
  .rintro (a | a);·exact absurd a (by unfold lr;simp)
   .rw[c] at hw;omega
 .have e:FM x.S (D3 d)=⟨2,(Sh.ce x.S (D3 d)).Gen,Kc (Sh.ce x.S (D3 d)).Val⟩:=by unfold FM;rw[za c]
  rw[e,zb (.inr (by have:=(hR.ok _ p.1 p.d.2.1).wk;omega))];have hc:=λj=>K4 p.1 ⟨2,(Sh.ce x.S (D3 d)).Gen,Kc (Sh.ce x.S (D3 d)).Val⟩ j;have hl:=V3 x.S (D3 d) ⟨2,(Sh.ce x.S (D3 d)).Gen,Kc (Sh.ce x.S (D3 d)).Val⟩;generalize hs':H6 x.S (D3 d) ⟨2,(Sh.ce x.S (D3 d)).Gen,Kc (Sh.ce x.S (D3 d)).Val⟩=s' at hc hl;have hsl:s'.S.Last=x.S.S.Last/\s'.Serial=x.S.Serial:=by subst hs';exact⟨rfl,rfl⟩
  have same:∀i,(Th (Sh.ce s' i)↔Th (Sh.ce x.S i))/\(Sh.ce s' i).Gen=(Sh.ce x.S i).Gen/\(Sh.ce s' i).Val.Serial=(Sh.ce x.S i).Val.Serial:=λi=>by
   rw[hc i];split;·rename_i e2;subst e2;exact⟨⟨λ_=>p.d.2.1,λ_=>.inr rfl⟩,rfl,rfl⟩
   .exact⟨Iff.rfl,rfl,rfl⟩
  refine⟨q.gd.up λk i a=>⟨⟨by have:=a.1;rw[<-hl];exact this,(same i).1.1 a.2.1,?_⟩,(same i).2.2⟩,?_,?_,?_,by rw[q.la];exact hsl.1.symm,q.npl,by rw[q.se];exact hsl.2.symm,q.ro,q.ce,q.p1,q.p2,q.tk⟩
  .have:=a.2.2;change k=1+(i:Int)+32*(Sh.ce s' i).Gen at this
   rw[(same i).2.1] at this;exact this
  .have:=q.nd.x4 (s':=s') hR p.1 hl (λj hj=>by rw[hc j,za hj]) p.d.2.1 ((same _).1.2 p.d.2.1) (same _).2.2 (f:=lr) (by
    unfold Sh.nd lr;rw[hc,zb rfl];dsimp only;rw[zY (show ¬(12:Int)<=(Sh.ce x.S (D3 d)).Val.Strong by omega)];rfl)
   rw[q.gd.f d _ p.d];exact this
  .show m.Slots=List.map _ (List.range s'.S.b7.length);rw[hl,q.sl];refine T1 λi hi=>?_;unfold Ou;by_cases c2:Th (Sh.ce x.S i)
   .rw[zb c2,zb ((same i).1.2 c2),(same i).2.2]
   .rw[za c2,za λd=>c2 ((same i).1.1 d),hc i,za (show i≠D3 d from λe2=>c2 (e2▸p.d.2.1))]
  .show m.Gens=List.map _ (List.range s'.S.b7.length);rw[hl,q.ge];exact T1 λi hi=>(same i).2.1.symm
theorem p9.Ud{σ:Int->Int}:∀(ds:List Int) {x:Hp} {m:a8},SR x.S->p9 σ x m->ds.Nodup->(∀d∈ds,d∈lv x.S/\(ob x.S d).Strong<12/\(ob x.S d).Weak=Sh.jb x.b7 d)->(∀d∈ds,∀c∈x.b7,σ c.Target=σ d->c.Target=d) ->
  p9 σ (wS x (oi x.S ds)) ((ds.map σ).foldl Sh.qI m)
 | [],x,m,hR,q,_,_,_=>q
 | d::ds,x,m,hR,q,hn,hm,hi=>by
  rw[pi] at hn;obtain⟨a1,a2,a3⟩:=hm d zf;have Q:=q.qI hR a1 a2 a3 (hi d zf);show p9 σ (wS x (oi (wq x.S d) ds)) ((ds.map σ).foldl Sh.qI (Sh.qI m (σ d)));refine p9.Ud ds (x:=wS x (wq x.S d)) (Ct hR a1) Q hn.2 (λk hk=>?_) λk hk=>hi k (zl _ hk);obtain⟨b1,b2,b3⟩:=hm k (zl _ hk);have hne:k≠d:=λe=>hn.1 (e▸hk);refine⟨by show k∈lv (wq x.S d);rw[Mx hR a1,zk];exact⟨b1,by simpa using hne⟩,?_⟩;show (ob (wq x.S d) k).Strong<12/\(ob (wq x.S d) k).Weak=_;rw[My hR a1 b1 hne];exact⟨b2,b3⟩
def Ay(m:a8)(S:List Int):a8:=S.foldl qI (Vv (FD (RX m (lk m.b7 S)) (m.Tasks++jm m.b7 S)) (m.Pairs.filter λp=>decide (p.Key∉S)))
theorem Sa{t:Tb}(hT:HR t)(ks:List Int)(hks:ks.length<=1000):(lf t ks).1.length=t.length:=by
 obtain⟨a,had,h1,_,h2,_⟩:=wc hT ks hks;unfold lf;rw[h1];exact h2
section
variable{σ:Int->Int}{x:Hp}{m:a8}(hx:J8 x)(q:p9 σ x m)
include hx q
theorem Iu{ds:List Int}(hm:∀d∈ds,d∈lv x.S){c:k7}(hc:c∈x.b7):iJ (ds.map σ) (wx σ c)=iJ ds c:=by
 have hR:=hx.sh.sr;obtain⟨i,hi,rfl⟩:=wt hc;unfold iJ wx;cases e:x.b7[i].Intact;·rfl
 .have hl:=((hx.sh.cl i hi).2.2.2.2 e).1;have a:=q.gd.ps hR hl;have b:=H5 hR hl;have:(σ x.b7[i].Target∈ds.map σ)↔x.b7[i].Target∈ds:=by
   rw[zn];exact⟨λ⟨d,hd,e2⟩=>(q.gd.inl hR (hm d hd) hl e2)▸hd,λh=>⟨_,h,rfl⟩⟩
  rw[zbm];simp[this];omega
theorem PZ{ds:List Int}(hm:∀d∈ds,d∈lv x.S):lk m.b7 (ds.map σ)=(lk x.b7 ds).map (wx σ):=by
 unfold lk;rw[q.ce,zaw,zaw];refine zo λc hc=>?_;show qX (ds.map σ) (wx σ c)=wx σ (qX ds c);unfold qX;rw[Iu hx q hm hc];split <;> rfl
theorem Qc{ds:List Int}(hm:∀d∈ds,d∈lv x.S):jm m.b7 (ds.map σ)=jm x.b7 ds:=by
 have hg:∀w,w<x.b7.length->(x.b7.map (wx σ)).getD w cz=wx σ (x.b7.getD w cz):=λw hw=>by
  rw[zd,zB,zd,zc hw];rfl
 have hh:∀w,w<x.b7.length->iJ (ds.map σ) (wx σ (x.b7.getD w cz))=iJ ds (x.b7.getD w cz):=λw hw=>by
  rw[zd,zc hw];exact Iu hx q hm (zh hw)
 have hcls:cls m.b7 (ds.map σ)=cls x.b7 ds:=by
  unfold cls;rw[q.ce,zm];refine or λw hw=>?_;rw[zbb] at hw;rw[hg w hw,hh w hw];rfl
 unfold jm;rw[hcls];refine zo λw hw=>?_;have hw:w<x.b7.length:=by
  unfold cls at hw;exact zbb.1 (zk.1 hw).1
 rw[q.ce,hg w hw];rfl
theorem p9.Si{ds:List Int}(hn:ds.Nodup)(hm:∀d∈ds,d∈lv x.S):p9 σ (⟨x.S,x.Roots,lk x.b7 ds,(lf x.T ds).1,⟨x.Q.L++jm x.b7 ds,x.Q.Cap⟩⟩:Hp) (Vv (FD (RX m (lk m.b7 (ds.map σ))) (m.Tasks++jm m.b7 (ds.map σ))) (m.Pairs.filter λp=>decide (p.Key∉ds.map σ))):=by
 have hS:=hx.sh;have hR:=hS.sr;have hlen:ds.length<=24:=zP (Y9 hn hm) (M0 (A0.2 hR));obtain⟨_,w2,_,_,w5,_⟩:=jU hS.hr ds (by omega);refine⟨q.gd,q.nd,q.sl,q.ge,q.la,?_,q.se,q.ro,PZ hx q hm,q.p1.filter _,λp=>?_,?_⟩
 .show m.Places=(((lf x.T ds).1.length:Nat):Int);rw[Sa hS.hr ds (by omega)];exact q.npl
 .show p∈List.filter _ _↔∃k v,Has (lf x.T ds).1 k v/\_;rw[zk,q.p2,zH];constructor
  .rintro⟨⟨k,v,h,rfl⟩,c⟩;exact⟨k,v,(w5 k v).2 ⟨λhk=>c (zn.2 ⟨k,hk,rfl⟩),h⟩,rfl⟩
  .rintro⟨k,v,h,rfl⟩;obtain⟨h1,h2⟩:=(w5 k v).1 h;refine⟨⟨k,v,h2,rfl⟩,λc=>?_⟩;obtain⟨d,hd,e⟩:=zn.1 c;exact h1 (q.gd.inl hR (hm d hd) (hS.pr _ _ h2).1 e▸hd)
 .show m.Tasks++jm m.b7 (ds.map σ)=(x.Q.L++jm x.b7 ds).map (tx σ);rw[pm,q.tk,Qc hx q hm];congr 1;conv=>lhs;rw[<-List.map_id (jm x.b7 ds)]
  refine zo λt ht=>?_;obtain⟨w,_,rfl,_⟩:=gy.1 ht;unfold tx;rw[za (show ¬(2:Int)=1 by decide)];rfl
theorem p9.gH{ds:List Int}(hn:ds.Nodup)(hm:∀d∈ds,d∈lv x.S)(hs:∀d∈ds,(ob x.S d).Strong<12):p9 σ (gH x ds) (Ay m (ds.map σ)):=by
 have hS:=hx.sh;have hR:=hS.sr;unfold Sh.gH Ay;refine p9.WY (x:=jl x ds (lf x.T ds).1) _ (eH ds hR hn hm).sr ?_;have q1:=q.Si hx hn hm;have:=p9.Ud (x:=(⟨x.S,x.Roots,lk x.b7 ds,(lf x.T ds).1,⟨x.Q.L++jm x.b7 ds,x.Q.Cap⟩⟩:Hp)) ds hR q1 hn (λd hd=>⟨hm d hd,hs d hd,?_⟩) λd hd c hc e=>?_;·exact this
 .show (ob x.S d).Weak=(Sh.jb (lk x.b7 ds) d:Int);have p:=o0 hR (hm d hd);rw[CN,E9 hR p];have:=(hx.wk _ p.1 p.d.2.1).1;rw[<-p.2.2] at this;exact this
 .refine q.gd.VF hR ?_ (.inr ⟨_,(o0 hR (hm d hd)).d⟩) e;have hc:c∈lk x.b7 ds:=hc;unfold lk at hc;obtain⟨c',hc',rfl⟩:=zn.1 hc;rw[(ow ds c').1];exact lj hS hc'
end
def Fq(n:b8):b8:=⟨n.Serial,n.Slot,n.Prog,true,n.Alive,n.Stuck,n.Fields⟩
def GZ(m:a8)(s:Int):Int:=((m.Nodes.find? λn=>n.Serial==s).map (·.Prog)).getD 0
def qu(m:a8)(s:Int):a8:=FD (xp (fL m s) (fE (fL m s).Nodes s Fq)) (m.Tasks ++ [⟨1,s,GZ m s⟩])
theorem Ia(s:Int){f g:b8->b8}(hf:∀n,(f n).Serial=n.Serial)(l:List b8):fE (fE l s f) s g=fE l s (λn=>g (f n)):=by
 unfold fE;rw[zaw];refine zo λn _=>?_;by_cases e:n.Serial=s
 .have h1:(f n).Serial=s:=(hf n).trans e;simp only[Function.comp,zb e,zb h1]
 .simp only[Function.comp,za e]
theorem p9.gC{σ:Int->Int}{x:Hp}{m:a8}(hS:kc x)(hf:aB x [])(q:p9 σ x m){h:Int}(hh:h∈lv x.S):p9 σ (gC x h) (qu m (σ h)):=by
 have hR:=hS.sr;have ho:=J7 hR hh;have p:=o0 hR hh;have hno:Ap x.S (fz (ob x.S h)):=⟨ho.s1,ho.s2,ho.st,ho.wk,ho.p1,ho.p2,ho.fl⟩;have q1:=q.put (o:=fz (ob x.S h)) hR hh rfl hno (f:=Fq) (by
  unfold Sh.nd Fq;rw[E9 hR p,zC p.2.1])
 have hpr:GZ m (σ h)=(ob x.S h).Prog:=by
  unfold GZ;rw[q.find hR p.d,E9 hR p];rfl
 have q2:p9 σ (⟨cT x.S h (fz (ob x.S h)),x.Roots,x.b7,x.T,⟨x.Q.L ++ [Au x h],x.Q.Cap⟩⟩:Hp) (FD (xp m (fE m.Nodes (σ h) Fq)) (m.Tasks ++ [⟨1,σ h,GZ m (σ h)⟩])):=by
  refine⟨q1.gd,q1.nd,q1.sl,q1.ge,q1.la,q1.npl,q1.se,q1.ro,q1.ce,q1.p1,q1.p2,?_⟩;show m.Tasks++_=(x.Q.L ++ [Au x h]).map (tx σ);rw[pm,q.tk,hpr];congr 1
 have hR1:SR (cT x.S h (fz (ob x.S h))):=bN hR hh rfl hno;have hl1:h∈lv (cT x.S h (fz (ob x.S h))):=by rw[iA (o:=fz (ob x.S h)) hR hh rfl hno];exact hh
 have q3:=q2.Vg hR1 (h:=h) (.inr hl1) (k:=qN m (σ h)) (λ_ hs=>by
  have e:ob (cT x.S h (fz (ob x.S h))) h=fz (ob x.S h):=by
   rw[ga (o:=fz (ob x.S h)) hR hh rfl hno (by have:=H5 hR hh;omega),zb rfl]
  change (ob (cT x.S h (fz (ob x.S h))) h).Strong<12 at hs
  show (ob (cT x.S h (fz (ob x.S h))) h).Strong=_;rw[e] at hs |-;rw[q.lH hS hh];show (ob x.S h).Strong=_;rw[hf h hh hs,G6];rfl)
 have e:(if σ h≠0/\11<=qN m (σ h) then uf (FD (xp m (fE m.Nodes (σ h) Fq)) (m.Tasks ++ [⟨1,σ h,GZ m (σ h)⟩])) (σ h) else (FD (xp m (fE m.Nodes (σ h) Fq)) (m.Tasks ++ [⟨1,σ h,GZ m (σ h)⟩])))=qu m (σ h):=by
  unfold qu fL;split
  .unfold uf;dsimp only;rw[Ia (f:=Fq) _ (λ_=>rfl),Ia (f:=Dv) _ (λ_=>rfl)];rfl
  .rfl
 rw[e] at q3;exact q3
def GP(m:a8)(i n:Nat)(p:Int):a8:=⟨m.Nodes ++ [⟨m.Serial+1,i,p,false,true,false,List.replicate n 0⟩],m.Slots.set i (m.Serial+1),m.Gens,m.Last,m.Places,m.Serial+1,m.Roots,m.b7,m.Pairs,m.Tasks,m.Progs⟩
theorem p9.mk'{σ:Int->Int}{x:Hp}{m:a8}(hx:J8 x)(q:p9 σ x m){i:Nat}(hi:i<x.S.S.b7.length)(h0:(Sh.ce x.S i).State=0){n:Nat}(hn:n<=4){p:Int}(hp : -1<=p/\p<=5) :
  ∃σ',p9 σ' (wS x (dm x.S i n p)) (GP m i n p)/\σ' (bV x.S i)=x.S.Serial+1:=by
 have hS:=hx.sh;have hR:=hS.sr;have hc:=λj=>lD hR hi h0 hn hp j;have hl:=jB hR hi h0 hn hp;have hT0:¬Th (Sh.ce x.S i):=by unfold Th;rw[h0];decide
 have hpos:=sY hR hi;have old:∀ {k:Int} {j:Nat},T5 x.S k j->k≠bV x.S i:=λ{k j} a e=>by
  have hj:=yp hR hi h0 hn hp a;have h1:=a.2.2;rw[e] at h1;unfold bV at h1;have:=a.1;have:=hR.len;omega
 refine⟨λh=>if h=bV x.S i then x.S.Serial+1 else σ h,?_,zb rfl⟩;generalize hσ:(λh=>if h=bV x.S i then x.S.Serial+1 else σ h)=σ';have sn:σ' (bV x.S i)=x.S.Serial+1:=by subst hσ;exact zb rfl
 have so:∀k,(k=0\/∃j,T5 x.S k j)->σ' k=σ k:=λk hk=>by
  subst hσ;refine za ?_;rcases hk with e | ⟨j,a⟩
  .omega
  .exact old a
 have nd':∀j,Th (Sh.ce x.S j)->j<x.S.S.b7.length->Sh.nd σ' x.S j=Sh.nd σ x.S j:=λj hj hjl=>by
  unfold Sh.nd;congr 1;refine zo λv hv=>so v ?_;rcases hj with h1 | h2
  .have hA:At x.S (bV x.S j) j:=⟨hjl,h1,rfl⟩;have hlv:=(gO hR).2 ⟨j,hA⟩;rw[<-E9 hR hA] at hv;exact MW hR q.gd (hS.fl _ hlv v hv)
  .rw[((hx.wk j hjl (.inr h2)).2 h2).2.1] at hv;cases hv
 have sn0:Sn σ' x.S m.Nodes:=⟨q.nd.up,λk=>(q.nd.mem k).trans ⟨λ⟨j,a,b,c⟩=>⟨j,a,b,c.trans (nd' j b a).symm⟩,λ⟨j,a,b,c⟩=>⟨j,a,b,c.trans (nd' j b a)⟩⟩⟩;refine⟨⟨?_,λk j a=>?_⟩,?_,?_,?_,q.la,q.npl,?_,?_,?_,q.p1,λk=>?_,?_⟩;·rw[so 0 (.inl rfl)];exact q.gd.z
 .rcases (Nf hR hi h0 hn hp).1 a with b | ⟨rfl,rfl⟩
  .rw[so k (.inr ⟨j,b⟩),q.gd.f k j b];show _=(Sh.ce (dm x.S i n p) j).Val.Serial;rw[hc,za (yp hR hi h0 hn hp b)]
  .rw[sn];show _=(Sh.ce (dm x.S j n p) j).Val.Serial;rw[hc,zb rfl]
 .have:=sn0.add (s':=dm x.S i n p) hR hi hl (λj hj=>by rw[hc,za hj]) hT0 (by rw[hc,zb rfl];exact .inl rfl) (by rw[hc,zb rfl];show x.S.Serial<x.S.Serial+1;omega);have e:Sh.nd σ' (dm x.S i n p) i=⟨m.Serial+1,i,p,false,true,false,List.replicate n 0⟩:=by
   unfold Sh.nd;rw[hc,zb rfl];dsimp only;rw[q.se,zC rfl,zY (by decide),zch,so 0 (.inl rfl),q.gd.z]
  rw[e] at this;exact this
 .show m.Slots.set i (m.Serial+1)=List.map (λj=>Ou (Sh.ce (dm x.S i n p) j)) (List.range (dm x.S i n p).S.b7.length);rw[hl,q.sl,vp,q.se];refine T1 λj hj=>?_;rw[hc];by_cases c:j=i
  .rw[zb c,zb c];rfl
  .rw[za c,za c]
 .show m.Gens=List.map (λj=>(Sh.ce (dm x.S i n p) j).Gen) (List.range (dm x.S i n p).S.b7.length);rw[hl,q.ge];refine T1 λj hj=>?_;rw[hc];split;·rename_i c;rw[c]
  .rfl
 .show m.Serial+1=x.S.Serial+1;rw[q.se]
 .show m.Roots=x.Roots.map σ';rw[q.ro];exact zo λv hv=>(so v (MW hR q.gd (hS.rt v hv))).symm
 .show m.b7=x.b7.map (wx σ');rw[q.ce];refine zo λc hcc=>?_;unfold wx;rw[so _ (lj hS hcc)]
 .show k∈m.Pairs↔∃a b,Has x.T a b/\k=⟨σ' a,σ' b⟩;rw[q.p2];have hh:∀a b,Has x.T a b->σ' a=σ a/\σ' b=σ b:=λa b h=>⟨so a (MW hR q.gd (.inr (hS.pr a b h).1)),so b (MW hR q.gd (.inr (hS.pr a b h).2))⟩;constructor
  .rintro⟨a,b,h,rfl⟩;exact⟨a,b,h,by rw[(hh a b h).1,(hh a b h).2]⟩
  .rintro⟨a,b,h,rfl⟩;exact⟨a,b,h,by rw[(hh a b h).1,(hh a b h).2]⟩
 .show m.Tasks=x.Q.L.map (tx σ');rw[q.tk];refine zo λt ht=>?_;unfold tx;split
  .rename_i c;rcases (hS.tk t ht).2.2 with d | d
   .rw[so _ (MW hR q.gd (.inr d.2.1))]
   .rw[d.1] at c;exact absurd c (by decide)
  .rfl
def OO(m:a8)(n:b8):Bool:=n.Alive&&(!n.Stuck&&qN m n.Serial==0)
def Mb(n:b8):Bool:=decide (0<=n.Prog) && !n.Started
def rM(m:a8):a8:=match m.Nodes.find? (OO m) with
 | none=>m
 | some n=>if Mb n then qu m n.Serial else Ay m [n.Serial]
def gb:Nat->a8->a8
 | 0,m=>m
 | n+1,m=>gb n (rM m)
theorem jg(n:Nat)(m:a8):gb (n+1) m=rM (gb n m):=by
 induction n generalizing m with
 | zero=>rfl
 | succ n ih=>show gb (n+1) (rM m)=_;rw[ih];rfl
def kZ(m:a8):a8:=gb 100 m
section
variable{σ:Int->Int}{x:Hp}{m:a8}(hx:J8 x)(q:p9 σ x m)
include hx q
theorem p9.zr:m.Nodes.find? (OO m)=(Sh.zr x).head?.map λh=>Sh.nd σ x.S (D3 h):=by
 have hR:=hx.sh.sr;have e:m.Nodes.filter (OO m)=(Sh.zr x).map λh=>Sh.nd σ x.S (D3 h):=by
  have:OO m=λn=>n.Alive&&(!n.Stuck&&qN m n.Serial==0):=rfl;rw[this,<-zan,zan,or (λn _=>Bool.and_comm _ _),<-zan,q.nd.alive hR,zct];congr 1;unfold Sh.zr;refine or λh hh=>?_;have p:=o0 hR hh;show (!decide (12<=(Sh.ce x.S (D3 h)).Val.Strong)&&qN m (Sh.ce x.S (D3 h)).Val.Serial==0)=_;rw[<-q.gd.f h _ p.d,q.lH hx.sh hh,<-E9 hR p];by_cases c:(ob x.S h).Strong<12
  .have:=hx.fair h hh c;rw[G6] at this;rw[zY (by omega),zbm];simp;omega
  .rw[zC (by omega),zbm];simp;omega
 rw[<-List.head?_filter,e,List.head?_map]
theorem p9.FQ:p9 σ (Sh.FQ x) (rM m):=by
 have hR:=hx.sh.sr;unfold rM;rw[q.zr hx];cases e:Sh.zr x with
 | nil=>
  rw[ny e];exact q
 | cons z l=>
  rw[jQ e];obtain⟨hz,h0⟩:=cS.1 (e▸zf:z∈Sh.zr x);have p:=o0 hR hz;show p9 σ _ (if Mb (Sh.nd σ x.S (D3 z)) then qu m (Sh.ce x.S (D3 z)).Val.Serial else Ay m [(Sh.ce x.S (D3 z)).Val.Serial]);rw[<-q.gd.f z _ p.d,E9 hR p];show p9 σ _ (if due (Sh.ce x.S (D3 z)).Val then _ else _);split;·exact q.gC hx.sh hx.fair hz
  .exact q.gH hx (ds:=[z]) (pi.2 ⟨by simp,zb3⟩) (λd hd=>by rw[zt] at hd;rw[hd];exact hz) λd hd=>by
    rw[zt] at hd;rw[hd,h0];decide
end
theorem p9.oe{σ:Int->Int}{x:Hp}{m:a8}(hx:J8 x)(q:p9 σ x m):∀n,p9 σ (Sh.oe n x) (gb n m)
 | 0=>q
 | n+1=>by
  rw[Sh.fA,jg];exact (p9.oe hx q n).FQ (P6 hx n)
theorem p9.bu{σ:Int->Int}{x:Hp}{m:a8}(hx:J8 x)(q:p9 σ x m):p9 σ (Sh.bu x) (kZ m):=q.oe hx 100
theorem Gc{α:Type}{b:Nat}{acc:List α}{x:α}(hb:0<b)(h:(acc.length+1)*b<=140737488355328):app b acc [x]=some (acc ++ [x]):=K3 hb (by simpa using h)
theorem ID{n b m:Nat}(h:n<=m)(hb:b<=1000)(hm:m<=1000000):n*b<=140737488355328:=by
 have h1:n*b<=1000000*1000:=Nat.mul_le_mul (by omega) hb;omega
theorem iO{α:Type}{b:Nat}{l:List α}{P:α->Option Bool}{p:α->Bool}(hP:∀x∈l,P x=some (p x))(hb:0<b)(hb2:b<=1000)(hl:l.length<=100000) :
  jn (λ(j15:List α)=>some j15) (λκ14=>
  (lp (S:=Int × (List α)) (E:=(List α)) (λ((s17,s18):Int × (List α))=>
   if (decide (s17<(l.length:Int))) then
    jn (λ(j25:List α)=>
     some (.inl (w7 (s17+1),j25))) (λκ24=>
     (ix l s17).bind λv26=>
     (P v26).bind λv27=>
     if v27 then
      (app b s18 [v26]).bind λv28=>
      κ24 v28
     else
     κ24 s18)
   else
   some (.inr s18)) (0,[])).bind λe16=>
  κ14 e16)=some (l.filter p):=by
 show (lp _ _).bind (λe16=>some e16)=_;rw[U4 (f:=_) l (λb x=>if p x then b ++ [x] else b) (λb=>b) (λk b=>b.length<=k) (by omega) (zV _) (λk hk b hb'=>?_) (λb _=>?_)];·rw[YI,foldl_filter,zci]
 .constructor
  .simp only[jn];rw[zb (by simpa using hk),s7 hk,YI,hP _ (zh hk),YI,n9 (by omega)];by_cases c:p l[k]=true
   .rw[c,zb rfl,zb rfl,Gc hb (ID (m:=1000000) (by omega) hb2 (by omega)),YI]
   .rw[Bool.not_eq_true] at c;rw[c,za (by simp),za (by simp)]
  .split;·simp;omega
   .omega
 .simp only[];rw[za (by simp)]
theorem map_eq{α β:Type}{b:Nat}{l:List α}{P:α->Option β}{p:α->β}(hP:∀x∈l,P x=some (p x))(hb:0<b)(hb2:b<=1000)(hl:l.length<=100000) :
  jn (λ(j10:List β)=>some j10) (λκ9=>
  (lp (S:=Int × (List β)) (E:=(List β)) (λ((s12,s13):Int × (List β))=>
   if (decide (s12<(l.length:Int))) then
    (ix l s12).bind λv16=>
    (P v16).bind λv17=>
    (app b s13 [v17]).bind λv18=>
    some (.inl (w7 (s12+1),v18))
   else
   some (.inr s13)) (0,[])).bind λe11=>
  κ9 e11)=some (l.map p):=by
 show (lp _ _).bind (λe16=>some e16)=_;have key:∀(l:List α) (acc:List β),l.foldl (λb x=>b ++ [p x]) acc=acc++l.map p:=by
  intro l;induction l with
  | nil=>intro acc;simp
  | cons x l ih=>intro acc;rw[zaj,ih];simp
 rw[U4 (f:=_) l (λb x=>b ++ [p x]) (λb=>b) (λk b=>b.length<=k) (by omega) (zV _) (λk hk b hb'=>?_) (λb _=>?_)];·rw[YI,key,zci]
 .constructor
  .simp only[];rw[zb (by simpa using hk),s7 hk,YI,hP _ (zh hk),YI,Gc hb (ID (m:=1000000) (by omega) hb2 (by omega)),YI,n9 (by omega)]
  .simp;omega
 .simp only[];rw[za (by simp)]
theorem Et{α:Type}{l:List α}{P:α->Option Bool}{p:α->Bool}(hP:∀x∈l,P x=some (p x))(hl:l.length<=1000){a:α}(h:l.find? p=some a):∃k:Nat,∃hk:k<l.length,l[k]=a /\
  jn (λ(_:Unit)=>some (-1)) (λκ6=>
  (lp (S:=Int) (E:=Int ⊕ Unit) (λ(s9:Int)=>
   if (decide (s9<(l.length:Int))) then
    (ix l s9).bind λv11=>
    (P v11).bind λv12=>
    if v12 then
     some (.inr (.inl s9))
    else
    some (.inl (w7 (s9+1)))
   else
   some (.inr (.inr ()))) 0).bind λe8=>
  match e8 with
  | .inl w=>some w
  | .inr w=>κ6 w)=some (k:Int):=by
 obtain⟨h1,k,hk,e,hn⟩:=List.find?_eq_some_iff_getElem.1 h;refine⟨k,hk,e,?_⟩;simp only[jn];refine fR l.length (λi=>i<=k) (by omega) (zV _) (λi hi hik=>?_) (λhlk=>by omega);rw[zb (by simpa using hi),s7 hi,YI,hP _ (zh hi),YI];rcases zE i k with c | c
 .left;have:=hn i c;simp only[zb8] at this;rw[this,za (by simp),n9 (by omega)];exact⟨rfl,c⟩
 .have:i=k:=by omega
  subst this;right;rw[e,h1,zb rfl];exact⟨_,rfl,rfl⟩
theorem Es{α:Type}{l:List α}{P:α->Option Bool}{p:α->Bool}(hP:∀x∈l,P x=some (p x))(hl:l.length<=1000)(h:l.find? p=none) :
  jn (λ(_:Unit)=>some (-1)) (λκ6=>
  (lp (S:=Int) (E:=Int ⊕ Unit) (λ(s9:Int)=>
   if (decide (s9<(l.length:Int))) then
    (ix l s9).bind λv11=>
    (P v11).bind λv12=>
    if v12 then
     some (.inr (.inl s9))
    else
    some (.inl (w7 (s9+1)))
   else
   some (.inr (.inr ()))) 0).bind λe8=>
  match e8 with
  | .inl w=>some w
  | .inr w=>κ6 w)=some (-1:Int):=by
 rw[zb4] at h;simp only[jn];refine fR l.length (λ_=>True) (by omega) trivial (λi hi _=>.inl ⟨?_,trivial⟩) (λ_=>⟨.inr (),by simp,rfl⟩);have:=h _ (zh hi);rw[Bool.not_eq_true] at this;rw[zb (by simpa using hi),s7 hi,YI,hP _ (zh hi),YI,this,za (by simp),n9 (by omega)]
theorem ky{E R:Type}{x:Option E}{e:E}{K:E->Option R}(h:x.bind some=some e):x.bind K=K e:=by
 cases x with
 | none=>cases h
 | some v=>obtain rfl:=zL h;rfl
theorem DT{α R:Type}{b:Nat}{l:List (List α)}(hb:0<b)(hb2:b<=1000)(hl:l.length<=1000)(hs:l.flatten.length<=100000){K:List α->Option R} :
  (lp (S:=Int × (List α)) (E:=(List α)) (λ((s25,s26):Int × (List α))=>
      if (decide (s25<(l.length:Int))) then
       (ix l s25).bind λv29=>
       (app b s26 v29).bind λv30=>
       some (.inl (w7 (s25+1),v30))
      else
      some (.inr s26)) (0,[])).bind K=K l.flatten:=by
 refine ky (bY (t0:=([]:List α)) l.length (λk acc=>acc=(l.take k).flatten) (by omega) (by simp) (λk acc hk e=>.inl ⟨(l.take (k+1)).flatten,?_,rfl⟩) (λacc e=>⟨l.flatten,?_,rfl⟩))
 .subst e;have h2:(l.take (k+1)).flatten=(l.take k).flatten++l[k]:=by
   rw[zu hk,zby];simp
  have h3:(l.take (k+1)).flatten.length<=l.flatten.length:=by
   conv=>rhs;rw[<-zbo (k+1) l,zby,zK]
   omega
  simp only[];rw[zb (by simpa using hk),s7 hk,YI,K3 hb (ID (m:=100000) (by rw[h2,zK] at h3;omega) hb2 (by omega)),YI,n9 (by omega),h2]
 .subst e;simp only[];rw[za (by simp),zQ]
theorem PU{R:Type}{α:Type}{l:List (List α)}(hl:l.length<=1000)(hs:l.flatten.length<=100000){K:Int->Option R} :
  (lp (S:=Int × Int) (E:=Int) (λ((s48,s49):Int × Int)=>
   if (decide (s49<(l.length:Int))) then
    jn (λ(j54:Int)=>
     some (.inl (j54,w7 (s49+1)))) (λκ53=>
     (ix l s49).bind λv55=>
     if (decide ((w7 (s48+(v55.length:Int)))<0)) then
      none
     else
     κ53 (w7 (s48+(v55.length:Int))))
   else
   some (.inr s48)) (0,0)).bind K=K (l.flatten.length:Int):=by
 refine ky (IF (t0:=(0:Int)) l.length (λk acc=>acc=((l.take k).flatten.length:Int)) (by omega) (by simp) (λk acc hk e=>⟨((l.take (k+1)).flatten.length:Int),?_,rfl⟩) (λacc e=>⟨(l.flatten.length:Int),?_,rfl⟩))
 .subst e;have h2:(l.take (k+1)).flatten.length=(l.take k).flatten.length+l[k].length:=by
   rw[zu hk,zby];simp
  have h3:(l.take (k+1)).flatten.length<=l.flatten.length:=by
   conv=>rhs;rw[<-zbo (k+1) l,zby,zK]
   omega
  simp only[jn];rw[zb (by simpa using hk),s7 hk,YI,vC (by omega) (by omega),za (by simp;omega),n9 (by omega),h2];congr 4
 .subst e;simp only[];rw[za (by simp),zQ]
theorem Gj{α:Type}{b:Nat}{z:α}{l:List (List α)}(hb:0<b)(hb2:b<=1000)(hl:l.length<=1000)(hs:l.flatten.length<=100000) :
 jn (λ(j11:Int)=>
  jn (λ(_:Unit)=>
   if (decide ((w7 (j11-(w7 (0-0)))) > 0)) then
    (mk b (w7 (j11-(w7 (0-0)))) z).bind λv14=>
    jn (λ(j23:List α)=>
     some j23) (λκ22=>
     (lp (S:=Int × (List α)) (E:=(List α)) (λ((s25,s26):Int × (List α))=>
      if (decide (s25<(l.length:Int))) then
       (ix l s25).bind λv29=>
       (app b s26 v29).bind λv30=>
       some (.inl (w7 (s25+1),v30))
      else
      some (.inr s26)) (0,[])).bind λe24=>
     κ22 e24)
   else
   jn (λ(j39:List α)=>
    some j39) (λκ38=>
    (lp (S:=Int × (List α)) (E:=(List α)) (λ((s41,s42):Int × (List α))=>
     if (decide (s41<(l.length:Int))) then
      (ix l s41).bind λv45=>
      (app b s42 v45).bind λv46=>
      some (.inl (w7 (s41+1),v46))
     else
     some (.inr s42)) (0,[])).bind λe40=>
    κ38 e40)) (λκ12=>
   if (decide (j11<0)) then
    none
   else
   κ12 ())) (λκ10=>
  (lp (S:=Int × Int) (E:=Int) (λ((s48,s49):Int × Int)=>
   if (decide (s49<(l.length:Int))) then
    jn (λ(j54:Int)=>
     some (.inl (j54,w7 (s49+1)))) (λκ53=>
     (ix l s49).bind λv55=>
     if (decide ((w7 (s48+(v55.length:Int)))<0)) then
      none
     else
     κ53 (w7 (s48+(v55.length:Int))))
   else
   some (.inr s48)) (0,0)).bind λe47=>
  κ10 e47)=some l.flatten:=by
 refine (PU hl hs).trans ?_;simp only[jn];have h0:w7 (0-0)=0:=rfl;rw[za (by simp),h0,Int.sub_zero,vC (by omega) (by omega)];have hm:mk b ((l.flatten.length:Nat):Int) z=some (List.replicate l.flatten.length z):=kD (by rw[Nat.mul_comm];have:=ID (n:=l.flatten.length) (m:=100000) hs hb2 (by omega);omega) (by omega);split
 .rw[hm,YI];exact DT hb hb2 hl hs
 .exact DT hb hb2 hl hs
structure Bn (m:a8):Prop where
 nl:m.Nodes.length<=24
 up:m.Nodes.Pairwise λa b=>a.Serial<b.Serial
 fl:∀n∈m.Nodes,n.Fields.length<=4
 sg:∀n∈m.Nodes,0<=n.Slot/\n.Slot.toNat<m.Slots.length/\n.Slot.toNat<m.Gens.length
 gg:∀g∈m.Gens,0<=g/\g<=9
 gl:m.Slots.length<=24/\m.Gens.length<=24
structure Bl (m:a8):Prop where
 rl:m.Roots.length<=30
 wl:m.b7.length<=30
 pa:m.Pairs.length<=30
 tl:m.Tasks.length<=200
theorem p9.bn{σ:Int->Int}{x:Hp}{m:a8}(hR:SR x.S)(q:p9 σ x m):Bn m:=by
 refine⟨q.nd.len hR,q.nd.up,λn hn=>?_,λn hn=>?_,λg hg=>?_,?_,?_⟩
 .obtain⟨i,hi,ti,rfl⟩:=(q.nd.mem n).1 hn;show ((Sh.ce x.S i).Val.Fields.map σ).length<=4;rw[zm];exact (hR.ok i hi ti).fl
 .obtain⟨i,hi,ti,rfl⟩:=(q.nd.mem n).1 hn;rw[q.sl,q.ge,zm,zm,zca];unfold Sh.nd;simp;exact hi
 .rw[q.ge] at hg;obtain⟨i,hi,rfl⟩:=zn.1 hg;have:=hR.cell i (zbb.1 hi);have:=hR.l9;omega
 .rw[q.sl,zm,zca];exact hR.len
 .rw[q.ge,zm,zca];exact hR.len
theorem p9.bl{σ:Int->Int}{x:Hp}{m:a8}(hS:kc x)(q:p9 σ x m):Bl m:=by
 refine⟨?_,?_,?_,?_⟩;·rw[q.ro,zm,hS.r6];omega
 .rw[q.ce,zm,hS.c6];omega
 .rw[(q.perm hS).length_eq,zm];have:=rG hS.hr.l8;omega
 .rw[q.tk,zm];have:=hS.q30;omega
theorem WK(m:a8):qN m 0=0:=by
 have h:∀l:List Int,J3 l 0=0:=λl=>by unfold J3;rw[zb rfl]
 unfold qN;rw[h,h,h];have:((m.Nodes.filter (·.Alive)).map λn=>J3 n.Fields 0)=(m.Nodes.filter (·.Alive)).map λ_=>0:=zo λn _=>h _;rw[this];have hz:∀l:List b8,(l.map λ_=>0).sum=0:=λl=>by
  induction l with
  | nil=>rfl
  | cons a l ih=>rw[zF,ww,ih]
 rw[hz]
theorem yn(m:a8):W1 m=some ⟨m.Tasks,30⟩:=rfl
theorem IH{m:a8}(B:Bn m):A8 m.Nodes=some (m.Nodes.filter (·.Alive)):=by
 unfold A8;exact iO (λn _=>rfl) (by omega) (by omega) (by have:=B.nl;omega)
theorem Mo:∀(l:List b8),(∀n∈l,n.Fields.length<=4)->(l.map (·.Fields)).flatten.length<=4*l.length
 | [],_=>by simp
 | n::l,h=>by
  have h1:=Mo l λk hk=>h k (zl _ hk);have h2:=h n zf;simp only[zF,List.flatten_cons,zK,zI];omega
theorem vU(y:Int):∀l:List b8,J3 (l.map (·.Fields)).flatten y=(l.map λn=>J3 n.Fields y).sum
 | []=>G6 y
 | x::l=>by rw[zF,List.flatten_cons,F7,vU y l,zF,ww]
theorem CJ{m:a8}(B:Bn m)(C:Bl m)(s:Int):bF m s=some (qN m s:Int):=by
 have hv:B4 m.Pairs=some (m.Pairs.map (·.Val)):=by
  unfold B4;exact map_eq (λn _=>rfl) (by omega) (by omega) (by have:=C.pa;omega)
 have hh:gh ⟨m.Tasks,30⟩=some (cJ m):=Oy (q:=⟨m.Tasks,30⟩) (by have:=C.tl;show m.Tasks.length<=1000;omega);have hal:(m.Nodes.filter (·.Alive)).length<=24:=zP (zy ..) B.nl;have hfl:((m.Nodes.filter (·.Alive)).map (·.Fields)).flatten.length<=96:=by
  have:=Mo (m.Nodes.filter (·.Alive)) λn hn=>B.fl n (zk.1 hn).1;omega
 have GK:(cJ m).length<=200:=by
  unfold cJ nW;rw[zm];exact zP (zy ..) C.tl
 have eN:(m.Pairs.map (·.Val)).length<=30:=by rw[zm];exact C.pa
 unfold bF;simp only[jn];rw[show kE m=some m from rfl,YI,hv,YI,yn,YI,hh,YI,IH B,YI];refine (ky (e:=[m.Roots,m.Pairs.map (·.Val),cJ m]++(m.Nodes.filter (·.Alive)).map (·.Fields)) (bY (t0:=[m.Roots,m.Pairs.map (·.Val),cJ m]) (m.Nodes.filter (·.Alive)).length (λk acc=>acc = [m.Roots,m.Pairs.map (·.Val),cJ m]++((m.Nodes.filter (·.Alive)).take k).map (·.Fields)) (by omega) (by simp) (λk acc hk e=>.inl ⟨_,?_,rfl⟩) (λacc e=>⟨acc,?_,?_⟩))).trans ?_
 .subst e;simp only[];rw[zb (by simpa using hk),s7 hk,YI,Gc (by omega) (by
   rw[zK,zm,zas];simp;omega),YI,n9 (by omega),zu hk,pm,zai]
  rfl
 .simp only[];rw[za (by simp)]
 .subst e;rw[zQ]
 .have hlen:([m.Roots,m.Pairs.map (·.Val),cJ m]++(m.Nodes.filter (·.Alive)).map (·.Fields)).length<=30:=by
   rw[zK,zm];simp;omega
  have hfla:([m.Roots,m.Pairs.map (·.Val),cJ m]++(m.Nodes.filter (·.Alive)).map (·.Fields)).flatten.length<=400:=by
   rw[zby,zK];simp only[List.flatten_cons,List.flatten_nil,zay,zK];have:=C.rl;omega
  have hc:F5 ([m.Roots,m.Pairs.map (·.Val),cJ m]++(m.Nodes.filter (·.Alive)).map (·.Fields))=some ([m.Roots,m.Pairs.map (·.Val),cJ m]++(m.Nodes.filter (·.Alive)).map (·.Fields)).flatten:=by
   unfold F5;exact Gj (by omega) (by omega) (by omega) (by omega)
  rw[hc,YI];have hn:qN m s=J3 ([m.Roots,m.Pairs.map (·.Val),cJ m]++(m.Nodes.filter (·.Alive)).map (·.Fields)).flatten s:=by
   rw[zby,F7,vU];simp only[List.flatten_cons,List.flatten_nil,zay,F7];unfold qN;omega
  rw[hn];generalize ([m.Roots,m.Pairs.map (·.Val),cJ m]++(m.Nodes.filter (·.Alive)).map (·.Fields)).flatten=l at hfla |-;refine bY (t0:=(0:Int)) l.length (λk acc=>acc=(J3 (l.take k) s:Int)) (by omega) (by simp[G6]) (λk acc hk e=>.inl ⟨_,?_,rfl⟩) (λacc e=>⟨_,?_,rfl⟩)
  .subst e;have hlt:=Hr (l.take k) s;rw[zas] at hlt;rw[zu hk,F7,G3,G6];simp only[];rw[zb (by simpa using hk),s7 hk,YI,n9 (by omega)];by_cases c:l[k]=s/\s≠0
   .rw[zb (by simpa using ⟨c.2,c.1⟩),zb c,vC (by omega) (by omega)];congr 4
   .rw[za (by simpa using λa b=>c ⟨b,a⟩),za c];rfl
  .subst e;simp only[];rw[za (by simp),zQ]
theorem yj{m:a8}(B:Bn m){s:Int}{n:b8}(h:m.Nodes.find? (λn=>n.Serial==s)=some n):∃k:Nat,∃hk:k<m.Nodes.length,m.Nodes[k]=n/\I9 m s=some (k:Int):=by
 obtain⟨k,hk,e,r⟩:=Et (P:=λa=>fa a s) (p:=λn=>n.Serial==s) (λn _=>rfl) (by have:=B.nl;omega) h;refine⟨k,hk,e,?_⟩;unfold I9 y7;exact rT r rfl
theorem QJ{m:a8}(B:Bn m){s:Int}(h:m.Nodes.find? (λn=>n.Serial==s)=none):I9 m s=some (-1):=by
 have r:=Es (P:=λa=>fa a s) (p:=λn=>n.Serial==s) (λn _=>rfl) (by have:=B.nl;omega) h;unfold I9 y7;exact rT r rfl
theorem ly{l:List b8}{s:Int}{n:b8}(h:l.find? (λn=>n.Serial==s)=some n):n.Serial=s/\n∈l:=by
 have:=List.find?_some h;exact⟨by simpa using this,List.mem_of_find?_eq_some h⟩
theorem PW{l:List b8}(up:l.Pairwise λa b=>a.Serial<b.Serial){k:Nat}(hk:k<l.length){s:Int}(hs:l[k].Serial=s)(f:b8->b8):l.set k (f l[k])=fE l s f:=by
 unfold fE;refine zb2 (by simp) λj h1 h2=>?_;rw[zcr,q9];rw[zm] at h2;by_cases c:k=j
 .subst c;rw[zb rfl,zb hs]
 .have hne:l[j].Serial≠s:=by
   rw[<-hs];rcases zE k j with d | d
   .have:=za6.1 up k j hk h2 d;omega
   .have:=za6.1 up j k h2 hk (by omega);omega
  rw[za c,za hne]
theorem sp{m:a8}(B:Bn m){s:Int}{n:b8}(h:m.Nodes.find? (λn=>n.Serial==s)=some n){F:b8->Option b8}{f:b8->b8}(hF:∀k,F k=some (f k)) :
  ((I9 m s).bind λv1=>(p8 m.Nodes).bind λv2=>(ix v2 v1).bind λv3=>(F v3).bind λv4=>
   some (⟨(v2.set (v1).toNat v4),m.Slots,m.Gens,m.Last,m.Places,m.Serial,m.Roots,m.b7,m.Pairs,m.Tasks,m.Progs⟩:a8))=some (xp m (fE m.Nodes s f)):=by
 obtain⟨k,hk,e,r⟩:=yj B h;have hc:p8 m.Nodes=some m.Nodes:=dj (by omega) (ID (m:=24) B.nl (by omega) (by omega));rw[r,YI,hc,YI,s7 hk,YI,hF,YI];rw[zR,PW B.up hk (s:=s) (by rw[e];exact (ly h).1)]
theorem QK{m:a8}(B:Bn m){s:Int}{n:b8}(h:m.Nodes.find? (λn=>n.Serial==s)=some n):Q5 m s=some (uf m s):=sp B h λ_=>rfl
theorem Ul{m:a8}(B:Bn m){s:Int}{n:b8}(h:m.Nodes.find? (λn=>n.Serial==s)=some n):M6 m s=some (xp m (fE m.Nodes s Fq)):=sp B h λ_=>rfl
theorem Wv{m:a8}(B:Bn m){s:Int}{n:b8}(h:m.Nodes.find? (λn=>n.Serial==s)=some n):C6 m s=some (xp m (fE m.Nodes s lr)):=sp B h λ_=>rfl
theorem Uk{m:a8}(B:Bn m){s:Int}{n:b8}(h:m.Nodes.find? (λn=>n.Serial==s)=some n)(l:List Int):O3 m s l=some (xp m (fE m.Nodes s λn=>We n l)):=sp B h (F:=λk=>ff k l) λ_=>rfl
theorem Bn.fE{m:a8}(B:Bn m){s:Int}{f:b8->b8}(h:∀n∈m.Nodes,n.Serial=s->(f n).Serial=n.Serial/\(f n).Slot=n.Slot/\(f n).Fields.length<=4):Bn (xp m (Sh.fE m.Nodes s f)):=by
 have hser:∀n∈m.Nodes,(if n.Serial=s then f n else n).Serial=n.Serial/\(if n.Serial=s then f n else n).Slot=n.Slot/\(if n.Serial=s then f n else n).Fields.length<=4:=λn hn=>by
  split;·rename_i e;exact h n hn e
  .exact⟨rfl,rfl,B.fl n hn⟩
 refine⟨by show (Sh.fE m.Nodes s f).length<=24;unfold Sh.fE;rw[zm];exact B.nl,?_,λn hn=>?_,λn hn=>?_,B.gg,B.gl⟩
 .show (Sh.fE m.Nodes s f).Pairwise _;unfold Sh.fE;rw[zbl];refine zbr (λ{a b} ha hb q=>?_) B.up;rw[(hser a ha).1,(hser b hb).1];exact q
 .obtain⟨k,hk,rfl⟩:=zn.1 (show n∈Sh.fE m.Nodes s f from hn);exact (hser k hk).2.2
 .obtain⟨k,hk,rfl⟩:=zn.1 (show n∈Sh.fE m.Nodes s f from hn);rw[(hser k hk).2.1];exact B.sg k hk
theorem Bn.fL{m:a8}(B:Bn m)(s:Int):Bn (fL m s):=by
 unfold Sh.fL;split;·exact B.fE λn hn _=>⟨rfl,rfl,B.fl n hn⟩
 .exact B
theorem CI{m:a8}(B:Bn m)(C:Bl m){s:Int}(h:s=0\/∃n,m.Nodes.find? (λn=>n.Serial==s)=some n):dF m s=some (fL m s):=by
 unfold dF fL;rw[CJ B C,YI];by_cases c:qN m s<11
 .rw[zb (by simp;omega),za (by omega)]
 .have h0:s≠0:=λe=>by subst e;rw[WK] at c;omega
  obtain⟨n,hn⟩:=h.resolve_left h0;rw[za (by simp;omega),zb ⟨h0,by omega⟩,QK B hn,YI]
theorem yl{m:a8}(B:Bn m)(C:Bl m){s:Int}(h:s=0\/∃n,m.Nodes.find? (λn=>n.Serial==s)=some n){r:Nat}(hr:r<m.Roots.length):U8 m r s=some (dd m r s):=by
 have hro:(fL m s).Roots=m.Roots:=by rw[aC]
 have hc:y5 m.Roots=some m.Roots:=dj (by omega) (ID (m:=30) C.rl (by omega) (by omega));unfold U8;rw[CI B C h,YI,hro,hc,YI,s7 hr,YI,zR];rfl
theorem Mm{m:a8}{s:Int}{n:b8}(h:m.Nodes.find? (λn=>n.Serial==s)=some n):∃n',(fL m s).Nodes.find? (λn=>n.Serial==s)=some n'/\n'.Prog=n.Prog:=by
 unfold fL;split
 .refine⟨Dv n,?_,rfl⟩;show (fE m.Nodes s Dv).find? _=_;rw[xK _ (f:=Dv) (λ_=>rfl),h];rfl
 .exact⟨n,h,rfl⟩
theorem Bw{m:a8}(B:Bn m)(C:Bl m){s:Int}{n:b8}(h:m.Nodes.find? (λn=>n.Serial==s)=some n):aQ m s=some (qu m s):=by
 obtain⟨n',hn',ep⟩:=Mm h;have B':=B.fL s;obtain⟨k,hk,e,r⟩:=yj B' hn';unfold aQ;rw[CI B C (.inr ⟨n,h⟩),YI,r,YI,s7 hk,YI,e,Ul B' hn',YI];have ht:(fL m s).Tasks=m.Tasks:=by rw[aC]
 have hc:G2 m.Tasks=some m.Tasks:=dj (by omega) (ID (m:=200) C.tl (by omega) (by omega));dsimp only;rw[ht,hc,YI,Gc (by omega) (ID (m:=201) (by have:=C.tl;omega) (by omega) (by omega)),YI,ep];unfold qu GZ;rw[h];rw[aC];rfl
theorem yk{m:a8}(B:Bn m)(C:Bl m)(s:Int):O4 m s=some (DR m s):=by
 unfold O4;cases h:m.Nodes.find? (λn=>n.Serial==s) with
 | none=>
  rw[QJ B h,YI,LJ h];simp[E1]
 | some n=>
  obtain⟨k,hk,e,r⟩:=yj B h;obtain⟨hs,hm⟩:=ly h;have hd:decide ((k:Int)<0)=false:=zY (by omega);rw[r,YI,hd,Ge h];rw[show (false==false)=true from rfl,jG,s7 hk,YI,e,zcb];have hnm:dZ m.b7 s=some (jb m.b7 s:Int):=Kz _ (by have:=C.wl;omega) s;cases ha:n.Alive
  .rw[show (false==false)=true from rfl,jG,hnm,YI,zcb];by_cases c:0<jb m.b7 s
   .rw[zb (by simpa using c),zb (.inr c)]
   .rw[za (by simpa using c),za (by simp[c])];obtain⟨g1,g2,g3⟩:=B.sg n hm;have hp:C2 m.Nodes s=some (m.Nodes.filter λk=>k.Serial != s):=by
     unfold C2;exact iO (P:=λa=>cd a s) (λn _=>rfl) (by omega) (by omega) (by have:=B.nl;omega)
    have hc1:y5 m.Slots=some m.Slots:=dj (by omega) (ID (m:=24) B.gl.1 (by omega) (by omega));have hc2:y5 m.Gens=some m.Gens:=dj (by omega) (ID (m:=24) B.gl.2 (by omega) (by omega));rw[YI,hp,YI,hc1,YI,hc2,YI,MN g1 g3,YI];have hg:m.Gens.getD n.Slot.toNat 0=m.Gens[n.Slot.toNat]:=by rw[zd,zc g3];rfl
    unfold El;rw[hg,hs];by_cases d:m.Gens[n.Slot.toNat]=m.Last
    .rw[zb (by simpa using d),MN g1 g2,YI,zb d,zb d]
    .have hb:=B.gg _ (zh g3);rw[za (by simpa using d),MN g1 g2,YI,za d,za d,vC (by omega) (by omega)]
  .rw[show (true==false)=false from rfl,IV,YI];simp
theorem yg(m:a8)(s:Int):(qI m s).Roots=m.Roots/\(qI m s).b7=m.b7/\(qI m s).Pairs=m.Pairs/\(qI m s).Tasks=m.Tasks/\(qI m s).Progs=m.Progs:=by
 unfold qI DR;split;·exact⟨rfl,rfl,rfl,rfl,rfl⟩
 .split <;> exact⟨rfl,rfl,rfl,rfl,rfl⟩
theorem Bl.qI{m:a8}(C:Bl m)(s:Int):Bl (qI m s):=by
 obtain⟨a,b,c,d,_⟩:=yg m s;exact⟨by rw[a];exact C.rl,by rw[b];exact C.wl,by rw[c];exact C.pa,by rw[d];exact C.tl⟩
theorem Ww{m:a8}(B:Bn m)(C:Bl m){s:Int}{n:b8}(h:m.Nodes.find? (λn=>n.Serial==s)=some n):((C6 m s).bind λv21=>O4 v21 s)=some (qI m s):=by
 rw[Wv B h,YI,yk (B.fE (s:=s) (f:=lr) λn hn _=>⟨rfl,rfl,zV _⟩) ⟨C.rl,C.wl,C.pa,C.tl⟩];rfl
theorem MP{σ:Int->Int}{x:Hp}{m:a8}(hR:SR x.S)(q:p9 σ x m)(C:Bl m){ds:List Int}(hl:ds.length<=24)(hn:ds.Nodup)(hm:∀d∈ds,d∈lv x.S/\(ob x.S d).Strong<12/\(ob x.S d).Weak=Sh.jb x.b7 d)(hi:∀d∈ds,∀c∈x.b7,σ c.Target=σ d->c.Target=d){R:Type}{K:a8->Option R} :
  (lp (S:=Int × a8) (E:=a8) (λ((s16,s17):Int × a8)=>
   if (decide (s16<((ds.map σ).length:Int))) then
    (ix (ds.map σ) s16).bind λv20=>
    (C6 s17 v20).bind λv21=>
    (O4 v21 v20).bind λv22=>
    some (.inl (w7 (s16+1),v22))
   else
   some (.inr s17)) (0,m)).bind K=K ((ds.map σ).foldl Sh.qI m):=by
 refine ky (bY (t0:=m) ds.length (λk acc=>acc=(((ds.take k).map σ).foldl Sh.qI m)/\Bl acc) (by omega) ⟨by simp,C⟩ (λk acc hk e=>.inl ⟨_,?_,rfl,e.2.qI (σ ds[k]) |> λh=>?_⟩) (λacc e=>⟨acc,?_,?_⟩))
 .obtain⟨rfl,C'⟩:=e;have hsub:∀d∈ds.take k,d∈ds:=λd hd=>zaf hd;have Q:=p9.Ud (ds.take k) hR q (hn.sublist (zb9 ..)) (λd hd=>hm d (hsub d hd)) λd hd=>hi d (hsub d hd);obtain⟨r1,r2⟩:=yh (y:=x) hR hn (λd hd=>(hm d hd).1) hk;have hf:=Q.find r1 (o0 r1 r2).d;have hstep:=Ww (Q.bn r1) C' hf;simp only[];rw[zb (by simpa using hk),s7 (by simpa using hk),YI,q9];have:((C6 ((List.map σ (List.take k ds)).foldl Sh.qI m) (σ ds[k])).bind λv21=>(O4 v21 (σ ds[k])).bind λv22=>some (Sum.inl (β:=a8) (w7 ((k:Int)+1),v22)))=some (Sum.inl (((k+1:Nat):Int),Sh.qI ((List.map σ (List.take k ds)).foldl Sh.qI m) (σ ds[k]))):=by
   rw[<-Option.bind_assoc,hstep,YI,n9 (by omega)]
  rw[this,zu hk,pm,zat];rfl
 .rw[zu hk,pm,zat];rw[e.1] at h;exact h
 .simp only[];rw[za (by simp)]
 .rw[e.1,zQ]
theorem EA{σ:Int->Int}{x:Hp}{m:a8}(hx:J8 x)(q:p9 σ x m){ds:List Int}(hn:ds.Nodup)(hm:∀d∈ds,d∈lv x.S)(hs:∀d∈ds,(ob x.S d).Strong<12):eV m (ds.map σ)=some (Ay m (ds.map σ)):=by
 have hS:=hx.sh;have hR:=hS.sr;have C:=q.bl hS;have hlen:ds.length<=24:=zP (Y9 hn hm) (M0 (A0.2 hR));have hln:(ds.map σ).length<=24:=by rw[zm];exact hlen
 have hcl:(cls m.b7 (ds.map σ)).length<=30:=by
  unfold cls;refine zP (zy ..) ?_;rw[zca];exact C.wl
 have hct:(jm m.b7 (ds.map σ)).length<=30:=by rw[mE];exact hcl
 have h2:B7 (tf (cls m.b7 (ds.map σ))) (lk m.b7 (ds.map σ))=some (jm m.b7 (ds.map σ)):=by
  unfold B7;refine (map_eq (P:=λa=>eW a (lk m.b7 (ds.map σ))) (p:=λa:Int=>(⟨2,a,((lk m.b7 (ds.map σ)).getD a.toNat cz).Call⟩:e6)) (λa ha=>?_) (by omega) (by omega) (by unfold tf;rw[zm];omega)).trans ?_
  .unfold tf at ha;obtain⟨w,hw,rfl⟩:=zn.1 ha;have hwl:w<(lk m.b7 (ds.map σ)).length:=by unfold lk;rw[zm];exact Gm hw
   unfold eW;rw[s7 hwl,YI,zR,zd,zc hwl];rfl
  .unfold jm tf;rw[zaw];congr 1;refine zo λw hw=>?_;have hwl:=Gm hw;show (⟨2,(w:Int),_⟩:e6)=_;congr 1;unfold lk;rw[zR,zd,zB,zc hwl,zd,zc hwl];exact (ow _ _).2.1
 have h3:F2 [m.Tasks,jm m.b7 (ds.map σ)]=some (m.Tasks++jm m.b7 (ds.map σ)):=by
  unfold F2;refine (Gj (by omega) (by omega) (by simp) (by have:=C.tl;simp;omega)).trans ?_;simp
 have h4:C7 m.Pairs (ds.map σ)=some (m.Pairs.filter λp=>decide (p.Key∉ds.map σ)):=by
  unfold C7;refine iO (P:=λa=>eX a (ds.map σ)) (λp _=>?_) (by omega) (by omega) (by have:=C.pa;omega);unfold eX;rw[contains_eq _ _ (by omega),YI];congr 1;by_cases c:p.Key∈ds.map σ
  .simp[c]
  .simp[c]
 unfold eV;simp only[jn];rw[DW _ _ (by have:=C.wl;omega) (by omega),YI,h2,YI,h3,YI,h4,YI];have q1:=q.Si hx hn hm;have C1:Bl (Vv (FD (RX m (lk m.b7 (ds.map σ))) (m.Tasks++jm m.b7 (ds.map σ))) (m.Pairs.filter λp=>decide (p.Key∉ds.map σ))):=by
  refine⟨C.rl,?_,?_,?_⟩
  .show (lk m.b7 (ds.map σ)).length<=30;unfold lk;rw[zm];exact C.wl
  .exact zP (zy ..) C.pa
  .show (m.Tasks++jm m.b7 (ds.map σ)).length<=200;rw[zK];have:m.Tasks.length<=30:=by rw[q.tk,zm];exact hS.q30
   omega
 refine (MP (x:=(⟨x.S,x.Roots,lk x.b7 ds,(lf x.T ds).1,⟨x.Q.L++jm x.b7 ds,x.Q.Cap⟩⟩:Hp)) hR q1 C1 hlen hn (λd hd=>⟨hm d hd,hs d hd,?_⟩) λd hd c hc e=>?_).trans rfl
 .show (ob x.S d).Weak=(Sh.jb (lk x.b7 ds) d:Int);have p:=o0 hR (hm d hd);rw[CN,E9 hR p];have:=(hx.wk _ p.1 p.d.2.1).1;rw[<-p.2.2] at this;exact this
 .refine q.gd.VF hR ?_ (.inr ⟨_,(o0 hR (hm d hd)).d⟩) e;have hc:c∈lk x.b7 ds:=hc;unfold lk at hc;obtain⟨c',hc',rfl⟩:=zn.1 hc;rw[(ow ds c').1];exact lj hS hc'
theorem BO{m:a8}(h:m.Nodes.find? (OO m)=none):rM m=m:=by
 unfold rM;rw[h]
theorem La{m:a8}{n:b8}(h:m.Nodes.find? (OO m)=some n):rM m=if Mb n then qu m n.Serial else Ay m [n.Serial]:=by
 unfold rM;rw[h]
theorem lB{σ:Int->Int}{x:Hp}{m:a8}(hx:J8 x)(q:p9 σ x m):H3 m=some (kZ m):=by
 obtain⟨n,h48,hz,hj,he⟩:=vu hx;have hM:kZ m=gb n m:=by
  have hfix:rM (gb n m)=gb n m:=by
   refine BO ?_;rw[(q.oe hx n).zr (P6 hx n),hz];rfl
  have key:∀k,gb (n+k) m=gb n m:=λk=>by
   induction k with
   | zero=>rfl
   | succ k ih=>rw[<-t8,jg,ih,hfix]
  have:=key (100-n);rw[show n+(100-n)=100 by omega] at this;exact this
 unfold H3;rw[hM];have hP:∀k,∀a∈(gb k m).Nodes,aI a (gb k m)=some (OO (gb k m) a):=λk a _=>by
  have qk:=q.oe hx k;have B:=qk.bn (P6 hx k).sh.sr;have C:=qk.bl (P6 hx k).sh;unfold aI OO;cases a.Alive <;> cases a.Stuck
  .rfl
  .rfl
  .show ((E1 true 0 (bF (gb k m) a.Serial)).bind _)=_;rw[jG,CJ B C,YI];refine zX some ?_;generalize qN (gb k m) a.Serial=c;by_cases c0:c=0
   .subst c0;rfl
   .have h1:((c:Int)==0)=false:=by simpa using c0
    have h2:(c==0)=false:=by simpa using c0
    rw[h1,h2];rfl
  .rfl
 refine ky (K:=some) (jy (κ:=some) (λk=>gb k m) rfl n (λ_=>True) (by omega) trivial (λk hk _=>.inl ⟨?_,trivial⟩) (λ_=>⟨gb n m,?_,rfl⟩))
 .have hxk:=P6 hx k;have qk:=q.oe hx k;have B:=qk.bn hxk.sh.sr;have C:=qk.bl hxk.sh;have hR:=hxk.sh.sr;cases ez:zr (oe k x) with
  | nil=>exact absurd ez (hj k hk)
  | cons z l=>
   obtain⟨hzl,h0⟩:=cS.1 (ez▸zf:z∈zr (oe k x));have p:=o0 hR hzl;have hf:=qk.zr hxk;rw[ez] at hf;have hf:(gb k m).Nodes.find? (OO (gb k m))=some (Sh.nd σ (oe k x).S (D3 z)):=hf;obtain⟨i,hi,e,r⟩:=Et (hP k) (by have:=B.nl;omega) hf;have r':w8 (gb k m).Nodes (gb k m)=some (i:Int):=r;have hser:(Sh.nd σ (oe k x).S (D3 z)).Serial=σ z:=(qk.gd.f z _ p.d).symm;have hfn:=qk.find hR p.d;rw[r',YI,za (by simp),s7 hi,YI,e];rw[show cZ (Sh.nd σ (oe k x).S (D3 z))=some (Mb (Sh.nd σ (oe k x).S (D3 z))) from rfl,YI,jg];rw[La hf,hser];split;·rw[Bw B C hfn,YI]
   .have hb:=EA hxk qk (ds:=[z]) (pi.2 ⟨by simp,zb3⟩) (λd hd=>by rw[zt] at hd;rw[hd];exact hzl) λd hd=>by
     rw[zt] at hd;rw[hd,h0];decide
    rw[show [σ z] = [z].map σ from rfl,hb,YI]
 .have hf:=(q.oe hx n).zr (P6 hx n);rw[hz] at hf;have r:=Es (hP n) (by have:=((q.oe hx n).bn (P6 hx n).sh.sr).nl;omega) hf;have r':w8 (gb n m).Nodes (gb n m)=some (-1):=r;rw[r',YI,zb (by decide)]
theorem Bn.El{m:a8}(B:Bn m)(h9:m.Last<=9)(n:b8)(hg:∀g∈m.Gens,g<=m.Last):Bn (Sh.El m n)/\∀g∈(Sh.El m n).Gens,g<=m.Last:=by
 have hgg:∀g∈(if m.Gens.getD n.Slot.toNat 0=m.Last then m.Gens else m.Gens.set n.Slot.toNat (m.Gens.getD n.Slot.toNat 0+1)),0<=g/\g<=m.Last:=λg hgm=>by
  split at hgm;·exact⟨(B.gg g hgm).1,hg g hgm⟩
  .rename_i c;rcases zE n.Slot.toNat m.Gens.length with hl | hl
   .rcases zav hgm with q | rfl
    .exact⟨(B.gg g q).1,hg g q⟩
    .rw[zd,zc hl] at c |-;have a:=B.gg _ (zh hl);have b:=hg _ (zh hl);simp only[ul] at c |-;omega
   .rw[List.set_eq_of_length_le hl] at hgm;exact⟨(B.gg g hgm).1,hg g hgm⟩
 have hlen:(Sh.El m n).Slots.length=m.Slots.length/\(Sh.El m n).Gens.length=m.Gens.length:=by
  unfold Sh.El;refine⟨by simp,?_⟩;dsimp only;split <;> simp
 refine⟨⟨?_,?_,λk hk=>?_,λk hk=>?_,λg hgm=>?_,by rw[hlen.1,hlen.2];exact B.gl⟩,λg hgm=>(hgg g hgm).2⟩;·exact zP (zy ..) B.nl
 .exact B.up.filter _
 .exact B.fl k (zk.1 (show k∈m.Nodes.filter _ from hk)).1
 .rw[hlen.1,hlen.2];exact B.sg k (zk.1 (show k∈m.Nodes.filter _ from hk)).1
 .have:=hgg g hgm;exact⟨this.1,by omega⟩
def OR(m:a8):List Int:=m.Roots++(cJ m++(m.Nodes.filter (·.Stuck)).map (·.Serial))
inductive FL (m:a8):Int->Prop
 | base {s:Int}:s∈OR m->FL m s
 | VD {n:b8} {v:Int}:n∈m.Nodes->FL m n.Serial->v∈n.Fields->FL m v
 | VH {p:g7}:p∈m.Pairs->FL m p.Key->FL m p.Val
section
variable{σ:Int->Int}{x:Hp}{m:a8}(hx:J8 x)(q:p9 σ x m)
include hx q
theorem Ow{n:b8}(hn:n∈m.Nodes)(hs:n.Stuck=true):∃h∈lv x.S,n=Sh.nd σ x.S (D3 h)/\n.Serial=σ h/\12<=(ob x.S h).Strong:=by
 have hR:=hx.sh.sr;obtain⟨i,hi,ti,rfl⟩:=(q.nd.mem n).1 hn;have h12:12<=(Sh.ce x.S i).Val.Strong:=by simpa[Sh.nd] using hs
 rcases ti with h1 | h2
 .have hA:At x.S (bV x.S i) i:=⟨hi,h1,rfl⟩;have hl:=(gO hR).2 ⟨i,hA⟩;refine⟨bV x.S i,hl,by rw[hA.d.D3 hR],(q.gd.f _ i hA.d).symm,?_⟩;rw[E9 hR hA];exact h12
 .have:=((hx.wk i hi (.inr h2)).2 h2).2.2;omega
theorem NW{s:Int}(r:FL m s):s=0\/∃h,h∈lv x.S/\s=σ h/\aU x.S x.T (FO x) h:=by
 have hS:=hx.sh;have hR:=hS.sr;have hot:∀h,h∈lv x.S->h∈nZ x->aU x.S x.T (FO x) h:=λh hl ho=>.base (CA hx hl ho) hl;induction r with
 | base hb=>
  unfold OR at hb;rcases zw.1 hb with a | a
  .rw[q.ro] at a;obtain⟨h,hh,rfl⟩:=zn.1 a;rcases hS.rt h hh with e | hl
   .exact .inl (by rw[e];exact q.gd.z)
   .refine .inr ⟨h,hl,rfl,hot h hl ?_⟩;unfold nZ;exact ut _ (fW.2 ⟨hh,by have:=H5 hR hl;omega⟩)
  .rcases zw.1 a with a | a
   .rw[q.GK hS] at a;obtain⟨h,hh,rfl⟩:=zn.1 a;obtain⟨t,ht,k,rfl⟩:=jA.1 hh;rcases (hS.tk t ht).2.2 with b | b
    .exact .inr ⟨_,b.2.1,rfl,hot _ b.2.1 (t7 _ hh)⟩
    .rw[b.1] at k;exact absurd k (by decide)
   .obtain⟨n,hn,rfl⟩:=zn.1 a;obtain⟨h,hl,_,e,h12⟩:=Ow hx q (zk.1 hn).1 (by simpa using (zk.1 hn).2);exact .inr ⟨h,hl,e,.base (pQ.2 ⟨hl,.inr h12⟩) hl⟩
 | VD hn r0 hv ih=>
  rename_i n v;have hp:=q.nd.pos hR hn;obtain⟨h,hl,e,r⟩:=ih.resolve_left (by omega);have p:=o0 hR hl;have en:n=Sh.nd σ x.S (D3 h):=q.nd.one hR hn (q.nd.at hR p.1 p.d.2.1) (by rw[e,q.gd.f h _ p.d];rfl);rw[en] at hv;obtain⟨u,hu,rfl⟩:=zn.1 hv;rw[<-E9 hR p] at hu;rcases hS.fl h hl u hu with e0 | hlu
  .exact .inl (by rw[e0];exact q.gd.z)
  .exact .inr ⟨u,hlu,rfl,.step r (fW.2 ⟨hu,by have:=H5 hR hlu;omega⟩) hlu⟩
 | VH hp r0 ih=>
  rename_i p;obtain⟨k,v,hh,rfl⟩:=(q.p2 p).1 hp;obtain⟨a,b⟩:=hS.pr k v hh;have hk:=q.gd.ps hR a;obtain⟨h,hl,e,r⟩:=ih.resolve_left (by show σ k≠0;omega);have:k=h:=q.gd.inl hR a hl e;subst this;exact .inr ⟨v,b,rfl,.pair hh r b⟩
theorem UY{h:Int}(r:aU x.S x.T (FO x) h):FL m (σ h):=by
 have hS:=hx.sh;have hR:=hS.sr;induction r with
 | base hb hl=>
  rename_i h;refine .base ?_;unfold OR;rcases (GJ hx hb).2 with a | a
  .unfold nZ at a;rcases zw.1 a with a | a
   .refine ut _ ?_;rw[q.ro];exact za8 (fW.1 a).1
   .refine t7 _ (ut _ ?_);rw[q.GK hS];exact za8 a
  .refine t7 _ (t7 _ ?_);have p:=o0 hR hl;refine zn.2 ⟨Sh.nd σ x.S (D3 h),zk.2 ⟨q.nd.at hR p.1 p.d.2.1,?_⟩,(q.gd.f h _ p.d).symm⟩;rw[E9 hR p] at a;exact zC a
 | step r ho hl ih=>
  rename_i a b;have hla:=aU.live r;have p:=o0 hR hla;refine .VD (q.nd.at hR p.1 p.d.2.1) (by rw[show (Sh.nd σ x.S (D3 a)).Serial=σ a from (q.gd.f a _ p.d).symm];exact ih) ?_;show σ b∈(Sh.ce x.S (D3 a)).Val.Fields.map σ;rw[<-E9 hR p];exact za8 (fW.1 ho).1
 | pair hh r hl ih=>
  exact .VH ((q.p2 _).2 ⟨_,_,hh,rfl⟩) ih
theorem Ru{h:Int}(hl:h∈lv x.S):FL m (σ h)↔aU x.S x.T (FO x) h:=by
 refine⟨λr=>?_,UY hx q⟩;have hR:=hx.sh.sr;have:=q.gd.ps hR hl;obtain⟨k,hk,e,r'⟩:=(NW hx q r).resolve_left (by omega);rw[q.gd.inl hR hl hk e];exact r'
theorem Rv{s:Int}(r:FL m s):s=0\/s∈m.Nodes.map (·.Serial):=by
 have hR:=hx.sh.sr;rcases NW hx q r with e | ⟨h,hl,rfl,_⟩
 .exact .inl e
 .have p:=o0 hR hl;exact .inr (zn.2 ⟨_,q.nd.at hR p.1 p.d.2.1,(q.gd.f h _ p.d).symm⟩)
end
section
variable{m:a8}(hser:∀s,FL m s->s=0\/s∈m.Nodes.map (·.Serial))(B:Bn m)
include hser B
def Ht(m:a8)(mp:List (Int × Bool)):Nat:=((m.Nodes.map (·.Serial)).filter λs => !(y9 mp s).getD false).length
structure JI (m:a8) (q:c9) (mp:List (Int × Bool)):Prop where
 nd:q.L.Nodup
 cap:q.Cap=(m.Nodes.length:Int)
 il:∀x∈q.L,Mk mp x/\x≠0
 rc:∀x,Mk mp x->x=0\/FL m x
 z:Mk mp 0
omit hser B in
theorem RP {mp:List (Int × Bool)} {x:Int} (hx:x∈m.Nodes.map (·.Serial)) (hm:¬Mk mp x):Ht m (o7 mp x true)<Ht m mp:=by
 unfold Ht;refine filter_lt (λy _ h=>?_) x hx (by simpa[Mk] using hm) ?_
 .by_cases q:Mk mp y
  .have:=(dE mp x y).2 (.inr q);unfold Mk at this;rw[this] at h;cases h
  .simpa[Mk] using q
 .have:=(dE mp x x).2 (.inl rfl);unfold Mk at this;rw[this];rfl
omit B in
theorem JI.sub {q:c9} {mp:List (Int × Bool)} (h:JI m q mp):∀y∈q.L,y∈m.Nodes.map (·.Serial):=λy hy=>by
 obtain⟨a,b⟩:=h.il y hy;exact (hser y ((h.rc y a).resolve_left b)).resolve_left b
omit B in
theorem JI.room {q:c9} {mp:List (Int × Bool)} (h:JI m q mp) {x:Int} (hx:x∈m.Nodes.map (·.Serial)) (hm:¬Mk mp x):q.L.length<m.Nodes.length:=by
 have:(x::q.L).length<=(m.Nodes.map (·.Serial)).length:=Y9 (pi.2 ⟨λk=>hm (h.il x k).1,h.nd⟩) λy hy=>by
  rcases zN.1 hy with rfl | k
  .exact hx
  .exact JI.sub hser h y k
 simp only[zI,zm] at this;omega
theorem rH{xs:List Int}{q:c9}{mp:List (Int × Bool)}(hlen:xs.length<=1000000)(h0:JI m q mp)(hr:∀x∈xs,x=0\/FL m x) :
  ∃q' mp',lp (S:=Int × c9 × (List (Int × Bool))) (E:=(c9 × (List (Int × Bool)))) (λ((s148,s149,s150):Int × c9 × (List (Int × Bool)))=>
        if (decide (s148<(xs.length:Int))) then
         jn (λ((j156,j157):c9 × (List (Int × Bool)))=>
          some (.inl (w7 (s148+1),j156,j157))) (λκ155=>
          (ix xs s148).bind λv159=>
          if (!((y9 s150 v159).getD (false:Bool))) then
           (D2 s149 v159).bind λv160=>
           κ155 (v160.1,(o7 s150 v159 true))
          else
          κ155 (s149,s150))
        else
        some (.inr (s149,s150))) (0,q,mp)=some (q',mp')/\JI m q' mp'/\(∀x,Mk mp' x↔Mk mp x\/x∈xs)/\(∀x,Mk mp' x->Mk mp x\/x∈q'.L)/\(∀x∈q.L,x∈q'.L)/\2*Ht m mp'+q'.L.length<=2*Ht m mp+q.L.length:=by
 have nl:=B.nl;have:=jx (f:=λ((s148,s149,s150):Int × c9 × (List (Int × Bool)))=>
        if (decide (s148<(xs.length:Int))) then
         jn (λ((j156,j157):c9 × (List (Int × Bool)))=>
          some (.inl (w7 (s148+1),j156,j157))) (λκ155=>
          (ix xs s148).bind λv159=>
          if (!((y9 s150 v159).getD (false:Bool))) then
           (D2 s149 v159).bind λv160=>
           κ155 (v160.1,(o7 s150 v159 true))
          else
          κ155 (s149,s150))
        else
        some (.inr (s149,s150))) (t0:=(q,mp)) xs.length (λk t=>JI m t.1 t.2/\(∀x,Mk t.2 x↔Mk mp x\/x∈xs.take k)/\(∀x,Mk t.2 x->Mk mp x\/x∈t.1.L)/\(∀x∈q.L,x∈t.1.L)/\2*Ht m t.2+t.1.L.length<=2*Ht m mp+q.L.length)
  (λt=>JI m t.1 t.2/\(∀x,Mk t.2 x↔Mk mp x\/x∈xs)/\(∀x,Mk t.2 x->Mk mp x\/x∈t.1.L)/\(∀x∈q.L,x∈t.1.L)/\2*Ht m t.2+t.1.L.length<=2*Ht m mp+q.L.length) (by omega)
  ⟨h0,λx=>by simp,λx h=>.inl h,λx h=>h,zG _⟩ (λk t hk hP=>?_) (λt hP=>?_)
 .obtain⟨⟨q',mp'⟩,h1,h2⟩:=this;exact⟨q',mp',h1,h2⟩
 .obtain⟨q1,m1⟩:=t;obtain⟨p1,p2,p3,p4,p5⟩:=hP;simp only at p1 p2 p3 p4 p5;left;have ht:∀x,x∈xs.take (k+1)↔x∈xs.take k\/x=xs[k]:=λx=>by rw[zu hk,zw,zt]
  simp only[jn,wp,hk,t6,wn,s7 hk,YI];by_cases hm:Mk m1 xs[k]
  .rw[za (by rw[show (y9 m1 xs[k]).getD false=true from hm];decide),n9];refine⟨(q1,m1),rfl,p1,λx=>?_,p3,p4,p5⟩;rw[p2,ht];constructor
   .rintro (a | a);·exact .inl a
    .exact .inr (.inl a)
   .rintro (a | a | rfl);·exact .inl a
    .exact .inr a
    .exact (p2 _).1 hm
  .have hm':(y9 m1 xs[k]).getD false=false:=by simpa[Mk] using hm
   have hk0:xs[k]≠0:=λe=>hm (by rw[e];exact p1.z);have hrc:=(hr _ (zh hk)).resolve_left hk0;have hin:=(hser _ hrc).resolve_left hk0;have hroom:=JI.room hser p1 hin hm;rw[zb (by rw[hm'];decide),Jc (by rw[p1.cap];omega) (by omega),YI,n9];refine⟨(⟨q1.L ++ [xs[k]],q1.Cap⟩,o7 m1 xs[k] true),rfl,⟨?_,p1.cap,λx hx=>?_,λx hx=>?_,?_⟩,λx=>?_,λx hx=>?_,λx hx=>?_,?_⟩
   .simp only;rw[zbu];refine⟨p1.nd,by simp,λa ha b hb e=>?_⟩;rw[zt] at hb;subst hb;subst e;exact hm (p1.il _ ha).1
   .simp only[zw,zt] at hx;rw[dE];rcases hx with a | a
    .exact⟨.inr (p1.il x a).1,(p1.il x a).2⟩
    .exact⟨.inl a,by rw[a];exact hk0⟩
   .rcases (dE m1 xs[k] x).1 hx with rfl | a
    .exact .inr hrc
    .exact p1.rc x a
   .exact (dE m1 xs[k] 0).2 (.inr p1.z)
   .simp only;rw[dE,p2,ht];constructor
    .rintro (rfl | a | a);·exact .inr (.inr rfl)
     .exact .inl a
     .exact .inr (.inl a)
    .rintro (a | a | a);·exact .inr (.inl a)
     .exact .inr (.inr a)
     .exact .inl a
   .simp only[zw,zt];rcases (dE m1 xs[k] x).1 hx with a | a
    .exact .inr (.inr a)
    .rcases p3 x a with b | b
     .exact .inl b
     .exact .inr (.inl b)
   .simp only[zw];exact .inl (p4 x hx)
   .have:=RP hin hm;simp only[zK,List.length_singleton];omega
 .obtain⟨q1,m1⟩:=t;refine⟨(q1,m1),?_,?_⟩;·simp only[zbg,zbz,zD,qr]
  .simpa using hP
omit hser in
theorem ED {a:Int} (C:Bl m):O5 m a=some ((m.Pairs.filter λp=>p.Key==a).map (·.Val)):=by
 have pa:=C.pa;have h1:C0 m.Pairs a=some (m.Pairs.filter λp=>p.Key==a):=by
  unfold C0;exact iO (P:=λp=>ck p a) (λn _=>rfl) (by omega) (by omega) (by omega)
 have hl:(m.Pairs.filter λp=>p.Key==a).length<=30:=zP (zy ..) pa;unfold O5;rw[h1,YI];refine rT (a:=(m.Pairs.filter λp=>p.Key==a).map (·.Val)) ?_ rfl;unfold D8;exact map_eq (λn _=>rfl) (by omega) (by omega) (by omega)
theorem Kx(C:Bl m)(hn0:∀n∈m.Nodes,n.Serial≠0)(hp0:∀p∈m.Pairs,p.Key≠0):∃mp,gB m=some mp/\∀s,Mk mp s↔s=0\/FL m s:=by
 have nl:=B.nl;have hst:C4 m.Nodes=some (m.Nodes.filter (·.Stuck)):=by
  unfold C4;exact iO (λn _=>rfl) (by omega) (by omega) (by omega)
 have hsl:(m.Nodes.filter (·.Stuck)).length<=24:=zP (zy ..) nl;have hss:I5 (m.Nodes.filter (·.Stuck))=some ((m.Nodes.filter (·.Stuck)).map (·.Serial)):=by
  unfold I5;refine rT (a:=(m.Nodes.filter (·.Stuck)).map (·.Serial)) ?_ rfl;unfold B5;exact map_eq (λn _=>rfl) (by omega) (by omega) (by omega)
 have hh:gh ⟨m.Tasks,30⟩=some (cJ m):=Oy (q:=⟨m.Tasks,30⟩) (by have:=C.tl;show m.Tasks.length<=1000;omega);have GK:(cJ m).length<=200:=by
  unfold cJ nW;rw[zm];exact zP (zy ..) C.tl
 have hbl:(OR m).length<=300:=by
  unfold OR;rw[zK,zK,zm];have:=C.rl;omega
 have hc:F5 [m.Roots,cJ m,(m.Nodes.filter (·.Stuck)).map (·.Serial)]=some (OR m):=by
  unfold F5;refine (Gj (by omega) (by omega) (by simp) ?_).trans ?_
  .show ([m.Roots,cJ m,(m.Nodes.filter (·.Stuck)).map (·.Serial)].flatten).length<=100000;unfold OR at hbl;simpa using zP hbl (by omega)
  .unfold OR;simp
 unfold gB aR;rw[hst,YI,hss,YI,YI,yn,YI,hh,YI,hc,YI];have hz0:Mk (o7 [] 0 true) 0:=(dE [] 0 0).2 (.inl rfl);have hzz:∀x,Mk (o7 [] 0 true) x->x=0:=λx h=>((dE [] 0 x).1 h).resolve_right (by simp[Mk,y9]);obtain⟨q0,m0,e0,i0,i1,i2,i3,i4⟩:=rH hser B (xs:=OR m) (q:=⟨[],(m.Nodes.length:Int)⟩) (mp:=o7 [] 0 true) (by omega) ⟨zb3,rfl,(λx hx=>by cases hx),(λx h=>.inl (hzz x h)),hz0⟩ (λx h=>.inr (.base h));have hu:Ht m (o7 [] 0 true)<=24:=by
  unfold Ht;refine zP (zy ..) ?_;rw[zm];exact nl
 suffices key:∃mp,(lp (S:=c9 × (List (Int × Bool))) (E:=(List (Int × Bool))) (λ((s102,s103):c9 × (List (Int × Bool)))=>
    (H4 s102).bind λv106=>
    if (decide (v106 > 0)) then
     (W2 s102).bind λv107=>
     (I9 m v107.2.1).bind λv108=>
     (ix m.Nodes v108).bind λv109=>
     (lp (S:=Int × c9 × (List (Int × Bool))) (E:=(c9 × (List (Int × Bool)))) (λ((s162,s163,s164):Int × c9 × (List (Int × Bool)))=>
       if (decide (s162<(v109.Fields.length:Int))) then
        jn (λ((j170,j171):c9 × (List (Int × Bool)))=>
         some (.inl (w7 (s162+1),j170,j171))) (λκ169=>
         (ix v109.Fields s162).bind λv173=>
         if (!((y9 s164 v173).getD (false:Bool))) then
          (D2 s163 v173).bind λv174=>
          κ169 (v174.1,(o7 s164 v173 true))
         else
         κ169 (s163,s164))
       else
       some (.inr (s163,s164))) (0,v107.1,s103)).bind λe161=>
     (O5 m v107.2.1).bind λv128=>
     (lp (S:=Int × c9 × (List (Int × Bool))) (E:=(c9 × (List (Int × Bool)))) (λ((s148,s149,s150):Int × c9 × (List (Int × Bool)))=>
        if (decide (s148<(v128.length:Int))) then
         jn (λ((j156,j157):c9 × (List (Int × Bool)))=>
          some (.inl (w7 (s148+1),j156,j157))) (λκ155=>
          (ix v128 s148).bind λv159=>
          if (!((y9 s150 v159).getD (false:Bool))) then
           (D2 s149 v159).bind λv160=>
           κ155 (v160.1,(o7 s150 v159 true))
          else
          κ155 (s149,s150))
        else
        some (.inr (s149,s150))) (0,e161.1,e161.2)).bind λe147=>
     some (.inl (e147.1,e147.2))
    else
    some (.inr s103)) (q0,m0))=some mp/\∀s,Mk mp s↔s=0\/FL m s by
  obtain⟨mp,h1,h2⟩:=key;refine⟨mp,?_,h2⟩;refine (ky (e:=(q0,m0)) ((Option.bind_fun_some _).trans e0)).trans ?_;exact ky ((Option.bind_fun_some _).trans h1)
 refine uV (s0:=(q0,m0)) (λt=>JI m t.1 t.2/\(∀x∈OR m,Mk t.2 x)/\∀a,Mk t.2 a->a=0\/a∈t.1.L\/((∀n∈m.Nodes,n.Serial=a->∀b∈n.Fields,Mk t.2 b)/\∀p∈m.Pairs,p.Key=a->Mk t.2 p.Val)) (λmp=>∀s,Mk mp s↔s=0\/FL m s) (λt=>2*Ht m t.2+t.1.L.length)
   ⟨i0,λx h1=>(i1 x).2 (.inr h1),λa ha=>?_⟩ (by show 2*Ht m m0+q0.L.length<_;simp only[zah] at i4;omega) ?_
 .rcases i2 a ha with b | b
  .exact .inl (hzz a b)
  .exact .inr (.inl b)
 .rintro⟨q,mp⟩ ⟨p1,p2,p3⟩;simp only at p1 p2 p3 |-;have hq:=Y9 p1.nd (JI.sub hser p1);rw[zm] at hq;unfold H4;rw[YI];cases hqL:q.L with
  | nil=>
   right;refine⟨mp,by rw[za (by simp)],λx=>⟨p1.rc x,λh=>?_⟩⟩;rcases h with rfl | h
   .exact p1.z
   .have cl:∀a,Mk mp a->a≠0->(∀n∈m.Nodes,n.Serial=a->∀b∈n.Fields,Mk mp b)/\∀p∈m.Pairs,p.Key=a->Mk mp p.Val:=λa h1 h2=>by
     rcases p3 a h1 with c | c | c
     .exact absurd c h2
     .rw[hqL] at c;cases c
     .exact c
    induction h with
    | base a=>exact p2 _ a
    | VD hn r hv ih=>
     rename_i n v;exact (cl _ ih (hn0 n hn)).1 n hn rfl v hv
    | VH hp r ih=>
     rename_i p;exact (cl _ ih (hp0 p hp)).2 p hp rfl
  | cons a r=>
   left;have hqe:q=⟨a::r,q.Cap⟩:=by rw[<-hqL]
   have haq:a∈q.L:=by rw[hqL];exact zf
   obtain⟨hma,ha0⟩:=p1.il a haq;have hra:=(p1.rc a hma).resolve_left ha0;have has:=JI.sub hser p1 a haq;obtain⟨n,hf⟩:∃n,m.Nodes.find? (λn=>n.Serial==a)=some n:=by
    obtain⟨k,hk,e⟩:=zn.1 has;exact zad.1 (List.find?_isSome.2 ⟨k,hk,by simpa using e⟩)
   obtain⟨hns,hnm⟩:=ly hf;obtain⟨i,hi,ei,ri⟩:=yj B hf;have hnd:=p1.nd;rw[hqL] at hnd hq;simp only[zI] at hq;have hfl:=B.fl n hnm;obtain⟨q1,m1,e1',j0,j1,j2,j3,j4⟩:=rH hser B (xs:=n.Fields) (q:=⟨r,q.Cap⟩) (mp:=mp) (by omega) ⟨(pi.1 hnd).2,p1.cap,λx hx=>p1.il x (by rw[hqL];exact zl _ hx),p1.rc,p1.z⟩ (λx h=>.inr (.VD hnm (by rw[hns];exact hra) h));have hvl:((m.Pairs.filter λp=>p.Key==a).map (·.Val)).length<=30:=by
    rw[zm];exact zP (zy ..) C.pa
   obtain⟨q2,m2,e2',k0,k1,k2,k3,k4⟩:=rH hser B (xs:=(m.Pairs.filter λp=>p.Key==a).map (·.Val)) (q:=q1) (mp:=m1) (by omega) j0 (λx h=>by
    obtain⟨p,hp,rfl⟩:=zn.1 h;obtain⟨hp1,hp2⟩:=zk.1 hp;have hk:p.Key=a:=by simpa using hp2
    exact .inr (.VH hp1 (by rw[hk];exact hra)))
   refine⟨(q2,m2),?_,⟨k0,λx h1=>(k1 x).2 (.inl ((j1 x).2 (.inl (p2 x h1)))),λb hb=>?_⟩,?_⟩
   .rw[zb (by simp),hqe,NP (by omega),YI];simp only;rw[ri,YI,s7 hi,YI,ei];refine rT e1' ?_;simp only;rw[ED B C,YI];exact rT e2' rfl
   .simp only at hb |-;have up1:∀x,Mk m1 x->Mk m2 x:=λx h=>(k1 x).2 (.inl h);have up0:∀x,Mk mp x->Mk m2 x:=λx h=>up1 x ((j1 x).2 (.inl h));rcases k2 b hb with c | c
    .rcases j2 b c with d | d
     .rcases p3 b d with f | f | f
      .exact .inl f
      .rw[hqL] at f;rcases zN.1 f with rfl | f
       .refine .inr (.inr ⟨λk hk hks v hv=>?_,λp hp hpk=>?_⟩)
        .have:k=n:=by
          obtain⟨u,hu,eu⟩:=wt hk;obtain⟨w,hw,ew⟩:=wt hnm;rcases Nat.lt_trichotomy u w with c1 | c1 | c1
          .have:=za6.1 B.up u w hu hw c1;rw[eu,ew] at this;omega
          .subst c1;rw[<-eu,<-ew]
          .have:=za6.1 B.up w u hw hu c1;rw[eu,ew] at this;omega
         rw[this] at hv;exact up1 v ((j1 v).2 (.inr hv))
        .exact (k1 _).2 (.inr (zn.2 ⟨p,zk.2 ⟨hp,by simpa using hpk⟩,rfl⟩))
       .exact .inr (.inl (k3 b (j3 b f)))
      .exact .inr (.inr ⟨λk hk hks v hv=>up0 v (f.1 k hk hks v hv),λp hp hpk=>up0 _ (f.2 p hp hpk)⟩)
     .exact .inr (.inl (k3 b d))
    .exact .inr (.inl c)
   .show 2*Ht m m2+q2.L.length<2*Ht m mp+(a::r).length;simp only[zI] at j4 k4 |-;omega
end
theorem uX{l:List b8}(h:l.length<=1000):I5 l=some (l.map (·.Serial)):=by
 unfold I5;refine rT (a:=l.map (·.Serial)) ?_ rfl;unfold B5;exact map_eq (λn _=>rfl) (by omega) (by omega) (by omega)
theorem p9.RI{σ:Int->Int}{x:Hp}{m:a8}(hR:SR x.S)(q:p9 σ x m):(m.Nodes.filter (·.Alive)).map (·.Serial)=Sh.RI x:=by
 rw[q.nd.alive hR,zaw];unfold Sh.RI;refine zo λh hh=>?_;show (Sh.ce x.S (D3 h)).Val.Serial=(ob x.S h).Serial;rw[E9 hR (o0 hR hh)]
theorem II{σ:Int->Int}{x:Hp}{m:a8}(hR:SR x.S)(q:p9 σ x m):dS m=some (Sh.RI x):=by
 have B:=q.bn hR;unfold dS;rw[IH B,YI,uX (zP (zy ..) (by have:=B.nl;omega)),YI,q.RI hR]
theorem Ov(x:Hp):(RI x).length=(lv x.S).length:=by unfold RI;rw[zm]
theorem VV{p:Prop}{i:Decidable p}(h:¬p):false=@decide p i:=(zY h).symm
theorem VW{p:Prop}{i:Decidable p}(h:p):true=@decide p i:=(zC h).symm
section
variable{σ:Int->Int}{x:Hp}{m:a8}(hx:J8 x)(q:p9 σ x m)
include hx q
theorem Ej:∀d∈dz x,(ob x.S d).Strong<12:=λd hd=>by
 obtain⟨a,b⟩:=(bk (x:=x)).1 hd;rcases Int.lt_or_le (ob x.S d).Strong 12 with c | c
 .exact c
 .exact absurd (.base (pQ.2 ⟨a,.inr c⟩) a) b
theorem Kw{mp:List (Int × Bool)}(h:∀s,Mk mp s↔s=0\/FL m s):B8 m.Nodes mp=some ((dz x).map λh=>Sh.nd σ x.S (D3 h)):=by
 have hR:=hx.sh.sr;have B:=q.bn hR;have nl:=B.nl;unfold B8;refine (iO (P:=λn=>bq n mp) (p:=λn=>n.Alive && !((y9 mp n.Serial).getD false)) (λn _=>rfl) (by omega) (by omega) (by omega)).trans ?_;congr 1;rw[<-zan,zan,or (λn _=>Bool.and_comm _ _),<-zan,q.nd.alive hR,zct];congr 1;unfold dz VE;refine or λd hd=>?_;have p:=o0 hR hd;show (!((y9 mp (Sh.ce x.S (D3 d)).Val.Serial).getD false))=_;rw[<-q.gd.f d _ p.d];have h0:σ d≠0:=by have:=q.gd.ps hR hd;omega
 have:(y9 mp (σ d)).getD false=true↔aU x.S x.T (FO x) d:=by
  rw[<-Ru hx q hd];exact (h (σ d)).trans ⟨λc=>c.resolve_left h0,.inr⟩
 by_cases c:aU x.S x.T (FO x) d
 .rw[this.2 c];exact VV λe=>e c
 .have hc:(y9 mp (σ d)).getD false=false:=by
   cases e:(y9 mp (σ d)).getD false;·rfl
   .exact absurd (this.1 e) c
  rw[hc];exact VW c
theorem JX:((dz x).map λh=>Sh.nd σ x.S (D3 h)).filter Mb=(jW x).map λh=>Sh.nd σ x.S (D3 h):=by
 have hR:=hx.sh.sr;rw[zct];unfold jW;congr 1;refine or λd hd=>?_;have hl:=cI hx d hd;have p:=o0 hR hl;rw[E9 hR p];rfl
theorem IJ{l:List Int}(hl:∀h∈l,h∈lv x.S):(l.map λh=>Sh.nd σ x.S (D3 h)).map (·.Serial)=l.map σ:=by
 rw[zaw];refine zo λh hh=>?_;exact (q.gd.f h _ (o0 hx.sh.sr (hl h hh)).d).symm
end
theorem p9.Yg{σ:Int->Int}{x:Hp}{m:a8}(hx:J8 x)(hS:SL x)(hz:Sh.zr x = [])(q:p9 σ x m){l:List Int}(hn:l.Nodup)(hd:∀h∈l,h∈Sh.lv x.S/\due (Sh.ob x.S h)=true) :
  ∀k,k<=l.length->p9 σ ((l.take k).foldl Sh.gC x) (((l.take k).map σ).foldl qu m)
 | 0,_=>q
 | k+1,h=>by
  have ih:=p9.Yg hx hS hz q hn hd k (by omega);have hsub:∀h∈l.take k,h∈l:=λh hh=>zaf hh;have Q:=yA (l.take k) hx hS hz (hn.sublist (zb9 ..)) λh hh=>hd h (hsub h hh);rw[zu (by omega),pm,zat,zat];exact ih.gC Q.rt.sh Q.rt.fair (by rw[Q.lv];exact (hd _ (zh _)).1)
theorem yV{σ:Int->Int}{x:Hp}{m:a8}(hx:J8 x)(hS:SL x)(hz:Sh.zr x = [])(q:p9 σ x m){l:List Int}(hl:l.length<=24)(hn:l.Nodup)(hd:∀h∈l,h∈Sh.lv x.S/\due (Sh.ob x.S h)=true){R:Type}{K:a8->Option R} :
  (lp (S:=Int × a8) (E:=a8) (λ((s20,s21):Int × a8)=>
   if (decide (s20<((l.map σ).length:Int))) then
    (ix (l.map σ) s20).bind λv24=>
    (aQ s21 v24).bind λv25=>
    some (.inl (w7 (s20+1),v25))
   else
   some (.inr s21)) (0,m)).bind K=K ((l.map σ).foldl qu m):=by
 refine ky (bY (t0:=m) l.length (λk acc=>acc=((l.take k).map σ).foldl qu m) (by omega) rfl (λk acc hk e=>.inl ⟨_,?_,rfl⟩) (λacc e=>⟨acc,?_,?_⟩))
 .subst e;have Q:=p9.Yg hx hS hz q hn hd k (by omega);have hsub:∀h∈l.take k,h∈l:=λh hh=>zaf hh;have D:=yA (l.take k) hx hS hz (hn.sublist (zb9 ..)) λh hh=>hd h (hsub h hh);have hR':=D.rt.sh.sr;have hlk:l[k]∈lv ((l.take k).foldl gC x).S:=by rw[D.lv];exact (hd _ (zh hk)).1
  simp only[];rw[zb (by simpa using hk),s7 (by simpa using hk),YI,q9,Bw (Q.bn hR') (Q.bl D.rt.sh) (Q.find hR' (o0 hR' hlk).d),YI,n9 (n:=k) (by omega),zu hk,pm,zat];rfl
 .simp only[];rw[za (by simp)]
 .rw[e,zQ]
theorem HX(m:a8)(l:List Int):(Ay m l).Progs=m.Progs:=by
 unfold Ay;have key:∀(l:List Int) (m:a8),(l.foldl qI m).Progs=m.Progs:=λl=>by
  induction l with
  | nil=>exact λm=>rfl
  | cons s l ih=>exact λm=>(ih (qI m s)).trans (yg m s).2.2.2.2
 exact key l _
theorem Jv(m:a8)(s:Int):(qu m s).Progs=m.Progs:=by
 show (fL m s).Progs=m.Progs;rw[aC]
theorem RK(l:List Int):∀m:a8,(l.foldl qu m).Progs=m.Progs:=by
 induction l with
 | nil=>exact λm=>rfl
 | cons s l ih=>exact λm=>(ih (qu m s)).trans (Jv m s)
theorem xh(m:a8):(kZ m).Progs=m.Progs:=by
 have h1:∀m:a8,(rM m).Progs=m.Progs:=λm=>by
  unfold rM;split;·rfl
  .split;·exact Jv ..
   .exact HX ..
 have:∀n,(gb n m).Progs=m.Progs:=λn=>by
  induction n with
  | zero=>rfl
  | succ n ih=>rw[jg,h1,ih]
 exact this 100
def K0(m:a8)(r:Int):Int:=if r<0 then 0 else m.Roots.getD r.toNat 0
def qv(m:a8)(a s e:Int):a8 × Int × Int:=if e≠0 then (m,0,e) else (dd m a.toNat s,s,0)
def AH(m:a8)(s k v:Int):a8 × Int × Int:=match m.Nodes.find? (λn=>n.Serial==s) with
 | none=>(m,0,2)
 | some n=>if ¬(0<=k/\k<n.Fields.length) then (m,0,5) else (xp (fL m v) (fE (fL m v).Nodes s λj=>We j (n.Fields.set k.toNat v)),v,0)
def wB(m:a8)(s v:Int):a8 × Int × Int:=
 if v≠0/\m.Places<=((m.Pairs.filter λp=>p.Key != s).length:Int) then (m,0,8) else (Vv (fL m v) ((m.Pairs.filter λp=>p.Key != s)++if v=0 then [] else [⟨s,v⟩]),v,0)
def X4(m:a8)(o:g8):a8 × Int × Int:=
 if o.Kind=10 then (m,if K0 m o.A=K0 m o.B then 1 else 0,0)
 else if o.Kind=5 then (if K0 m o.A=0 then (m,0,2) else AH m (K0 m o.A) o.B (K0 m o.C))
 else if o.Kind=6 then (if 0<=o.B/\K0 m o.B=0 then (m,0,2) else if wg ⟨m.Tasks,30⟩ o.A=true then (m,0,7) else (Lf m o.A.toNat (K0 m o.B) o.C,K0 m o.B,0))
 else if o.Kind=8 then (if K0 m o.A=0 then (m,0,2) else wB m (K0 m o.A) (K0 m o.B))
 else if o.Kind=1 then (if m.Slots.findIdx (· == 0)<m.Slots.length then (dd (GP m (m.Slots.findIdx (· == 0)) o.B.toNat o.C) o.A.toNat (m.Serial+1),m.Serial+1,0) else (m,0,4))
 else if o.Kind=2 then qv m o.A (K0 m o.B) 0
 else if o.Kind=4 then (if K0 m o.B=0 then (m,0,2) else match m.Nodes.find? (λn=>n.Serial==K0 m o.B) with
  | none=>(m,0,2)
  | some n=>if ¬(0<=o.C/\o.C<n.Fields.length) then (m,0,5) else qv m o.A (n.Fields.getD o.C.toNat 0) 0)
 else if o.Kind=7 then (if (m.b7.getD o.B.toNat cz).Target=0\/(m.b7.getD o.B.toNat cz).Intact=false then (m,0,9) else qv m o.A (m.b7.getD o.B.toNat cz).Target 0)
 else if o.Kind=9 then (if K0 m o.B=0 then (m,0,2) else match (m.Pairs.find? λp=>p.Key==K0 m o.B) with
  | none=>(m,0,9)
  | some p=>qv m o.A p.Val 0)
 else qv m o.A 0 0
def AB(m:a8)(o:g8):a8 × Int × Int:=if (X4 m o).2.2≠0 then (m,0,(X4 m o).2.2) else (kZ (X4 m o).1,(X4 m o).2.1,0)
theorem Dn.iY{x z:Hp}{o:g8}{v:Int}(d:Dn x o z v):Sh.iY x o=(bu z,v,0):=by unfold Sh.iY;rw[d.mc];rfl
theorem Er.iY{x:Hp}{o:g8}{e:Int}(h:Er x o e):Sh.iY x o=(x,0,e):=by unfold Sh.iY;rw[h.2.1];rfl
section
variable{σ:Int->Int}{x:Hp}{m:a8}(hx:J8 x)(q:p9 σ x m)
include hx q
theorem p9.said(r:Int):K0 m r=σ (sd x r):=by
 unfold K0 sd;split;·exact q.gd.z.symm
 .rw[q.ro,zd,zB,zd];cases x.Roots[r.toNat]? with
  | none=>exact q.gd.z.symm
  | some v=>rfl
theorem p9.nQ(r:Int):K0 m r=0↔sd x r=0:=by
 rw[q.said hx];exact q.gd.zero hx.sh.sr (MW hx.sh.sr q.gd (dV hx.sh r))
theorem p9.bg{h:Int}(hh:h=0\/h∈lv x.S):Sh.bg x h=σ h:=by
 rcases hh with e | hl
 .subst e;rw[Fh hx.sh,q.gd.z]
 .exact (q.gd.lv hx.sh.sr hl).symm
theorem p9.HU{h:Int}(hl:h∈lv x.S):m.Nodes.find? (λn=>n.Serial==σ h)=some (Sh.nd σ x.S (D3 h))/\(Sh.nd σ x.S (D3 h)).Fields=(ob x.S h).Fields.map σ:=by
 have p:=o0 hx.sh.sr hl;refine⟨q.find hx.sh.sr p.d,?_⟩;rw[E9 hx.sh.sr p];rfl
structure ke (σ:Int->Int) (x:Hp) (m:a8) (o:g8):Prop where
 r:(∃e,e≠0/\X4 m o=(m,0,e)/\Sh.iY x o=(x,0,e))\/∃σ' z mz v,X4 m o=(mz,v,0)/\J8 z/\SL z/\p9 σ' z mz/\Sh.iY x o=(bu z,v,0)/\mz.Progs=m.Progs/\mz.Roots.length=6
theorem Gb(s:Int):(fL m s).Progs=m.Progs:=by rw[aC]
theorem yJ{o:g8}{a h:Int}(hr:J8 (G0 x a.toNat h))(hs:SL (G0 x a.toNat h))(hh:h=0\/h∈lv x.S)(hp:X4 m o=(dd m a.toNat (σ h),σ h,0))(hd:Sh.iY x o=(bu (G0 x a.toNat h),Sh.bg x h,0)):ke σ x m o:=
 ⟨.inr ⟨σ,_,_,σ h,hp,hr,hs,q.G0 hx.sh hx.fair hh,by rw[hd,q.bg hx hh],by show (fL m (σ h)).Progs=_;exact Gb hx q _,by
  show (m.Roots.set a.toNat (σ h)).length=6;rw[zaq,q.ro,zm];exact hx.sh.r6⟩⟩
theorem ib{o:g8}{e:Int}(he:Er x o e)(hp:X4 m o=(m,0,e)):ke σ x m o:=⟨.inl ⟨e,he.1,hp,he.iY⟩⟩
theorem XZ(hS:SL x){a b c:Int}(hc:x8 2 a b c=0):ke σ x m ⟨2,a,b,c⟩:=by
 have d:=d2 hx hS hc;refine yJ hx q d.rt d.sl (dV hx.sh b) ?_ d.iY;show qv m a (K0 m b) 0=_;rw[q.said hx];rfl
theorem Ya(hS:SL x){a b c:Int}(hc:x8 3 a b c=0):ke σ x m ⟨3,a,b,c⟩:=by
 have d:=d3 hx hS hc;refine yJ hx q (h:=0) d.rt d.sl (.inl rfl) ?_ (by rw[Fh hx.sh];exact d.iY);show qv m a 0 0=_;rw[q.gd.z];rfl
theorem WQ(hS:SL x)(hz:zr x = []){a b c:Int}(hc:x8 10 a b c=0):ke σ x m ⟨10,a,b,c⟩:=by
 have d:=d10 hx hS hz hc;refine⟨.inr ⟨σ,x,m,_,rfl,hx,hS,q,?_,rfl,?_⟩⟩
 .rw[d.iY];show (_,_,_)=(_,(if K0 m a=K0 m b then (1:Int) else 0),_);have:K0 m a=K0 m b↔sd x a=sd x b:=by
   rw[q.said hx,q.said hx];exact⟨λe=>q.gd.VF hx.sh.sr (MW hx.sh.sr q.gd (dV hx.sh a)) (MW hx.sh.sr q.gd (dV hx.sh b)) e,λe=>by rw[e]⟩
  by_cases c':sd x a=sd x b
  .rw[zb c',zb (this.2 c')]
  .rw[za c',za λe=>c' (this.1 e)]
 .rw[q.ro,zm];exact hx.sh.r6
theorem Yd(hS:SL x){a b c:Int}(hc:x8 7 a b c=0):ke σ x m ⟨7,a,b,c⟩:=by
 obtain⟨h,d⟩:=d7 hx hS hc;have hg:m.b7.getD b.toNat cz=wx σ x.b7[b.toNat]:=by
  rw[q.ce,zd,zB,zc h];rfl
 have hp:X4 m ⟨7,a,b,c⟩=if (wx σ x.b7[b.toNat]).Target=0\/(wx σ x.b7[b.toNat]).Intact=false then (m,0,9) else qv m a (wx σ x.b7[b.toNat]).Target 0:=by
  rw[<-hg];rfl
 rcases d with ⟨hi,er⟩ | ⟨hi,d⟩;·exact ib hx q er (by rw[hp,zb (.inr hi)])
 .have hl:=((hx.sh.cl _ h).2.2.2.2 hi).1;refine yJ hx q d.rt d.sl (.inr hl) ?_ d.iY;have h0:σ x.b7[b.toNat].Target≠0:=by have:=q.gd.ps hx.sh.sr hl;omega
  rw[hp,za];·rfl
  .rintro (e | e);·exact h0 e
   .have:x.b7[b.toNat].Intact=false:=e;rw[hi] at this;cases this
theorem Yf(hS:SL x){a b c:Int}(hc:x8 9 a b c=0):ke σ x m ⟨9,a,b,c⟩:=by
 have hR:=hx.sh.sr;have hp0:K0 m b=0->X4 m ⟨9,a,b,c⟩=(m,0,2):=λe=>by
  show (if K0 m b=0 then (m,0,2) else _)=_;rw[zb e]
 have hp1:K0 m b≠0->X4 m ⟨9,a,b,c⟩=match (m.Pairs.find? λp=>p.Key==K0 m b) with
  | none=>(m,0,9)
  | some p=>qv m a p.Val 0:=λe=>by
  show (if K0 m b=0 then (m,0,2) else _)=_;rw[za e]
 rcases d9 hx hS hc with ⟨e,er⟩ | ⟨hl,hno,er⟩ | ⟨hl,v,hv,d⟩;·exact ib hx q er (hp0 ((q.nQ hx b).2 e))
 .have h0:K0 m b≠0:=λe=>eP hR ((q.nQ hx b).1 e▸hl);refine ib hx q er ?_;rw[hp1 h0];have:(m.Pairs.find? λp=>p.Key==K0 m b)=none:=by
   rw[zb4];intro p hp e;obtain⟨k,v,hh,rfl⟩:=(q.p2 p).1 hp;have e:σ k=K0 m b:=by simpa using e
   rw[q.said hx] at e;have:=q.gd.inl hR (hx.sh.pr k v hh).1 hl e;subst this;exact hno v hh
  rw[this]
 .have h0:K0 m b≠0:=λe=>eP hR ((q.nQ hx b).1 e▸hl);have hvl:=(hx.sh.pr _ _ hv).2;refine yJ hx q d.rt d.sl (.inr hvl) ?_ d.iY;rw[hp1 h0];cases hf:(m.Pairs.find? λp=>p.Key==K0 m b) with
  | none=>
   rw[zb4] at hf;have:=hf ⟨σ (sd x b),σ v⟩ ((q.p2 _).2 ⟨_,_,hv,rfl⟩);exact absurd (by rw[q.said hx];simp) this
  | some p=>
   obtain⟨k,u,hh,rfl⟩:=(q.p2 p).1 (List.mem_of_find?_eq_some hf);have e:σ k=K0 m b:=by have:=List.find?_some hf;simpa using this
   rw[q.said hx] at e;have:=q.gd.inl hR (hx.sh.pr k u hh).1 hl e;subst this;rw[Has.fn hx.sh.hr hh hv];rfl
theorem Yb(hS:SL x){a b c:Int}(hc:x8 4 a b c=0):ke σ x m ⟨4,a,b,c⟩:=by
 have hR:=hx.sh.sr;have hp0:K0 m b=0->X4 m ⟨4,a,b,c⟩=(m,0,2):=λe=>by
  show (if K0 m b=0 then (m,0,2) else _)=_;rw[zb e]
 have hp1:sd x b∈lv x.S->X4 m ⟨4,a,b,c⟩=if ¬(0<=c/\c<(ob x.S (sd x b)).Fields.length) then (m,0,5) else qv m a (((ob x.S (sd x b)).Fields.map σ).getD c.toNat 0) 0:=λhl=>by
  have h0:K0 m b≠0:=λe=>eP hR ((q.nQ hx b).1 e▸hl);obtain⟨hf,hfl⟩:=q.HU hx hl;show (if K0 m b=0 then (m,0,2) else match m.Nodes.find? (λn=>n.Serial==K0 m b) with
   | none=>(m,0,2)
   | some n=>if ¬(0<=c/\c<n.Fields.length) then (m,0,5) else qv m a (n.Fields.getD c.toNat 0) 0)=_
  rw[za h0,q.said hx,hf];dsimp only;rw[hfl,zm]
 rcases dV hx.sh b with e0 | hl
 .have er2:Er x ⟨4,a,b,c⟩ 2:=by
   rcases d4 hx hS hc with ⟨_,er⟩ | ⟨e,hf,er⟩ | ⟨hl,_⟩;·exact er
   .rw[e0] at hf;have:e=2:=by
     unfold J2 at hf;have hg:x6 x.S 0=some (z0,2):=by
      have:=xZ (s:=x.S.S) (h:=0) (by decide) (λi hi=>by
       have:=((rn hR).1 hi).KP hR;omega)
      unfold x6;rw[this];rfl
     rw[hg] at hf;have:=zL hf;exact (zX Prod.snd this).symm
    rw[<-this];exact er
   .rw[e0] at hl;exact absurd hl (eP hR)
  exact ib hx q er2 (hp0 ((q.nQ hx b).2 e0))
 .by_cases hcc:0<=c/\c<(ob x.S (sd x b)).Fields.length
  .have hp:=hp1 hl;rw[za (λd=>d hcc)] at hp;rcases d4 hx hS hc with ⟨e,_⟩ | ⟨e,hf,er⟩ | ⟨_,n,rfl,hn,d⟩;·exact absurd (e▸hl) (eP hR)
   .exfalso;obtain⟨n,rfl⟩:∃n:Nat,c=n:=⟨c.toNat,by omega⟩;rw[Ec hR hl (by omega)] at hf;exact er.1 (zX Prod.snd (zL hf)).symm
   .refine yJ hx q d.rt d.sl (hx.sh.fl _ hl _ (zh hn)) ?_ d.iY;rw[hp,zR,zd,zB,zc hn];rfl
  .refine ib hx q (e:=5) ?_ (by rw[hp1 hl,zb hcc]);rcases d4 hx hS hc with ⟨e,_⟩ | ⟨e,hf,er⟩ | ⟨_,n,rfl,hn,d⟩;·exact absurd (e▸hl) (eP hR)
   .have:e=5:=by
     unfold J2 at hf;rw[uW (A0.2 hR) hl,YI,za (by simp),(HS hcc).1] at hf;exact (zX Prod.snd (zL hf)).symm
    rw[<-this];exact er
   .exact absurd ⟨by omega,by omega⟩ hcc
end
section
variable{σ:Int->Int}{x:Hp}{m:a8}(hx:J8 x)(q:p9 σ x m)
include hx q
theorem p9.r6:m.Roots.length=6:=by rw[q.ro,zm];exact hx.sh.r6
theorem Yc(hS:SL x){a b c:Int}(hc:x8 5 a b c=0):ke σ x m ⟨5,a,b,c⟩:=by
 have hR:=hx.sh.sr;have hp0:K0 m a=0->X4 m ⟨5,a,b,c⟩=(m,0,2):=λe=>by
  show (if K0 m a=0 then (m,0,2) else _)=_;rw[zb e]
 have hp1:sd x a∈lv x.S->X4 m ⟨5,a,b,c⟩=if ¬(0<=b/\b<(ob x.S (sd x a)).Fields.length) then (m,0,5) else (xp (fL m (σ (sd x c))) (fE (fL m (σ (sd x c))).Nodes (σ (sd x a)) λj=>We j (((ob x.S (sd x a)).Fields.map σ).set b.toNat (σ (sd x c)))),σ (sd x c),0):=λhl=>by
  have h0:K0 m a≠0:=λe=>eP hR ((q.nQ hx a).1 e▸hl);obtain⟨hf,hfl⟩:=q.HU hx hl;show (if K0 m a=0 then (m,0,2) else AH m (K0 m a) b (K0 m c))=_;rw[za h0,q.said hx,q.said hx];unfold AH;rw[hf];dsimp only;rw[hfl,zm]
 rcases dV hx.sh a with e0 | hl
 .have er2:Er x ⟨5,a,b,c⟩ 2:=by
   rcases d5 hx hS hc with ⟨_,er⟩ | ⟨e,hf,er⟩ | ⟨hl,_⟩;·exact er
   .rw[e0] at hf;have:e=2:=by
     unfold al J2 at hf;have hg:x6 x.S 0=some (z0,2):=by
      have:=xZ (s:=x.S.S) (h:=0) (by decide) (λi hi=>by
       have:=((rn hR).1 hi).KP hR;omega)
      unfold x6;rw[this];rfl
     rw[hg] at hf;have:=zL hf;exact (zX Prod.snd this).symm
    rw[<-this];exact er
   .rw[e0] at hl;exact absurd hl (eP hR)
  exact ib hx q er2 (hp0 ((q.nQ hx a).2 e0))
 .by_cases hcc:0<=b/\b<(ob x.S (sd x a)).Fields.length
  .have hp:=hp1 hl;rw[za (λd=>d hcc)] at hp;have hv:=dV hx.sh c;rcases xJ hx hS (sd x a) b (sd x c) (jP hx.sh a) (jP hx.sh c) with ⟨e,he,f1,_⟩ | ⟨_,_,n,rfl,hn,f0,_⟩
   .exfalso;obtain⟨n,rfl⟩:∃n:Nat,b=n:=⟨b.toNat,by omega⟩;unfold al at f1;rw[Ec hR hl (by omega),YI,za (by simp),M8 hR (jP hx.sh c),YI,zC hv,za (by simp)] at f1;cases g:F9 x (ob x.S (sd x a)).Fields[n] (sd x c) (⟨sd x a,n,sd x c⟩:H2) with
    | none=>rw[g] at f1;cases f1
    | some w=>
     rw[g] at f1;exact he (zX Prod.snd (zL f1)).symm
   .rcases d5 hx hS hc with ⟨e,_⟩ | ⟨e,hf,er⟩ | ⟨_,k,hk,hkn,d⟩;·exact absurd (e▸hl) (eP hR)
    .exfalso;rcases xJ hx hS (sd x a) n (sd x c) (jP hx.sh a) (jP hx.sh c) with ⟨e,he,f1,_⟩ | ⟨_,_,n',h',hn',f1,_⟩
     .rw[f0] at f1;exact he (zX Prod.snd (zL f1)).symm
     .rw[hf] at f1;exact er.1 (zX Prod.snd (zL f1))
    .have:k=n:=by omega
     subst this;refine⟨.inr ⟨σ,_,_,_,hp,d.rt,d.sl,?_,?_,?_,?_⟩⟩
     .rw[zR];exact q.bD hx.sh hx.fair hl hv
     .rw[d.iY,q.bg hx hv]
     .show (fL m _).Progs=_;exact Gb hx q _
     .show (fL m (σ (sd x c))).Roots.length=_;rw[aC];exact (q.r6 hx:m.Roots.length=6)
  .refine ib hx q (e:=5) ?_ (by rw[hp1 hl,zb hcc]);rcases d5 hx hS hc with ⟨e,_⟩ | ⟨e,hf,er⟩ | ⟨_,n,rfl,hn,d⟩;·exact absurd (e▸hl) (eP hR)
   .obtain rfl:e=5:=by
     unfold al J2 at hf;rw[uW (A0.2 hR) hl,YI,za (by simp),(HS hcc).1] at hf;exact (zX Prod.snd (zL hf)).symm
    exact er
   .exact absurd ⟨by omega,by omega⟩ hcc
theorem p9.Yk(k:Int):Sh.wg ⟨m.Tasks,30⟩ k=Sh.wg x.Q k:=by
 rw[zbm,gG,gG];have hk:∀t:e6,(tx σ t).Kind=t.Kind/\(t.Kind=2->(tx σ t).At=t.At):=λt=>by
  unfold tx;split;·rename_i h;exact⟨h.symm,λe=>by omega⟩
  .exact⟨rfl,λ_=>rfl⟩
 constructor
 .rintro⟨u,hu,k1,k2⟩;have hu:u∈x.Q.L.map (tx σ):=by rw[<-q.tk];exact hu
  obtain⟨t,ht,rfl⟩:=zn.1 hu;have:=(hk t).1;exact⟨t,ht,by omega,by rw[<-(hk t).2 (by omega)];exact k2⟩
 .rintro⟨t,ht,k1,k2⟩;refine⟨tx σ t,?_,by rw[(hk t).1];exact k1,by rw[(hk t).2 k1];exact k2⟩;show _∈m.Tasks;rw[q.tk];exact za8 ht
theorem FK(w:Nat)(s call:Int):(Lf m w s call).Progs=m.Progs/\(Lf m w s call).Roots=m.Roots:=by
 unfold Lf DR;split;·exact⟨rfl,rfl⟩
 .split <;> exact⟨rfl,rfl⟩
theorem pre6(hS:SL x){a b c:Int}(hc:x8 6 a b c=0):ke σ x m ⟨6,a,b,c⟩:=by
 have hR:=hx.sh.sr;obtain⟨ha,hb,hcc⟩:=PY hc;have hp:X4 m ⟨6,a,b,c⟩=if 0<=b/\K0 m b=0 then (m,0,2) else if Sh.wg ⟨m.Tasks,30⟩ a=true then (m,0,7) else (Lf m a.toNat (K0 m b) c,K0 m b,0):=rfl
 rw[q.Yk hx,q.said hx] at hp;have hl:=dV hx.sh b;have hz:σ (sd x b)=0↔sd x b=0:=by rw[<-q.said hx];exact q.nQ hx b
 by_cases h0:0<=b/\sd x b=0
 .have er2:Er x ⟨6,a,b,c⟩ 2:=by
   have hm:u4 x ⟨6,a,b,c⟩=_:=Tz hc;unfold L2 at hm;rw[za (by simp;omega),jc hx.sh,YI] at hm;have has:Aq x b=(0,2):=by unfold Aq;rw[zb h0.2]
   rw[has,zb (by simp)] at hm;refine⟨by decide,?_,?_⟩
   .rw[hm,YI];exact kl (e:=2) (by decide)
   .trivial
  exact ib hx q er2 (by rw[hp,zb ⟨h0.1,hz.2 h0.2⟩])
 .rw[za (λd=>h0 ⟨d.1,hz.1 d.2⟩)] at hp;have key:(∃e,R3 x a (sd x b) c=some (x,e)/\Er x ⟨6,a,b,c⟩ e)\/(wg x.Q a=false/\Dn x ⟨6,a,b,c⟩ (cE x a.toNat (sd x b) c) (bg x (sd x b))):=by
   rcases d6 hx hS hc with ⟨e,er⟩ | k | k
   .exfalso;have hb1:b = -1:=by omega
    subst hb1;have hm:u4 x ⟨6,a,-1,c⟩=_:=Tz hc;rw[er.2.1] at hm;unfold L2 at hm;rw[zb (by rfl)] at hm;rcases DE hx a 0 c (by omega) hcc with ⟨e',he',f1,_⟩ | ⟨_,n,rfl,hn,hw,f1,_⟩
    .rw[f1,YI,YI,kl he'] at hm;have:=FI hx ha (.inl rfl) (by omega) hcc f1 he';have:=zX (λp=>p.2.2) (zL hm);dsimp only at this;omega
    .rw[f1,YI,YI] at hm;have:=Sk (a:=(n:Int)) (b:=-1) (c:=c) (z:=cE x n 0 c) (vY hx hn (.inl rfl) hcc hw) (FH hx hS hn _ _) (k:=6) (r:=-1) (x:=x) (.inr ⟨.inl rfl,rfl⟩);dsimp only at hm;rw[this] at hm;have:=zX (λp=>p.2.2) (zL hm);exact absurd (show (2:Int)=0 from this) (by decide)
   .exact .inl k
   .exact .inr k
  rcases key with ⟨e,hf,er⟩ | ⟨hw,d⟩
  .obtain rfl:=FI hx ha hl (jP hx.sh b) hcc hf er.1;refine ib hx q er ?_;rcases DE hx a (sd x b) c (jP hx.sh b) hcc with ⟨e',he',f1,_⟩ | ⟨_,n,rfl,hn,hw,f1,_⟩
   .rw[hp,zb];unfold R3 at hf;obtain⟨n,rfl⟩:∃n:Nat,a=n:=⟨a.toNat,by omega⟩;have c6:=hx.sh.c6;have q30:=hx.sh.q30;have e1:((decide ((n:Int)<0))||(decide ((n:Int)>=(x.b7.length:Int))))=false:=by rw[c6];simp;omega
    rw[e1] at hf;simp only[mt,jG,zcb] at hf;have hwq:aA x.Q n=some (wg x.Q n):=xj (by omega);rw[hwq,YI,M8 hR (jP hx.sh b),YI,zC hl] at hf;cases hw:wg x.Q n
    .exfalso;rw[hw,za (by decide),za (by decide)] at hf;cases g1:jS x.b7 n (sd x b) c with
     | none=>rw[g1] at hf;cases hf
     | some a=>
      rw[g1,YI] at hf;cases g2:aa ⟨x.S,x.Roots,a.1,x.T,x.Q⟩ (sd x b) 1 with
      | none=>rw[g2] at hf;cases hf
      | some b'=>
       rw[g2,YI] at hf;cases g3:aN b' a.2.1 with
       | none=>rw[g3] at hf;cases hf
       | some d=>
        rw[g3,YI] at hf;exact absurd (zX (λp=>p.2) (zL hf)) (by simp)
    .rfl
   .rw[hf] at f1;exact absurd (zX Prod.snd (zL f1)) (by simp)
  .rw[hw,za (by simp)] at hp;refine⟨.inr ⟨σ,_,_,_,hp,d.rt,d.sl,q.cE hx (by omega) hl,by rw[d.iY,q.bg hx hl],?_,?_⟩⟩;·exact (FK hx q ..).1
   .rw[(FK hx q ..).2];exact q.r6 hx
end
section
variable{σ:Int->Int}{x:Hp}{m:a8}(hx:J8 x)(q:p9 σ x m)
include hx q
theorem p9.YC{k:Int}(hk:k∈lv x.S):(m.Pairs.filter λp=>p.Key != σ k).length=(x.T.filter λp=>p.State==1&&p.Key != k).length:=by
 have hR:=hx.sh.sr;rw[((q.perm hx.sh).filter _).length_eq,jH,zaw,zct,zm,zan];congr 1;refine or λp hp=>?_;show ((σ p.Key != σ k)&&(p.State==1))=_;by_cases h1:p.State=1
 .obtain⟨i,hi,rfl⟩:=wt hp;have hh:Has x.T x.T[i].Key x.T[i].Val:=⟨i,⟨hi,by rw[lJ hi];exact h1,by rw[lJ hi]⟩,by rw[lJ hi]⟩;have hl:=(hx.sh.pr _ _ hh).1;by_cases c:x.T[i].Key=k
  .rw[c];simp
  .have:σ x.T[i].Key≠σ k:=λe=>c (q.gd.inl hR hl hk e);have a1:(σ x.T[i].Key != σ k)=true:=bne_iff_ne.2 this;have a2:(x.T[i].Key != k)=true:=bne_iff_ne.2 c;rw[a1,a2,zbf,Bool.and_true]
 .have:(p.State==1)=false:=beq_eq_false_iff_ne.2 h1;rw[this,Bool.and_false,Bool.false_and]
theorem p9.full{k:Int}(hk:k∈lv x.S):m.Places<=((m.Pairs.filter λp=>p.Key != σ k).length:Int)↔(∀i,¬Fk x.T k i)/\∀i,i<x.T.length->(pt x.T i).State=1:=by
 rw[q.YC hx hk,q.npl];have hle:=zy (λp:g5=>p.State==1&&p.Key != k) x.T;constructor
 .intro h;have e:(x.T.filter λp=>p.State==1&&p.Key != k).length=x.T.length:=by omega
  rw[List.length_filter_eq_length_iff] at e;have e':∀i,i<x.T.length->(pt x.T i).State=1/\(pt x.T i).Key≠k:=λi hi=>by
   rw[lJ hi];simpa using e _ (zh hi)
  exact⟨λi hi=>(e' i hi.1).2 hi.2.2,λi hi=>(e' i hi).1⟩
 .rintro⟨h1,h2⟩;have e:(x.T.filter λp=>p.State==1&&p.Key != k).length=x.T.length:=by
   rw[List.length_filter_eq_length_iff];intro p hp;obtain⟨i,hi,rfl⟩:=wt hp;have a:=h2 i hi;have b:(pt x.T i).Key≠k:=λe=>h1 i ⟨hi,a,e⟩;rw[lJ hi] at a b;simp[a,b]
  omega
theorem KJ(s v:Int)(h:¬(v≠0/\m.Places<=((m.Pairs.filter λp=>p.Key != s).length:Int))):wB m s v=(Vv (fL m v) ((m.Pairs.filter λp=>p.Key != s)++if v=0 then [] else [⟨s,v⟩]),v,0):=by
 unfold wB;rw[za h]
theorem Ye(hS:SL x){a b c:Int}(hc:x8 8 a b c=0):ke σ x m ⟨8,a,b,c⟩:=by
 have hR:=hx.sh.sr;have hl:=dV hx.sh b;have hz:σ (sd x b)=0↔sd x b=0:=by rw[<-q.said hx];exact q.nQ hx b
 have hp0:K0 m a=0->X4 m ⟨8,a,b,c⟩=(m,0,2):=λe=>by
  show (if K0 m a=0 then (m,0,2) else _)=_;rw[zb e]
 have hp1:sd x a∈lv x.S->X4 m ⟨8,a,b,c⟩=wB m (σ (sd x a)) (σ (sd x b)):=λha=>by
  have h0:K0 m a≠0:=λe=>eP hR ((q.nQ hx a).1 e▸ha);show (if K0 m a=0 then (m,0,2) else wB m (K0 m a) (K0 m b))=_;rw[za h0,q.said hx,q.said hx]
 rcases d8 hx hS hc with ⟨e,er⟩ | ⟨hk,e,hf,er⟩ | ⟨hk,r,hr,r0,d⟩;·exact ib hx q er (hp0 ((q.nQ hx a).2 e))
 .obtain rfl:=NL hx hS hk hl hf er.1;refine ib hx q er ?_;rw[hp1 hk];unfold wB;rw[zb];have k0:sd x a≠0:=λe=>eP hR (e▸hk);unfold bW at hf;rw[za (by simpa using k0),M8 hR (tu hx hS (.inr hk)),YI,M8 hR (tu hx hS hl),zC (.inr hk),zC hl] at hf;simp only[zck,mt,jG,YI,Bool.or_self,zD,qr] at hf;obtain⟨r,r1,_,_,r5⟩:=dJ hx.sh.hr (sd x a) (sd x b);rw[r1,YI] at hf;have hne:r.2.2≠0:=λh0=>by
   rw[za (by simpa using h0)] at hf;cases g:D6 x r.2.1 (sd x b) ⟨r.1⟩ with
   | none=>rw[g] at hf;cases hf
   | some w=>
    rw[g,YI] at hf;exact absurd (zX (λp=>p.2) (zL hf)) (by simp)
  rcases r5 with ⟨e,rfl⟩ | ⟨_,_,⟨i,hi,rfl⟩ | ⟨_,rfl⟩⟩ | ⟨_,hv,⟨i,hi,rfl⟩ | ⟨d,_,_,_,_,rfl⟩ | ⟨h1,h2,rfl⟩⟩;·exact absurd e k0
  .exact absurd rfl hne
  .exact absurd rfl hne
  .exact absurd rfl hne
  .exact absurd rfl hne
  .exact⟨λe=>hv (hz.1 e),(q.full hx hk).2 ⟨h1,h2⟩⟩
 .have hno:¬(σ (sd x b)≠0/\m.Places<=((m.Pairs.filter λp=>p.Key != σ (sd x a)).length:Int)):=by
   rintro⟨hv,hf⟩;obtain⟨h1,h2⟩:=(q.full hx hk).1 hf;have hv:sd x b≠0:=λe=>hv (hz.2 e);obtain⟨r',r1,_,_,r5⟩:=dJ hx.sh.hr (sd x a) (sd x b);rw[hr] at r1;obtain rfl:=zL r1;rcases r5 with ⟨e,rfl⟩ | ⟨_,e,_⟩ | ⟨_,_,⟨i,hi,rfl⟩ | ⟨j,_,hd,hs,_,rfl⟩ | ⟨_,_,rfl⟩⟩;·exact absurd r0 (by simp)
   .exact hv e
   .exact h1 i hi
   .exact hs (h2 j hd)
   .exact absurd r0 (by simp)
  have hp:=hp1 hk;rw[KJ hx q _ _ hno] at hp;have S:=q.iE hx.sh hx.fair hk hl hr r0;have hif:(if sd x b=0 then ([]:List g7) else [⟨σ (sd x a),σ (sd x b)⟩])=if σ (sd x b)=0 then [] else [⟨σ (sd x a),σ (sd x b)⟩]:=by
   by_cases e:sd x b=0
   .rw[zb e,zb (hz.2 e)]
   .rw[za e,za λf=>e (hz.1 f)]
  rw[hif] at S;refine⟨.inr ⟨σ,_,_,_,hp,d.rt,d.sl,S,by rw[d.iY,q.bg hx hl],?_,?_⟩⟩;·show (fL m _).Progs=_;exact Gb hx q _
  .show (fL m (σ (sd x b))).Roots.length=_;rw[aC];exact (q.r6 hx:m.Roots.length=6)
theorem p9.Vn{i:Nat}(hi:i<x.S.S.b7.length):Ou (Sh.ce x.S i)=0↔(Sh.ce x.S i).State=0:=by
 have hR:=hx.sh.sr;have hc:=hR.cell i hi;unfold Ou;split
 .rename_i t;have:=(hR.ok i hi t).s1;unfold Th at t;omega
 .rename_i t;unfold Th at t;split;·omega
  .omega
theorem p9.XA:m.Slots.length=x.S.S.b7.length:=by rw[q.sl];simp
theorem p9.Yi{i:Nat}(hi:i<m.Slots.length):m.Slots[i]=Ou (Sh.ce x.S i):=by
 have:=q.sl;simp only[this,q9,List.getElem_range]
theorem p9.fst{i:Nat}(h:VM x.S i):m.Slots.findIdx (· == 0)=i:=by
 obtain⟨h1,h2,h3⟩:=h;have hi:i<m.Slots.length:=by rw[q.XA hx];exact h1
 rw[List.findIdx_eq hi];refine⟨?_,λj hj=>?_⟩;·rw[q.Yi hx hi,me];exact (q.Vn hx h1).2 h2
 .rw[q.Yi hx (by omega),beq_eq_false_iff_ne];exact λe=>h3 j hj ((q.Vn hx (by omega)).1 e)
theorem p9.SE(h:∀i,i<x.S.S.b7.length->(Sh.ce x.S i).State≠0):¬m.Slots.findIdx (· == 0)<m.Slots.length:=by
 rw[List.findIdx_lt_length];rintro⟨v,hv,e⟩;obtain⟨i,hi,rfl⟩:=wt hv;have h1:i<x.S.S.b7.length:=by rw[<-q.XA hx];exact hi
 rw[q.Yi hx hi,me] at e;exact h i h1 ((q.Vn hx h1).1 e)
theorem XY(hS:SL x)(hb:x.S.Serial<9223372036854775807){a b c:Int}(hc:x8 1 a b c=0):ke σ x m ⟨1,a,b,c⟩:=by
 have hR:=hx.sh.sr;obtain⟨ha,hbb,hcc⟩:=Tp hc;have hp:X4 m ⟨1,a,b,c⟩=if m.Slots.findIdx (· == 0)<m.Slots.length then (dd (GP m (m.Slots.findIdx (· == 0)) b.toNat c) a.toNat (m.Serial+1),m.Serial+1,0) else (m,0,4):=rfl
 rcases d1 hx hS hb hc with ⟨e,hf,er⟩ | ⟨hn,_,i,hF,d⟩
 .rcases MZ hR hb b c with ⟨h,_⟩ | ⟨_,h,_⟩ | ⟨_,_,h,g⟩ | ⟨_,_,i,_,g⟩;·exact absurd hbb h
  .exact absurd hcc h
  .rw[hf] at g;obtain rfl:e=4:=zX (λp=>p.2.2) (zL g);exact ib hx q er (by rw[hp,za (q.SE hx h)])
  .rw[hf] at g;exact absurd (zX (λp=>p.2.2) (zL g)) er.1
 .obtain⟨hi,h0,_⟩:=id hF;obtain⟨σ',S,e1⟩:=q.mk' hx hi h0 hn hcc;have hy:=yq hx hi h0 hn hcc;have hh:bV x.S i=0\/bV x.S i∈lv (wS x (dm x.S i b.toNat c)).S:=.inr (by
   show _∈lv (dm x.S i b.toNat c);rw[BB hR hi h0 hn hcc];exact t7 _ (zt.2 rfl))
  have S2:=S.G0 (r:=a.toNat) hy.sh hy.fair hh;rw[e1] at S2;rw[q.fst hx hF,zb (by rw[q.XA hx];exact hi),q.se] at hp;refine⟨.inr ⟨σ',_,_,_,hp,d.rt,d.sl,S2,d.iY,?_,?_⟩⟩
  .show (fL (GP m i b.toNat c) (x.S.Serial+1)).Progs=_;rw[aC];rfl
  .show ((GP m i b.toNat c).Roots.set a.toNat _).length=6;rw[zaq];exact (q.r6 hx:m.Roots.length=6)
theorem vl(hS:SL x)(hz:zr x = [])(hb:x.S.Serial<9223372036854775807){o:g8}(hc:x8 o.Kind o.A o.B o.C=0)(hk:o.Kind<=10):ke σ x m o:=by
 obtain⟨k,a,b,c⟩:=o;dsimp only at hc hk;have:=tp hc;have hk:k=1\/k=2\/k=3\/k=4\/k=5\/k=6\/k=7\/k=8\/k=9\/k=10:=by omega
 rcases hk with rfl | rfl | rfl | rfl | rfl | rfl | rfl | rfl | rfl | rfl
 .exact XY hx q hS hb hc
 .exact XZ hx q hS hc
 .exact Ya hx q hS hc
 .exact Yb hx q hS hc
 .exact Yc hx q hS hc
 .exact pre6 hx q hS hc
 .exact Yd hx q hS hc
 .exact Ye hx q hS hc
 .exact Yf hx q hS hc
 .exact WQ hx q hS hz hc
end
theorem TY{l:List Int}(hl:l.length<=1000):H0 l 0=some (if l.findIdx (· == 0)<l.length then (l.findIdx (· == 0):Int) else -1):=by
 unfold H0;simp only[jn];refine fR l.length (λi=>i<=l.findIdx (· == 0)) (by omega) (zV _) (λi hi hik=>?_) (λhlk=>⟨.inr (),by simp,by rw[za (by omega)]⟩);rw[zb (by simpa using hi),s7 hi,YI];rcases zE i (l.findIdx (· == 0)) with c | c
 .left;have:=List.not_of_lt_findIdx c;have h0:l[i]≠0:=by simpa using this
  rw[za (by simpa using λe=>h0 e.symm),n9 (by omega)];exact⟨rfl,c⟩
 .have e:i=l.findIdx (· == 0):=by omega
  right;have hlt:l.findIdx (· == 0)<l.length:=by omega
  have:(l[l.findIdx (· == 0)]==0)=true:=List.findIdx_getElem (w:=hlt) (p:=(· == 0));have h0:l[i]=0:=by simp only[e];simpa using this
  rw[zb (by rw[h0];rfl),zb hlt,e];exact⟨_,rfl,rfl⟩
theorem RY{l:List Int}(hl:l.length<=1000)(k v:Int):lZ l k v=some (if 0<=k/\k<l.length then (l.set k.toNat v,0) else (l,5)):=by
 unfold lZ gE;rw[YI];by_cases c:0<=k/\k<l.length
 .obtain⟨n,rfl⟩:∃n:Nat,k=n:=⟨k.toNat,by omega⟩;have hn:n<l.length:=by omega
  rw[za (by simp;omega),kD (by omega) (by omega),YI];have e:wZ (List.replicate l.length (0:Int)) l=some l:=by
   unfold wZ;rw[zb (by simp)];simp
  rw[e,YI,s7 hn,YI,zb c]
 .rw[za c,zb (by simp;omega)]
theorem Tj(l:List Int)(k:Int):iB l k=some (if 0<=k/\k<l.length then (l.getD k.toNat 0,0) else (0,5)):=by
 by_cases c:0<=k/\k<l.length
 .obtain⟨n,rfl⟩:∃n:Nat,k=n:=⟨k.toNat,by omega⟩;have hn:n<l.length:=by omega
  unfold iB gE;rw[YI,za (by simp;omega),s7 hn,YI,zb c,zR,zd,zc hn];rfl
 .rw[(HS c).1,za c]
theorem QC{l:List k7}{n:Nat}(hn:n<l.length):cy l n=some (if l[n].Target=0\/l[n].Intact=false then (0,9) else (l[n].Target,0)):=by
 unfold cy jT;have:(decide ((n:Int)>=0)&&decide ((n:Int)<(l.length:Int)))=true:=by simp;omega
 rw[this,YI,za (by simp),s7 hn,YI];by_cases q:l[n].Target=0\/l[n].Intact=false
 .rw[zb q,zb (by rcases q with q | q <;> simp[q])]
 .rw[za q,za (by simpa using q)]
section
variable{σ:Int->Int}{x:Hp}{m:a8}(hx:J8 x)(q:p9 σ x m)
include hx q
theorem p9.Xv{h:Int}(hh:h=0\/h∈lv x.S):σ h=0\/∃n,m.Nodes.find? (λn=>n.Serial==σ h)=some n:=by
 rcases hh with e | hl
 .left;rw[e];exact q.gd.z
 .exact .inr ⟨_,(q.HU hx hl).1⟩
theorem EC{a:Int}(ha:0<=a/\a<=5){h:Int}(hh:h=0\/h∈lv x.S):au m a (σ h)=some (kZ (dd m a.toNat (σ h)),⟨σ h,0⟩):=by
 obtain⟨r,rfl⟩:∃r:Nat,a=r:=⟨a.toNat,by omega⟩;have S:=q.G0 (r:=r) hx.sh hx.fair hh;have hz:=bM hx (r:=r) (by omega) hh;have S2:=S.bu hz;have r6:=q.r6 hx;unfold au;rw[yl (q.bn hx.sh.sr) (q.bl hx.sh) (q.Xv hx hh) (by omega),YI,lB hz S,YI,zR];have e:(kZ (dd m r (σ h))).Roots=m.Roots.set r (σ h):=by
  rw[S2.ro,(lU hz).rt,<-S.ro];rfl
 have hl:r<(kZ (dd m r (σ h))).Roots.length:=by rw[e,zaq];omega
 rw[s7 hl,YI];have:(kZ (dd m r (σ h))).Roots[r]=σ h:=by simp only[e,List.getElem_set_self]
 rw[this]
theorem ym{r:Int}(hr:r<=5):R9 m r=some (K0 m r):=by
 have r6:=q.r6 hx;unfold R9 K0;by_cases c:r<0
 .rw[zb (by simpa using c),zb c]
 .obtain⟨n,rfl⟩:∃n:Nat,r=n:=⟨r.toNat,by omega⟩;have hn:n<m.Roots.length:=by omega
  rw[za (by simp),za c,s7 hn,YI,zR,zd,zc hn];rfl
theorem GM{r:Int}(h0:0<=r)(hr:r<=5):ix m.Roots r=some (K0 m r):=by
 have:=ym hx q hr;unfold R9 at this;rw[za (by simp;omega)] at this;cases g:ix m.Roots r with
 | none=>rw[g] at this;cases this
 | some v=>rw[g] at this;exact this
theorem tv{r:Int}(hr:r<=5):(K0 m r=0/\∃z,N8 m r=some (z,2))\/(K0 m r≠0/\sd x r∈lv x.S/\∃n,m.Nodes.find? (λn=>n.Serial==K0 m r)=some n/\n.Serial=K0 m r/\n.Fields=(ob x.S (sd x r)).Fields.map σ/\N8 m r=some (n,0)):=by
 unfold N8;rw[ym hx q hr,YI];by_cases c:K0 m r=0
 .rw[zb (by simpa using c)];exact .inl ⟨c,_,rfl⟩
 .rw[za (by simpa using c)];have hl:=(dV hx.sh r).resolve_left λe=>c ((q.nQ hx r).2 e);obtain⟨hf,hfl⟩:=q.HU hx hl;rw[<-q.said hx] at hf;obtain⟨k,hk,e1,e2⟩:=yj (q.bn hx.sh.sr) hf;rw[e2,YI,s7 hk,YI,e1];exact .inr ⟨c,hl,_,hf,(ly hf).1,hfl,rfl⟩
theorem QI{k a b c:Int}(hc:x8 k a b c=0)(hk:k=2\/k=3\/k=4\/k=7\/k=9):∃v e,bG m ⟨k,a,b,c⟩=some (v,e) /\
  X4 m ⟨k,a,b,c⟩=(if e≠0 then (m,0,e) else (dd m a.toNat v,v,0))/\(e=0->∃h,(h=0\/h∈lv x.S)/\v=σ h):=by
 have r6:=q.r6 hx;rcases hk with rfl | rfl | rfl | rfl | rfl
 .obtain⟨ha,hb⟩:=LR hc;refine⟨K0 m b,0,?_,rfl,λ_=>⟨_,dV hx.sh b,q.said hx b⟩⟩;show ((ix m.Roots b).bind λv1=>some (v1,(0:Int)))=_;rw[GM hx q (by omega) (by omega)];rfl
 .exact⟨0,0,rfl,rfl,λ_=>⟨0,.inl rfl,q.gd.z.symm⟩⟩
 .obtain⟨ha,hb,hcc⟩:=Tq hc;have hp:X4 m ⟨4,a,b,c⟩=if K0 m b=0 then (m,0,2) else match m.Nodes.find? (λn=>n.Serial==K0 m b) with
   | none=>(m,0,2)
   | some n=>if ¬(0<=c/\c<n.Fields.length) then (m,0,5) else qv m a (n.Fields.getD c.toNat 0) 0:=rfl
  have hm:bG m ⟨4,a,b,c⟩=(N8 m b).bind λv2=>if (v2.2 != 0) then some (0,v2.2) else (iB v2.1.Fields c).bind λv3=>some (v3.1,v3.2):=rfl
  rcases tv hx q (r:=b) (by omega) with ⟨h0,z,e⟩ | ⟨h0,hl,n,hn,hs,hf,e⟩
  .refine⟨0,2,?_,?_,λe=>absurd e (by decide)⟩;·rw[hm,e];rfl
   .rw[hp,zb h0];rfl
  .rw[za h0,hn] at hp;dsimp only at hp;rw[e,YI,za (by simp),Tj,YI] at hm;by_cases g:0<=c/\c<n.Fields.length
   .rw[za (λd=>d g)] at hp;rw[zb g] at hm;refine⟨n.Fields.getD c.toNat 0,0,hm,hp,λ_=>?_⟩;have hlen:c.toNat<(ob x.S (sd x b)).Fields.length:=by
     have:=g.2;rw[hf,zm] at this;omega
    refine⟨(ob x.S (sd x b)).Fields[c.toNat],hx.sh.fl _ hl _ (zh hlen),?_⟩;rw[hf,zd,zB,zc hlen];rfl
   .rw[zb g] at hp;rw[za g] at hm;exact⟨0,5,hm,hp,λe=>absurd e (by decide)⟩
 .obtain⟨ha,hb⟩:=Ts hc;obtain⟨n,rfl⟩:∃n:Nat,b=n:=⟨b.toNat,by omega⟩;have c6:=hx.sh.c6;have hnx:n<x.b7.length:=by omega
  have hn:n<m.b7.length:=by rw[q.ce,zm];exact hnx
  have hg:m.b7.getD n cz=m.b7[n]:=by rw[zd,zc hn];rfl
  have hp:X4 m ⟨7,a,n,c⟩=if (m.b7.getD n cz).Target=0\/(m.b7.getD n cz).Intact=false then (m,0,9) else qv m a (m.b7.getD n cz).Target 0:=rfl
  have hm:bG m ⟨7,a,n,c⟩=(cy m.b7 n).bind λv4=>some (v4.1,v4.2):=rfl;rw[hg] at hp;rw[QC hn,YI] at hm;by_cases g:m.b7[n].Target=0\/m.b7[n].Intact=false
  .rw[zb g] at hp hm;exact⟨0,9,hm,hp,λe=>absurd e (by decide)⟩
  .rw[za g] at hp hm;refine⟨_,0,hm,hp,λ_=>⟨x.b7[n].Target,.inr (((hx.sh.cl n hnx).2.2.2.2 ?_).1),?_⟩⟩
   .have:m.b7[n].Intact=x.b7[n].Intact:=by simp only[q.ce,q9];rfl
    rw[<-this];cases hi:m.b7[n].Intact with
    | true=>rfl
    | false=>exact absurd (.inr hi) g
   .simp only[q.ce,q9];rfl
 .obtain⟨ha,hb⟩:=Tu hc;have hp:X4 m ⟨9,a,b,c⟩=if K0 m b=0 then (m,0,2) else match (m.Pairs.find? λp=>p.Key==K0 m b) with
   | none=>(m,0,9)
   | some p=>qv m a p.Val 0:=rfl
  have hm:bG m ⟨9,a,b,c⟩=(N8 m b).bind λv5=>if (v5.2 != 0) then some (0,v5.2) else (O5 m v5.1.Serial).bind λv6=>if (decide ((v6.length:Int) > 0)) then (ix v6 0).bind λv7=>some (v7,0) else some (0,9):=rfl
  rcases tv hx q (r:=b) (by omega) with ⟨h0,z,e⟩ | ⟨h0,hl,n,hn,hs,hf,e⟩
  .refine⟨0,2,?_,?_,λe=>absurd e (by decide)⟩;·rw[hm,e];rfl
   .rw[hp,zb h0];rfl
  .rw[za h0,<-List.head?_filter] at hp;rw[e,YI,za (by simp)] at hm;dsimp only at hm;rw[ED (q.bn hx.sh.sr) (q.bl hx.sh),YI,hs] at hm;cases g:m.Pairs.filter λp=>p.Key==K0 m b with
   | nil=>
    rw[g] at hp hm;exact⟨0,9,hm,hp,λe=>absurd e (by decide)⟩
   | cons p l=>
    rw[g] at hp hm;have hin:p∈m.Pairs:=(zk.1 (g▸zf:p∈m.Pairs.filter λp=>p.Key==K0 m b)).1;obtain⟨k,v,hh,rfl⟩:=(q.p2 p).1 hin;refine⟨σ v,0,?_,hp,λ_=>⟨v,.inr (hx.sh.pr k v hh).2,rfl⟩⟩;rw[hm,zb (by simp)];rfl
end
theorem DZ{m:a8}{o:g8}{e:Int}(h:X4 m o=(m,0,e))(he:e≠0):AB m o=(m,0,e):=by
 unfold AB;rw[h,zb he]
theorem Bf{m mz:a8}{o:g8}{v:Int}(h:X4 m o=(mz,v,0)):AB m o=(kZ mz,v,0):=by
 unfold AB;rw[h,za (by simp)]
section
variable{σ:Int->Int}{x:Hp}{m:a8}(hx:J8 x)(q:p9 σ x m)
include hx q
theorem p9.On(hz:Sh.zr x = []):kZ m=m:=by
 have h1:rM m=m:=BO (by rw[q.zr hx,hz];rfl);have:∀n,gb n m=m:=λn=>by
  induction n with
  | zero=>rfl
  | succ n ih=>rw[jg,ih,h1]
 exact this 100
theorem CK{o:g8}(P:ke σ x m o){W:Option (a8 × Int)}{s:Int}
  (h:W=some ((X4 m o).1,(X4 m o).2.2))(hv:(X4 m o).2.2=0->(X4 m o).2.1=s) :
  (W.bind λv1=>if (v1.2 != 0) then some (m,(⟨0,v1.2⟩:g9)) else (H3 v1.1).bind λv2=>some (v2,(⟨s,0⟩:g9)))=some ((AB m o).1,⟨(AB m o).2.1,(AB m o).2.2⟩):=by
 rw[h,YI];rcases P.r with ⟨e,he,hp,_⟩ | ⟨σ',z,mz,v,hp,hz,_,S,_,_,_⟩;·rw[DZ hp he,hp,zb (by simpa using he)]
 .rw[hp] at hv;rw[Bf hp,hp,za (by simp),lB hz S,YI,<-hv rfl]
theorem MY{a b c:Int}(hc:x8 5 a b c=0):iN m (K0 m c) ⟨5,a,b,c⟩=some ((X4 m ⟨5,a,b,c⟩).1,(X4 m ⟨5,a,b,c⟩).2.2):=by
 obtain⟨ha,hb,hcc⟩:=Tr hc;have hp:X4 m ⟨5,a,b,c⟩=if K0 m a=0 then (m,0,2) else AH m (K0 m a) b (K0 m c):=rfl
 have B:=q.bn hx.sh.sr;have C:=q.bl hx.sh;have hv:=q.Xv hx (dV hx.sh c);rw[<-q.said hx] at hv;unfold iN;dsimp only;rcases tv hx q (r:=a) (by omega) with ⟨h0,z,e⟩ | ⟨h0,hl,n,hn,hs,hf,e⟩;·rw[e,YI,zb (by simp),hp,zb h0]
 .rw[e,YI,za (by simp),hp,za h0];unfold AH;rw[hn];dsimp only;have hfl:=B.fl n (ly hn).2;rw[RY (by omega),YI];by_cases g:0<=b/\b<n.Fields.length
  .rw[zb g,za (by simp),za (λd=>d g),CI B C hv,YI];have hn2:∃n',(fL m (K0 m c)).Nodes.find? (λk=>k.Serial==n.Serial)=some n':=by
    rw[hs];unfold fL;split
    .cases hh:(uf m (K0 m c)).Nodes.find? (λk=>k.Serial==K0 m a) with
     | some n'=>exact⟨n',rfl⟩
     | none=>
      exfalso;rw[zb4] at hh;have hin:=(ly hn).2;have:(if n.Serial=K0 m c then Dv n else n)∈(uf m (K0 m c)).Nodes:=by
       show _∈fE m.Nodes (K0 m c) Dv;exact za8 hin
      have hse:(if n.Serial=K0 m c then Dv n else n).Serial=K0 m a:=by
       split;·exact hs
       .exact hs
      exact hh _ this (me.2 hse)
    .exact⟨n,hn⟩
   obtain⟨n',hn2⟩:=hn2;rw[Uk (B.fL _) hn2,YI,hs]
  .rw[za g,zb (by simp),zb g]
theorem Un{a b c:Int}(hc:x8 6 a b c=0):fg m (K0 m b) ⟨6,a,b,c⟩=some ((X4 m ⟨6,a,b,c⟩).1,(X4 m ⟨6,a,b,c⟩).2.2):=by
 obtain⟨ha,hb,hcc⟩:=PY hc;have hp:X4 m ⟨6,a,b,c⟩=if 0<=b/\K0 m b=0 then (m,0,2) else if Sh.wg ⟨m.Tasks,30⟩ a=true then (m,0,7) else (Lf m a.toNat (K0 m b) c,K0 m b,0):=rfl
 have B:=q.bn hx.sh.sr;have C:=q.bl hx.sh;have tl:=C.tl;have wl:=C.wl;have c6:m.b7.length=6:=by rw[q.ce,zm,hx.sh.c6]
 obtain⟨n,rfl⟩:∃n:Nat,a=n:=⟨a.toNat,by omega⟩;have hn:n<m.b7.length:=by omega
 unfold fg;dsimp only;by_cases g:0<=b/\K0 m b=0
 .rw[zb (by simp[g.1,g.2]),hp,zb g]
 .rw[za (by simpa using g),hp,za g,yn,YI,show aA (⟨m.Tasks,30⟩:j5) (n:Int)=some (Sh.wg ⟨m.Tasks,30⟩ n) from xj (q:=⟨m.Tasks,30⟩) (by show m.Tasks.length<=1000;omega),YI];cases hw:Sh.wg ⟨m.Tasks,30⟩ (n:Int)
  .rw[za (by simp),za (by simp),FJ (by omega) hn,YI,za (by simp)];dsimp only;have hg:m.b7.getD n cz=m.b7[n]:=by rw[zd,zc hn];rfl
   rw[yk (m:=RX m (m.b7.set n (fD (K0 m b) c))) ⟨B.nl,B.up,B.fl,B.sg,B.gg,B.gl⟩ ⟨C.rl,by show (m.b7.set n _).length<=30;rw[zaq];exact C.wl,C.pa,C.tl⟩,YI,zR];unfold Lf;rw[hg]
  .rw[zb rfl,zb rfl]
theorem MX{a b c:Int}(hc:x8 8 a b c=0):iM m (K0 m b) ⟨8,a,b,c⟩=some ((X4 m ⟨8,a,b,c⟩).1,(X4 m ⟨8,a,b,c⟩).2.2):=by
 obtain⟨ha,hb⟩:=Tt hc;have hp:X4 m ⟨8,a,b,c⟩=if K0 m a=0 then (m,0,2) else wB m (K0 m a) (K0 m b):=rfl
 have B:=q.bn hx.sh.sr;have C:=q.bl hx.sh;have pa:=C.pa;have hv:=q.Xv hx (dV hx.sh b);rw[<-q.said hx] at hv;unfold iM;dsimp only;rcases tv hx q (r:=a) (by omega) with ⟨h0,z,e⟩ | ⟨h0,hl,n,hn,hs,hf,e⟩;·rw[e,YI,zb (by simp),hp,zb h0]
 .rw[e,YI,za (by simp),hp,za h0];have hpk:C8 m.Pairs n=some (m.Pairs.filter λp=>p.Key != n.Serial):=by
   unfold C8;exact iO (P:=λp=>fe p n) (λp _=>rfl) (by omega) (by omega) (by omega)
  rw[hpk,YI,hs];unfold wB;have hfl:=zy (λp:g7=>p.Key != K0 m a) m.Pairs;by_cases v0:K0 m b=0
  .rw[zb (by simpa using v0),za (λd=>d.1 v0),zb v0,zay];unfold fL;rw[za (λd=>d.1 v0)]
  .rw[za (by simpa using v0)];by_cases g:m.Places<=((m.Pairs.filter λp=>p.Key != K0 m a).length:Int)
   .rw[zb (by simpa using g),zb ⟨v0,g⟩]
   .rw[za (by simpa using g),za (λd=>g d.2),CI B C hv,YI,Gc (by omega) (ID (m:=100) (by omega) (by omega) (by omega)),YI,za v0]
theorem Kv(hS:SL x)(hb:x.S.Serial<9223372036854775807){a b c:Int}(hc:x8 1 a b c=0):cY m ⟨1,a,b,c⟩=some ((AB m ⟨1,a,b,c⟩).1,⟨(AB m ⟨1,a,b,c⟩).2.1,(AB m ⟨1,a,b,c⟩).2.2⟩):=by
 obtain⟨ha,hbb,hcc⟩:=Tp hc;have hR:=hx.sh.sr;have B:=q.bn hR;have hp:X4 m ⟨1,a,b,c⟩=if m.Slots.findIdx (· == 0)<m.Slots.length then (dd (GP m (m.Slots.findIdx (· == 0)) b.toNat c) a.toNat (m.Serial+1),m.Serial+1,0) else (m,0,4):=rfl
 obtain⟨n,rfl⟩:∃n:Nat,b=n:=⟨b.toNat,by omega⟩;have gl:=B.gl;have nl:=B.nl;unfold cY;have hv:qg (⟨1,a,(n:Int),c⟩:g8).B=some (List.replicate n 0,0):=by
  unfold qg;rw[za (by simp;omega)];show ((mk 8 (n:Int) (0:Int)).bind _)=_;rw[kD (by omega) (by omega),YI]
 rw[hv,YI,za (by simp),TY (by omega),YI];rcases MZ hR hb n c with ⟨h,_⟩ | ⟨_,h,_⟩ | ⟨_,_,h,g⟩ | ⟨_,_,i,hF,g⟩;·exact absurd hbb h
 .exact absurd hcc h
 .have:=q.SE hx h;rw[za this] at hp |-;rw[zb (by simp),DZ hp (by decide)]
 .obtain⟨hi,h0,_⟩:=id hF;have hsi:i<m.Slots.length:=by rw[q.XA hx];exact hi
  have hn:n<=4:=by omega
  rw[q.fst hx hF,zb hsi] at hp |-;rw[zR] at hp;rw[Bf hp,za (by simp)];have hs':=hR.bg;have hw:w7 (m.Serial+1)=m.Serial+1:=by rw[q.se];exact O9 (by omega) (by omega)
  have hc1:y5 m.Slots=some m.Slots:=dj (by omega) (ID (m:=30) (by omega) (by omega) (by omega));have hc2:p8 m.Nodes=some m.Nodes:=dj (by omega) (ID (m:=30) (by omega) (by omega) (by omega));rw[hc1,YI,s7 hsi,YI,hc2,YI,hw,Gc (by omega) (ID (m:=100) (by omega) (by omega) (by omega)),YI,zR];obtain⟨σ',S,e1⟩:=q.mk' hx hi h0 hn hcc;have hy:=yq hx hi h0 hn hcc;have hh:bV x.S i=0\/bV x.S i∈lv (wS x (dm x.S i n c)).S:=.inr (by
   show _∈lv (dm x.S i n c);rw[BB hR hi h0 hn hcc];exact t7 _ (zt.2 rfl))
  have T:=EC hy S ha hh;rw[e1,<-q.se] at T;dsimp only;rw[show au ⟨m.Nodes ++ [⟨m.Serial+1,i,c,false,true,false,List.replicate n 0⟩],m.Slots.set i (m.Serial+1),m.Gens,m.Last,m.Places,m.Serial+1,m.Roots,m.b7,m.Pairs,m.Tasks,m.Progs⟩ a (m.Serial+1)=_ from T,YI]
theorem Uj(hS:SL x)(hz:zr x = [])(hb:x.S.Serial<9223372036854775807){o:g8}(hc:x8 o.Kind o.A o.B o.C=0)(hk:o.Kind<=10):bH m o=some ((AB m o).1,⟨(AB m o).2.1,(AB m o).2.2⟩):=by
 have P:=vl hx q hS hz hb hc hk;obtain⟨k,a,b,c⟩:=o;dsimp only at hc hk;have:=tp hc;have asks:(k=2\/k=3\/k=4\/k=7\/k=9)->(0<=a/\a<=5)->bH m ⟨k,a,b,c⟩=((bG m ⟨k,a,b,c⟩).bind λv10=>if (v10.2 != 0) then some (m,(⟨0,v10.2⟩:g9)) else (au m a v10.1).bind λv11=>some (v11.1,v11.2))->bH m ⟨k,a,b,c⟩=some ((AB m ⟨k,a,b,c⟩).1,⟨(AB m ⟨k,a,b,c⟩).2.1,(AB m ⟨k,a,b,c⟩).2.2⟩):=λhk ha e=>by
  obtain⟨v,er,h1,h2,h3⟩:=QI hx q hc hk;rw[e,h1,YI];by_cases g:er=0
  .obtain⟨h,hh,rfl⟩:=h3 g;rw[za (by simp[g])] at h2 |-;dsimp only;rw[EC hx q ha hh,YI,Bf h2]
  .rw[zb g] at h2;rw[zb (by simpa using g),DZ h2 g]
 have hk:k=1\/k=2\/k=3\/k=4\/k=5\/k=6\/k=7\/k=8\/k=9\/k=10:=by omega
 rcases hk with rfl | rfl | rfl | rfl | rfl | rfl | rfl | rfl | rfl | rfl
 .show ((cY m ⟨1,a,b,c⟩).bind λv9=>some (v9.1,v9.2))=_;rw[Kv hx q hS hb hc];rfl
 .exact asks (by simp) (LR hc).1 rfl
 .exact asks (by simp) (VS hc) rfl
 .exact asks (by simp) (Tq hc).1 rfl
 .show ((R9 m c).bind λv3=>(J5 m v3 ⟨5,a,b,c⟩).bind λv4=>some (v4.1,v4.2))=_;rw[ym hx q (by have:=Tr hc;omega),YI];unfold J5;rw[CK hx q P (MY hx q hc)];·rfl
  .show (if K0 m a=0 then (m,0,2) else AH m (K0 m a) b (K0 m c)).2.2=0->(if K0 m a=0 then (m,0,2) else AH m (K0 m a) b (K0 m c)).2.1=K0 m c;unfold AH;split;·exact λe=>absurd (show (2:Int)=0 from e) (by decide)
   .split;·exact λe=>absurd (show (2:Int)=0 from e) (by decide)
    .split;·exact λe=>absurd (show (5:Int)=0 from e) (by decide)
     .exact λ_=>rfl
 .show ((R9 m b).bind λv3=>(I1 m v3 ⟨6,a,b,c⟩).bind λv4=>some (v4.1,v4.2))=_;rw[ym hx q (by have:=PY hc;omega),YI];unfold I1;rw[CK hx q P (Un hx q hc)];·rfl
  .show (if 0<=b/\K0 m b=0 then (m,0,2) else if Sh.wg ⟨m.Tasks,30⟩ a=true then (m,0,7) else (Lf m a.toNat (K0 m b) c,K0 m b,0)).2.2=0->(if 0<=b/\K0 m b=0 then (m,0,2) else if Sh.wg ⟨m.Tasks,30⟩ a=true then (m,0,7) else (Lf m a.toNat (K0 m b) c,K0 m b,0)).2.1=K0 m b;split;·exact λe=>absurd (show (2:Int)=0 from e) (by decide)
   .split;·exact λe=>absurd (show (7:Int)=0 from e) (by decide)
    .exact λ_=>rfl
 .exact asks (by simp) (Ts hc).1 rfl
 .show ((R9 m b).bind λv3=>(J4 m v3 ⟨8,a,b,c⟩).bind λv4=>some (v4.1,v4.2))=_;rw[ym hx q (by have:=Tt hc;omega),YI];unfold J4;rw[CK hx q P (MX hx q hc)];·rfl
  .show (if K0 m a=0 then (m,0,2) else wB m (K0 m a) (K0 m b)).2.2=0->(if K0 m a=0 then (m,0,2) else wB m (K0 m a) (K0 m b)).2.1=K0 m b;unfold wB;split;·exact λe=>absurd (show (2:Int)=0 from e) (by decide)
   .split;·exact λe=>absurd (show (8:Int)=0 from e) (by decide)
    .exact λ_=>rfl
 .exact asks (by simp) (Tu hc).1 rfl
 .obtain⟨ha,hb⟩:=Sj hc;have hp:X4 m ⟨10,a,b,c⟩=(m,if K0 m a=K0 m b then 1 else 0,0):=rfl;show ((ix m.Roots a).bind λv1=>(ix m.Roots b).bind λv2=>if (v1==v2) then some (m,(⟨1,0⟩:g9)) else some (m,(⟨0,0⟩:g9)))=_;rw[GM hx q ha.1 ha.2,YI,GM hx q hb.1 hb.2,YI,Bf hp,q.On hx hz];by_cases g:K0 m a=K0 m b
  .rw[zb (by simpa using g),zb g]
  .rw[za (by simpa using g),za g]
theorem p9.iY(hS:SL x)(hz:Sh.zr x = [])(hb:x.S.Serial<9223372036854775807){o:g8}(hc:x8 o.Kind o.A o.B o.C=0)(hk:o.Kind<=10):(∃σ',p9 σ' (Sh.iY x o).1 (AB m o).1)/\(AB m o).2=(Sh.iY x o).2:=by
 rcases (vl hx q hS hz hb hc hk).r with ⟨e,he,hp,hd⟩ | ⟨σ',z,mz,v,hp,hzr,_,S,hd,_,_⟩;·rw[DZ hp he,hd];exact⟨⟨σ,q⟩,rfl⟩
 .rw[Bf hp,hd];have S2:=S.bu hzr;generalize Sh.bu z=y at S2 |-;generalize kZ mz=my at S2 |-;exact⟨⟨σ',S2⟩,rfl⟩
end
def Um(m:a8):Prop:=∀c∈m.b7,∀n∈m.Nodes,n.Alive=true->n.Serial=c.Target->c.Intact=true
def NS(l l':List b8):Prop:=∀n'∈l',n'.Alive=true->∃n∈l,n.Alive=true/\n.Serial=n'.Serial
theorem NS.refl(l:List b8):NS l l:=λn h a=>⟨n,h,a,rfl⟩
theorem NS.trans{a b c:List b8}(h:NS a b)(k:NS b c):NS a c:=λn hn ha=>by
 obtain⟨n1,h1,a1,e1'⟩:=k n hn ha;obtain⟨n2,h2,a2,e2'⟩:=h n1 h1 a1;exact⟨n2,h2,a2,e2'.trans e1'⟩
theorem NS.fE(l:List b8)(s:Int){f:b8->b8}(hf:∀n,(f n).Serial=n.Serial/\((f n).Alive=true->n.Alive=true)):NS l (Sh.fE l s f):=λn' hn ha=>by
 obtain⟨n,h,rfl⟩:=zn.1 hn;by_cases c:n.Serial=s
 .rw[zb c] at ha |-;exact⟨n,h,(hf n).2 ha,(hf n).1.symm⟩
 .rw[za c] at ha |-;exact⟨n,h,ha,rfl⟩
theorem NS.fL(m:a8)(s:Int):NS m.Nodes (Sh.fL m s).Nodes:=by
 unfold Sh.fL;split;·exact NS.fE _ _ λn=>⟨rfl,id⟩
 .exact NS.refl _
theorem NS.DR(m:a8)(s:Int):NS m.Nodes (Sh.DR m s).Nodes:=by
 unfold Sh.DR;split;·exact NS.refl _
 .split;·exact NS.refl _
  .exact λn hn ha=>⟨n,(zk.1 hn).1,ha,rfl⟩
theorem JV(m:a8)(s:Int):(DR m s).b7=m.b7:=by
 unfold DR;split;·rfl
 .split <;> rfl
theorem Um.of{m m':a8}(h:Um m)(hc:m'.b7=m.b7)(hn:NS m.Nodes m'.Nodes):Um m':=λc hcm n' hn' ha e=>by
 obtain⟨n,h1,h2,h3⟩:=hn n' hn' ha;rw[hc] at hcm;exact h c hcm n h1 h2 (h3.trans e)
theorem pJ(m:a8)(s:Int):(fL m s).b7=m.b7:=by rw[aC]
theorem Um.Xz{m:a8}(h:Um m)(r:Nat)(s:Int):Um (dd m r s):=h.of (show (fL m s).b7=_ from pJ m s) (NS.fL m s)
theorem Um.Yt{m:a8}(h:Um m)(s:Int):Um (qu m s):=h.of (show (fL m s).b7=_ from pJ m s) ((NS.fL m s).trans (NS.fE _ _ λn=>⟨rfl,id⟩))
theorem Um.Yj{l:List Int}:∀ {m:a8},Um m->Um (l.foldl qu m):=by
 induction l with
 | nil=>exact λh=>h
 | cons s l ih=>exact λh=>ih (h.Yt s)
theorem Ue(m:a8)(s:Int):NS m.Nodes (qI m s).Nodes/\∀n∈(qI m s).Nodes,n.Alive=true->n.Serial≠s:=by
 refine⟨(NS.fE m.Nodes s (f:=lr) λn=>⟨rfl,λh=>by cases h⟩).trans (NS.DR (xp m (fE m.Nodes s lr)) s),λn hn ha e=>?_⟩;have:NS (fE m.Nodes s lr) (qI m s).Nodes:=NS.DR (xp m (fE m.Nodes s lr)) s;obtain⟨n1,h1,a1,e1'⟩:=this n hn ha;obtain⟨n2,h2,rfl⟩:=zn.1 h1;by_cases c:n2.Serial=s
 .rw[zb c] at a1;cases a1
 .rw[za c] at e1';exact c (e1'.trans e)
theorem IB:∀(S:List Int) (m:a8),NS m.Nodes (S.foldl qI m).Nodes/\(∀n∈(S.foldl qI m).Nodes,n.Alive=true->n.Serial∉S)/\(S.foldl qI m).b7=m.b7
 | [],m=>⟨NS.refl _,λ_ _ _=>by simp,rfl⟩
 | s::S,m=>by
  obtain⟨a,b,c⟩:=IB S (qI m s);obtain⟨k1,k2⟩:=Ue m s;rw[zaj];refine⟨k1.trans a,λn hn ha h=>?_,c.trans (yg m s).2.1⟩;rcases zN.1 h with e | e
  .obtain⟨n1,h1,a1,e1'⟩:=a n hn ha;exact k2 n1 h1 a1 (e1'.trans e)
  .exact b n hn ha e
theorem Um.Yo{m:a8}(h:Um m)(S:List Int):Um (Ay m S):=λc hc n hn ha e=>by
 obtain⟨a,b,c'⟩:=IB S (Vv (FD (RX m (lk m.b7 S)) (m.Tasks++jm m.b7 S)) (m.Pairs.filter λp=>decide (p.Key∉S)));have hc:c∈lk m.b7 S:=by rw[<-show (Ay m S).b7=lk m.b7 S from c'];exact hc
 obtain⟨d,hd,rfl⟩:=zn.1 hc;rw[(ow S d).1] at e;obtain⟨n1,h1,a1,e1'⟩:=a n hn ha;have hi:=h d hd n1 h1 a1 (e1'.trans e);refine (ow S d).2.2.2 ⟨hi,?_⟩;unfold iJ;have:d.Target∉S:=λk=>b n hn ha (e▸k);simp[this]
theorem Um.kZ{m:a8}(h:Um m):Um (kZ m):=by
 have h1:∀m:a8,Um m->Um (rM m):=λm h=>by
  unfold rM;split;·exact h
  .split;·exact h.Yt _
   .exact h.Yo _
 have:∀n,Um (gb n m):=λn=>by
  induction n with
  | zero=>exact h
  | succ n ih=>rw[jg];exact h1 _ ih
 exact this 100
section
variable{σ:Int->Int}{x:Hp}{m:a8}(hx:J8 x)(q:p9 σ x m)
include hx q
theorem Um.wk(h:Um m)(w:Nat)(s call:Int):Um (Lf m w s call):=by
 unfold Lf;have h1:Um (RX m (m.b7.set w (fD s call))):=λc hc n hn ha e=>by
  rcases zav hc with k | k
  .exact h c k n hn ha e
  .subst k;have:=(q.nd.pos hx.sh.sr hn).1;have e:n.Serial=s:=e;show (s != 0)=true;have:s≠0:=by omega
   simpa using this
 exact h1.of (JV _ _) (NS.DR _ _)
theorem Um.new(h:Um m)(i n:Nat)(p:Int):Um (GP m i n p):=λc hc k hk ha e=>by
 rcases zw.1 hk with k1 | k1
 .exact h c hc k k1 ha e
 .exfalso;rw[zt] at k1;subst k1;have e:m.Serial+1=c.Target:=e;have hc:c∈x.b7.map (wx σ):=by rw[<-q.ce];exact hc
  obtain⟨d,hd,rfl⟩:=zn.1 hc;have e:m.Serial+1=σ d.Target:=e;have hs:=hx.sh.sr.bg;have hse:=q.se;rcases lj hx.sh hd with z | ⟨j,a⟩
  .rw[z,q.gd.z] at e;omega
  .rw[q.gd.f _ j a] at e;have:=(hx.sh.sr.ok j a.1 a.2.1).s2;omega
theorem Um.YG(h:Um m)(a s e:Int):Um (qv m a s e).1:=by
 unfold qv;split;·exact h
 .exact h.Xz _ _
omit hx q in
theorem dY {c:Prop} [Decidable c] {a b:a8 × Int × Int} (ha:Um a.1) (hb:Um b.1):Um (if c then a else b).1:=by
 by_cases k:c
 .rw[zb k];exact ha
 .rw[za k];exact hb
theorem Um.VD(h:Um m)(s k v:Int):Um (AH m s k v).1:=by
 unfold AH;split;·exact h
 .exact dY h (h.of (show (fL m v).b7=_ from pJ m v) ((NS.fL m v).trans (NS.fE _ _ λn=>⟨rfl,id⟩)))
theorem Um.VH(h:Um m)(s v:Int):Um (wB m s v).1:=dY h (h.of (show (fL m v).b7=_ from pJ m v) (NS.fL m v))
theorem Um.pre(h:Um m)(o:g8):Um (X4 m o).1:=by
 have t:=λa s e=>h.YG hx q a s e;refine dY h (dY (dY h (h.VD hx q _ _ _)) (dY (dY h (dY h (h.wk hx q _ _ _))) (dY (dY h (h.VH hx q _ _)) (dY (dY ((h.new hx q _ _ _).Xz _ _) h) (dY (t _ _ _) (dY (dY h ?_) (dY (dY h (t _ _ _)) (dY (dY h ?_) (t _ _ _)))))))))
 .split;·exact h
  .exact dY h (t _ _ _)
 .split;·exact h
  .exact t _ _ _
theorem Um.do(h:Um m)(o:g8):Um (AB m o).1:=by
 have hp:=h.pre hx q o;unfold AB;generalize X4 m o=r at hp |-;by_cases k:r.2.2≠0
 .rw[zb k];exact h
 .rw[za k];have h2:=hp.kZ;generalize Sh.kZ r.1=M at h2 |-;exact h2
end
theorem EB{σ:Int->Int}{x:Hp}{m:a8}(hx:J8 x)(hS:SL x)(hz:Sh.zr x = [])(q:p9 σ x m):∃m',dp m=some (m',⟨LP x-((jW x).length:Int),0⟩)/\p9 σ (As x) m'/\m'.Progs=m.Progs/\(Um m->Um m'):=by
 have hR:=hx.sh.sr;have B:=q.bn hR;have C:=q.bl hx.sh;obtain⟨mp,h1,h2⟩:=Kx (λs r=>Rv hx q r) B C (λn hn=>by have:=q.nd.pos hR hn;omega) (λp hp=>by
  obtain⟨k,v,hh,rfl⟩:=(q.p2 p).1 hp;have:=q.gd.ps hR (hx.sh.pr k v hh).1;show σ k≠0;omega)
 have hgl:(dz x).length<=24:=zP (Y9 (eG hx) (cI hx)) (M0 (A0.2 hR));have hbl:(jW x).length<=24:=zP (zy ..) hgl;have hbs:I5 ((jW x).map λh=>Sh.nd σ x.S (D3 h))=some ((jW x).map σ):=by
  rw[uX (by rw[zm];omega),IJ hx q λh hh=>(mB h hh).1]
 have hgs:I5 ((dz x).map λh=>Sh.nd σ x.S (D3 h))=some ((dz x).map σ):=by
  rw[uX (by rw[zm];omega),IJ hx q (cI hx)]
 have hpo:D0 ((dz x).map λh=>Sh.nd σ x.S (D3 h))=some ((jW x).map λh=>Sh.nd σ x.S (D3 h)):=by
  unfold D0;rw[<-JX hx q];exact iO (λn _=>rfl) (by omega) (by omega) (by rw[zm];omega)
 have QL:=p9.Yg hx hS hz q (xA hx) mB (jW x).length (zG _);rw[zQ] at QL;unfold dp;rw[h1,YI,Kw hx q h2,YI,hpo,YI,hbs,YI];by_cases hb:jW x = []
 .have hcol:As x=gH x (dz x):=by unfold As;rw[zb hb]
  have Qb:=q.gH hx (eG hx) (cI hx) (Ej hx q);have hrb:=dO hx;have Qs:=Qb.bu hrb;rw[xV hx,<-hcol] at Qs;refine⟨_,?_,Qs,by rw[xh,HX],λh=>(h.Yo _).kZ⟩;refine (yV hx hS hz q hbl (xA hx) mB).trans ?_;simp only[];have hv:LP x-((jW x).length:Int)=w7 (((RI x).length:Int)-((RI (As x)).length:Int)):=by
   have l1:(lv x.S).length<=24:=M0 (A0.2 hR);have l2:(lv (As x).S).length<=24:=by rw[hcol];exact M0 (A0.2 hrb.sh.sr)
   unfold LP;rw[zb hb,hb,Ov,Ov,vC (by omega) (by omega)];simp
  rw[hb,List.map_nil,List.foldl_nil,za (by simp),hgs,YI,EA hx q (eG hx) (cI hx) (Ej hx q),YI,lB hrb Qb,YI,II hR q,YI,II (by rw[hcol];exact hrb.sh.sr) Qs,YI];rw[hb] at hv;rw[<-hv]
 .have hcol:As x=(jW x).foldl gC x:=by unfold As;rw[za hb]
  refine⟨_,?_,by rw[hcol];exact QL,RK _ _,λh=>h.Yj⟩;refine (yV hx hS hz q hbl (xA hx) mB).trans ?_;have hpos:0<(jW x).length:=List.length_pos_iff.2 hb;simp only[];rw[zb (by rw[zm];simpa using hpos),zm,vC (by omega) (by omega)];unfold LP;rw[za hb]
def Pg(ps:List (List g8)):Prop:=Mp ps/\∀p∈ps,∀o∈p,x8 o.Kind o.A o.B o.C=0/\o.Kind<=10
theorem WO{l:List (List g8)}(h:fi l=true):Pg l:=by
 unfold fi at h;rw[zA,zg] at h;have key:∀p∈l,p.length<=6/\∀o∈p,oZ o=true:=λp hp=>by
  have:=h.2 p hp;unfold tP at this;rw[zA,zH,zg] at this;exact this
 refine⟨λp hp=>(key p hp).1,λp hp o ho=>?_⟩;have:=(key p hp).2 o ho;unfold oZ at this;simp only[zA,zH,me] at this;exact⟨this.2,this.1.2⟩
theorem Pg.ER{ps:List (List g8)}(h:Pg ps)(n:Int):∀o∈Sh.ER ps n,x8 o.Kind o.A o.B o.C=0/\o.Kind<=10:=by
 intro o ho;unfold Sh.ER at ho;split at ho;·cases ho
 .rename_i c;have hk:n.toNat<ps.length:=by omega
  rw[zd,zc hk] at ho;exact h.2 _ (zh hk) o ho
theorem p9.uC{σ:Int->Int}{x:Hp}{m:a8}(q:p9 σ x m)(ts:List e6):p9 σ (Sh.uC x ts) (FD m (ts.map (tx σ))):=
 ⟨q.gd,q.nd,q.sl,q.ge,q.la,q.npl,q.se,q.ro,q.ce,q.p1,q.p2,rfl⟩
def wJ(ps:List (List g8))(x:Hp)(m:a8):Prop:=(∃σ,p9 σ x m)/\m.Progs=ps/\Um m
section
variable{ps:List (List g8)}{x:Hp}{m:a8}(hx:Oh x)(g:wJ ps x m)
include hx g
theorem It(hb:x.S.Serial<9223372036854775807){o:g8}(hc:x8 o.Kind o.A o.B o.C=0)(hk:o.Kind<=10):∃m',bH m o=some (m',⟨(iY x o).2.1,(iY x o).2.2⟩)/\wJ ps (iY x o).1 m':=by
 obtain⟨⟨σ,q⟩,hp,hu⟩:=g;obtain⟨S,e⟩:=q.iY hx.rt hx.sl hx.zr hb hc hk;refine⟨(AB m o).1,?_,S,?_,hu.do hx.rt q o⟩;·rw[Uj hx.rt q hx.sl hx.zr hb hc hk,e]
 .rcases (vl hx.rt q hx.sl hx.zr hb hc hk).r with ⟨e,he,hp',_⟩ | ⟨σ',z,mz,v,hp',_,_,_,_,hpr,_⟩;·rw[DZ hp' he];exact hp
  .rw[Bf hp'];show (kZ mz).Progs=ps;rw[xh,hpr,hp]
theorem TN{l:List g8}(hl:∀o∈l,x8 o.Kind o.A o.B o.C=0/\o.Kind<=10)(hl2:l.length<=1000)(hb:x.S.Serial+l.length<9223372036854775807):∃m',ja m l=some m'/\wJ ps (runs x l).1 m':=by
 have all:=yM hx.rt hx.sl hx.zr l hb (λ_=>True) trivial (λ_ _ _ _ _ _=>trivial);unfold ja;simp only[jn];obtain⟨e,h1,h2⟩:∃e,lp (S:=Int × a8) (E:=a8) (λ((s11,s12):Int × a8)=>
   if (decide (s11<(l.length:Int))) then
    (ix l s11).bind λv15=>
    (bH s12 v15).bind λv16=>
    some (.inl (w7 (s11+1),v16.1))
   else
   some (.inr s12)) (0,m)=some e/\wJ ps (runs x l).1 e:=by
  refine jx l.length (λk t=>wJ ps (runs x (l.take k)).1 t) (λe=>wJ ps (runs x l).1 e) (by omega) g (λk t hk hP=>?_) (λt hP=>⟨t,?_,?_⟩)
  .obtain⟨a1,a2,a3,a4,a5,_⟩:=all k (by omega);obtain⟨hc,hk'⟩:=hl _ (zh hk);obtain⟨m',e1',e2'⟩:=It ⟨a1,a2,a3⟩ hP (by omega) hc hk';refine .inl ⟨m',?_,?_⟩
   .dsimp only;rw[zb (by simpa using hk),s7 hk,YI,e1',YI,n9 (n:=k) (by omega)]
   .rw[U2 hk,pZ];exact e2'
  .dsimp only;rw[za (by simp)]
  .rw[zQ] at hP;exact hP
 exact⟨e,by rw[h1];rfl,h2⟩
theorem Qp(hg:Pg ps){t:e6}{ts:List e6}(hq:x.Q.L=t::ts)(hb:x.S.Serial<8000000000000000000):∃u us,m.Tasks=u::us/\u.Prog=t.Prog/\∃m',db m u=some m'/\wJ ps (Kd ps x t ts) m':=by
 obtain⟨⟨σ,q⟩,hp,hu⟩:=g;have hR:=hx.rt.sh.sr;have htk:m.Tasks=tx σ t::ts.map (tx σ):=by rw[q.tk,hq,zF]
 have hl6:=CW hg.1 t.Prog;have hpr:(tx σ t).Prog=t.Prog:=by unfold tx;split <;> rfl
 have hkd:(tx σ t).Kind=t.Kind:=by
  unfold tx;split;·rename_i h;exact h.symm
  .rfl
 refine⟨_,_,htk,hpr,?_⟩;have pok:=GY hx hq;have pse:=CV hx hq;obtain⟨rok,_,rse⟩:=De hx hq ps (by omega);have hnx:∀M:a8,M.Tasks=tx σ t::ts.map (tx σ)->aT (⟨M.Tasks,30⟩:j5)=some (⟨ts.map (tx σ),30⟩,tx σ t,0):=λM h=>by
  rw[yW,h];rfl
 have run:∀M,wJ ps (pre x t ts) M->∃M',((dx M.Progs (tx σ t).Prog).bind λv9=>ja M v9)=some M'/\wJ ps (UU ps x t ts) M':=λM hM=>by
  rw[vm,YI,hM.2.1,hpr];exact TN pok hM (hg.ER t.Prog) (by omega) (by omega)
 unfold db;simp only[jn];by_cases hk:t.Kind=1
 .have hk':(tx σ t).Kind=1:=by rw[hkd];exact hk
  have hat:(tx σ t).At=σ t.At:=by unfold tx;rw[zb hk]
  obtain⟨hl,_⟩:=GC hx.rt hq hk;have hfr:=lx hx.rt hq hk;have r6:=q.r6 hx.rt;have kb:((tx σ t).Kind==1)=true:=by simp[hk']
  simp only[kb,wn];rw[hat,show U8 m 5 (σ t.At)=some (dd m 5 (σ t.At)) from yl (q.bn hR) (q.bl hx.rt.sh) (q.Xv hx.rt (.inr hl)) (r:=5) (by omega),YI,yn,YI,hnx (dd m 5 (σ t.At)) (by
   show (fL m (σ t.At)).Tasks=_;rw[aC];exact htk),YI]
  dsimp only;have S0:=(q.uC ts).SI (DB hx.rt hq) (r:=5) (h:=t.At) (k:=qN m (σ t.At)) (.inr hl) λhl' hs=>by
   have:=hx.rt.fair t.At hl hs;rw[G6] at this;rw[q.lH hx.rt.sh hl];exact this
  have S1:p9 σ (G0 (Sh.uC x ts) 5 t.At) (FD (dd m 5 (σ t.At)) (ts.map (tx σ))):=by
   have e:FD (dd m 5 (σ t.At)) (ts.map (tx σ))=XB (if σ t.At≠0/\11<=qN m (σ t.At) then uf (FD m (ts.map (tx σ))) (σ t.At) else FD m (ts.map (tx σ))) (m.Roots.set 5 (σ t.At)):=by
    unfold dd fL;split <;> rfl
   rw[e];exact S0
  have S2:p9 σ (wo x ts t.At) (FD (dd m 5 (σ t.At)) (ts.map (tx σ))):=S1.OU (dc (x:=Sh.uC x ts) hx.rt.sh.sr 5 t.At).sr t.At;rw[show H3 ⟨(dd m 5 (σ t.At)).Nodes,(dd m 5 (σ t.At)).Slots,(dd m 5 (σ t.At)).Gens,(dd m 5 (σ t.At)).Last,(dd m 5 (σ t.At)).Places,(dd m 5 (σ t.At)).Serial,(dd m 5 (σ t.At)).Roots,(dd m 5 (σ t.At)).b7,(dd m 5 (σ t.At)).Pairs,ts.map (tx σ),(dd m 5 (σ t.At)).Progs⟩=_ from lB hfr S2,YI];have G1:wJ ps (pre x t ts) (kZ (FD (dd m 5 (σ t.At)) (ts.map (tx σ)))):=by
   have hu2:Um (FD (dd m 5 (σ t.At)) (ts.map (tx σ))):=(hu.Xz 5 (σ t.At)).of rfl (NS.refl _);refine⟨⟨σ,?_⟩,?_,hu2.kZ⟩;·unfold pre;rw[zb hk];exact S2.bu hfr
   .rw[xh];show (fL m (σ t.At)).Progs=ps;rw[aC];exact hp
  obtain⟨M',h1,⟨σ',S3⟩,h3,hu3⟩:=run _ G1;rw[vm,YI] at h1 |-;rw[h1,YI];have rr:=bM rok.rt (r:=5) (by decide) (h:=0) (.inl rfl);have S4:=S3.G0 (r:=5) rok.rt.sh rok.rt.fair (.inl rfl);rw[S3.gd.z] at S4;have r6':=S3.r6 rok.rt;rw[show U8 M' 5 0=some (dd M' 5 0) from yl (S3.bn rok.rt.sh.sr) (S3.bl rok.rt.sh) (.inl rfl) (r:=5) (by omega),YI,lB rr S4,YI];refine⟨_,rfl,⟨σ',?_⟩,?_,(hu3.Xz 5 0).kZ⟩;·unfold Kd;rw[zb hk];exact S4.bu rr
  .rw[xh];show (fL M' 0).Progs=ps;rw[aC];exact h3
 .have kb:((tx σ t).Kind==1)=false:=by rw[hkd];simp[hk]
  simp only[kb,zD,qr];rw[yn,YI,hnx m htk,YI];dsimp only;have G1:wJ ps (pre x t ts) (FD m (ts.map (tx σ))):=by
   refine⟨⟨σ,?_⟩,hp,hu.of rfl (NS.refl _)⟩;unfold pre;rw[za hk];exact q.uC ts
  obtain⟨M',h1,h2⟩:=run _ G1;rw[vm,YI] at h1 |-;rw[show ja ⟨m.Nodes,m.Slots,m.Gens,m.Last,m.Places,m.Serial,m.Roots,m.b7,m.Pairs,ts.map (tx σ),m.Progs⟩ _=_ from h1,YI];refine⟨_,rfl,?_⟩;unfold Kd;rw[za hk];exact h2
end
section
variable{ps:List (List g8)}{x:Hp}{m:a8}(hx:Oh x)(g:wJ ps x m)(hg:Pg ps)
include hx g hg
theorem GI{f:Int}(hf:0<=f)(hf2:f<=1000000)(hb:x.S.Serial<7900000000000000000):∃m',gA m f=some (m',⟨(dn ps (x,f):Int),Sr (dr ps (x,f))⟩)/\wJ ps (dr ps (x,f)).1 m':=by
 obtain⟨a1,a2,a3⟩:=Ih ps (p:=(x,f)) hf;have all:=Cg ps (p:=(x,f)) hx hf (by show x.S.Serial+f<_;omega);dsimp only at a1;unfold gA;simp only[jn];obtain⟨e,h1,h2⟩:∃e,lp (S:=Int × Int × a8) (E:=(a8 × g9) ⊕ (Int × a8)) (λ((s15,s16,s17):Int × Int × a8)=>
   if (decide ((s17.Tasks.length:Int) > 0)) then
    (ix s17.Tasks 0).bind λv20=>
    (bC s17.Progs v20).bind λv21=>
    if (decide (v21 > s15)) then
     some (.inr (.inl (s17,(⟨s16,12⟩:g9))))
    else
    (db s17 v20).bind λv22=>
    some (.inl (w7 (s15-v21),w7 (s16+1),v22))
   else
   some (.inr (.inr (s16,s17)))) (f,0,m)=some e/\∃m',wJ ps (dr ps (x,f)).1 m'/\((e = .inl (m',⟨(dn ps (x,f):Int),12⟩)/\Sr (dr ps (x,f))=12)\/(e = .inr ((dn ps (x,f):Int),m')/\Sr (dr ps (x,f))=0)):=by
  refine uV (λs=>∃k:Nat,k<=dn ps (x,f)/\s.1=(dN ps k (x,f)).2/\s.2.1=(k:Int)/\wJ ps (dN ps k (x,f)).1 s.2.2) _ (λs=>dn ps (x,f)-s.2.1.toNat) ⟨0,zV _,rfl,rfl,g⟩ (by show dn ps (x,f)-_<_;omega) ?_;rintro⟨s1,s2,M⟩ ⟨k,hk,e1',e2',G⟩;dsimp only at e1' e2' G;subst e1' e2';obtain⟨b1,b2,b3,b4⟩:=all k;dsimp only at b2 b3 b4;obtain⟨⟨σ,q⟩,hp,_⟩:=id G;have hlen:M.Tasks.length=(dN ps k (x,f)).1.Q.L.length:=by rw[q.tk,zm]
  rcases zE k (dn ps (x,f)) with c | c
  .obtain⟨t,ts,e,cc⟩:=a3 k c;left;obtain⟨u,us,hu,hup,M',h3,h4⟩:=Qp b1 G hg e (by omega);have hc:=sw ps t;have hcs:Bd ps u=Bd ps t:=by unfold Bd;rw[hup]
   refine⟨((dN ps (k+1) (x,f)).2,((k+1:Nat):Int),M'),?_,⟨k+1,c,rfl,rfl,?_⟩,by show _-_<_-_;dsimp only;omega⟩
   .dsimp only;rw[zb (by rw[hlen,e];simp),hu];show ((bC M.Progs u).bind _)=_;rw[hp,wY hg.1,YI,hcs,za (by simp;omega),h3,YI,O9 (by omega) (by omega),n9,sx,oY ps e,zb cc]
   .dsimp only;rw[sx,oY ps e,zb cc];exact h4
  .have hkk:k=dn ps (x,f):=by omega
   subst hkk;right;cases e:(dN ps (dn ps (x,f)) (x,f)).1.Q.L with
   | nil=>
    refine⟨_,?_,M,G,.inr ⟨rfl,?_⟩⟩
    .dsimp only;rw[za (by rw[hlen,e];simp)]
    .unfold Sr dr;rw[e];rfl
   | cons t ts=>
    have hc:¬Bd ps t<=(dN ps (dn ps (x,f)) (x,f)).2:=λq=>a2 ((DS ps e).2 q);have htk:M.Tasks=tx σ t::ts.map (tx σ):=by rw[q.tk,e,zF]
    have hpr:(tx σ t).Prog=t.Prog:=by unfold tx;split <;> rfl
    have hcs:Bd ps (tx σ t)=Bd ps t:=by unfold Bd;rw[hpr]
    refine⟨_,?_,M,G,.inl ⟨rfl,?_⟩⟩
    .dsimp only;rw[zb (by rw[hlen,e];simp),htk];show ((bC M.Progs (tx σ t)).bind _)=_;rw[hp,wY hg.1,YI,hcs,zb (by simp;omega)]
    .unfold Sr dr;rw[e];rfl
 obtain⟨m',h3,⟨rfl,h5⟩ | ⟨rfl,h5⟩⟩:=h2;·exact⟨m',by rw[h1,h5];rfl,h3⟩
 .exact⟨m',by rw[h1,h5];rfl,h3⟩
theorem Wh(hb:x.S.Serial<7000000000000000000)(row:List Int):∃m',oW m row=some (m',⟨(er ps x row).2.1,(er ps x row).2.2⟩)/\wJ ps (er ps x row).1 m':=by
 unfold oW;rw[(DY row).1,YI];by_cases h:(bA row).2=0
 .have hc:=Ch h;have he:er ps x row=eo ps x (bA row).1:=by unfold er;rw[za (λc=>c h)]
  rw[za (by simpa using h),he];unfold eo;by_cases h11:(bA row).1.Kind=11
  .rw[zb (by simpa using h11),zb h11];obtain⟨⟨σ,q⟩,hp,hu⟩:=g;obtain⟨m',k1,k2,k3,k4⟩:=EB hx.rt hx.sl hx.zr q;rw[k1,YI];exact⟨m',rfl,⟨σ,k2⟩,by rw[k3,hp],k4 hu⟩
  .rw[za (by simpa using h11),za h11];by_cases h12:(bA row).1.Kind=12
   .rw[zb (by simpa using h12),zb h12];rw[h12] at hc;have:=LQ hc;obtain⟨m',k1,k2⟩:=GI hx g hg (f:=(bA row).1.A) (by omega) (by omega) (by omega);rw[k1,YI];exact⟨m',rfl,k2⟩
   .rw[za (by simpa using h12),za h12];have:=tp hc;obtain⟨m',k1,k2⟩:=It hx g (by omega) hc (by omega);rw[k1,YI];exact⟨m',rfl,k2⟩
 .have he:er ps x row=(x,0,(bA row).2):=by unfold er;rw[zb h]
  rw[zb (by simpa using h),he];exact⟨m,rfl,g⟩
def Xm(p:Int × Int):g9:=⟨p.1,p.2⟩
theorem MA{rows:List (List Int)}(hl:rows.length<=1000)(hb:x.S.Serial<1000000000000):∃m',aP m rows=some (m',(jV ps x rows).2.map Xm)/\wJ ps (jV ps x rows).1 m':=by
 unfold aP;simp only[jn];obtain⟨e,h1,h2⟩:∃e,lp (S:=Int × a8 × (List g9)) (E:=(a8 × (List g9))) (λ((s15,s16,s17):Int × a8 × (List g9))=>
   if (decide (s15<(rows.length:Int))) then
    (ix rows s15).bind λv20=>
    (oW s16 v20).bind λv21=>
    (app 16 s17 [v21.2]).bind λv22=>
    some (.inl (w7 (s15+1),v21.1,v22))
   else
   some (.inr (s16,s17))) (0,m,[])=some e/\(e.2=(jV ps x rows).2.map Xm/\wJ ps (jV ps x rows).1 e.1):=by
  refine jx (T:=a8 × List g9) rows.length (λk t=>t.2=(jV ps x (rows.take k)).2.map Xm/\wJ ps (jV ps x (rows.take k)).1 t.1) _ (by omega) ⟨rfl,g⟩ (λk t hk hP=>?_) (λt hP=>⟨t,?_,?_⟩)
  .obtain⟨M,acc⟩:=t;obtain⟨hacc,hM⟩:=hP;dsimp only at hacc hM;obtain⟨a1,a2⟩:=Gx hg.1 hx (rows.take k) (by rw[zas];omega);rw[zas] at a2;obtain⟨m',e1',e2'⟩:=Wh a1 hM hg (by omega) rows[k];have hla:acc.length=k:=by rw[hacc,zm,Ik,zas];omega
   refine .inl ⟨(m',acc ++ [⟨(er ps (jV ps x (rows.take k)).1 rows[k]).2.1,(er ps (jV ps x (rows.take k)).1 rows[k]).2.2⟩]),?_,?_,?_⟩
   .dsimp only;rw[zb (by simpa using hk),s7 hk,YI,e1',YI,Gc (by omega) (by omega),YI,n9 (n:=k) (by omega)]
   .dsimp only;rw[U2 hk,xH,pm,hacc];rfl
   .rw[U2 hk,xH];exact e2'
  .dsimp only;rw[za (by simp)]
  .rw[zQ] at hP;exact hP
 exact⟨e.1,by rw[h1];show some _=_;rw[<-h2.1],h2.2⟩
end
theorem Vt(l:List (List g8)):∃b,gY l=some b/\(b=true->l.length<=10/\∀p∈l,p.length<=10):=by
 unfold gY;simp only[jn];refine VX (Q:=λb=>b=true->l.length<=10/\(∀p∈l,p.length<=10)) (min l.length 10) (λk=>∀h:k<l.length,(l[k]).length<=10) (by have:min l.length 10<=10:=Nat.min_le_right ..;omega) (λk hk=>?_) ?_ (λhP=>?_) (λhP=>?_)
 .have hkl:k<l.length:=by omega
  have hk10:k<10:=by omega
  have c:((decide (((k:Nat):Int)<(l.length:Int)))&&(decide (((k:Nat):Int)<10)))=true:=by simp;omega
  by_cases q:(l[k]).length<=10
  .refine⟨_,?_,.inl ⟨λ_=>q,rfl⟩⟩;rw[zb c,s7 hkl,YI,za (by simp;omega),n9]
  .refine⟨_,?_,.inr ⟨λh=>q (h hkl),rfl⟩⟩;rw[zb c,s7 hkl,YI,zb (by simp;omega)]
 .rw[za (by simp;omega)]
 .refine⟨_,rfl,λh=>?_⟩;have h10:l.length<=10:=by have:=zbj h;omega
  refine⟨h10,λp hp=>?_⟩;obtain⟨k,hk,rfl⟩:=wt hp;exact hP k (by omega) hk
 .exact⟨false,rfl,λh=>by cases h⟩
theorem RG(l:List (List Int))(m:Int):∃b,gi l m=some b/\(b=true->(l.length:Int)<=m):=by
 unfold gi;simp only[jn];refine VX (Q:=λb=>b=true->(l.length:Int)<=m) (min l.length 200) (λk=>∀h:k<l.length,(l[k]).length<=10) (by have:min l.length 200<=200:=Nat.min_le_right ..;omega) (λk hk=>?_) ?_ (λhP=>?_) (λhP=>?_)
 .have hkl:k<l.length:=by omega
  have hk10:k<200:=by omega
  have c:((decide (((k:Nat):Int)<(l.length:Int)))&&(decide (((k:Nat):Int)<200)))=true:=by simp;omega
  by_cases q:(l[k]).length<=10
  .refine⟨_,?_,.inl ⟨λ_=>q,rfl⟩⟩;rw[zb c,s7 hkl,YI,za (by simp;omega),n9]
  .refine⟨_,?_,.inr ⟨λh=>q (h hkl),rfl⟩⟩;rw[zb c,s7 hkl,YI,zb (by simp;omega)]
 .rw[za (by simp;omega)]
 .exact⟨_,rfl,λh=>zbj h⟩
 .exact⟨false,rfl,λh=>by cases h⟩
def CX:List (List g8):=[[(⟨2,2,5,0⟩:g8)]]
def nm:List (List Int):=[[1,0,1,0],[5,0,0,0],[3,0,0,0],[11,0,0,0],[12,9,0,0],[3,2,0,0],[11,0,0,0],[2,9,0,0]]
def CM:a8:=⟨[],[0,0,0],[0,0,0],5,8,0,List.replicate 6 0,List.replicate 6 ⟨0,false,-1⟩,[],[],CX⟩
def Ys:a8:=⟨[],[],[],0,0,0,[],[],[],[],[]⟩
def Ut(k:Nat)(l:Int)(p:Nat)(ps:List (List g8)):a8:=⟨[],List.replicate k 0,List.replicate k 0,l,p,0,List.replicate 6 0,List.replicate 6 ⟨0,false,-1⟩,[],[],ps⟩
theorem Nm(k:Nat)(l:Int)(p i:Nat):ce (qq k l p).S i=⟨0,0,z0⟩:=by
 unfold ce qq;dsimp only;rw[zd,List.getElem?_replicate];split <;> rfl
theorem Uu(k:Nat)(l:Int)(p:Nat)(ps:List (List g8)):p9 (λ_=>0) (qq k l p) (Ut k l p ps):=by
 have nt:∀i,¬Th (ce (qq k l p).S i):=λi=>by rw[Nm];unfold Th;decide
 have rep:∀(f:Nat->Int),(∀i,f i=0)->List.replicate k (0:Int)=(List.range (qq k l p).S.S.b7.length).map f:=λf hf=>by
  symm
  rw[List.eq_replicate_iff];refine⟨by rw[zm,zca];exact List.length_replicate ..,λb hb=>?_⟩;obtain⟨i,_,rfl⟩:=zn.1 hb;exact hf i
 refine⟨⟨rfl,λh i a=>absurd a.2.1 (nt i)⟩,⟨List.Pairwise.nil,λn=>⟨λh=>(nomatch h),λ⟨i,_,t,_⟩=>absurd t (nt i)⟩⟩,rep _ λi=>?_,rep _ λi=>by rw[Nm],rfl,?_,rfl,rfl,rfl,List.Pairwise.nil,λq=>⟨λh=>(nomatch h),λ⟨a,v,h,_⟩=>?_⟩,rfl⟩
 .unfold Ou;rw[za (nt i),Nm];rfl
 .show (p:Int)=((List.replicate p _).length:Nat);rw[List.length_replicate]
 .obtain⟨i,hi,_⟩:=h;have:=hi.2.1;rw[show (qq k l p).T=List.replicate p ⟨0,0,0⟩ from rfl,vn] at this;cases this
theorem SD{n last places:Int}{ps:List (List g8)}(hl:ps.length<=12)(hp:∀p∈ps,p.length<=12) :
  (∃e E,e≠0/\R6 n last places ps=some (E,e)/\aO n last places ps=some (Ys,e)/\(e=13\/e=1/\¬((1<=n/\n<=24)/\(0<=last/\last<=9)/\1<=places/\places<=8))) \/
  (∃k p:Nat,n=k/\places=p/\(1<=k/\k<=24)/\Pg ps/\Rs (qq k last p) 0/\R6 n last places ps=some (⟨qq k last p,ps⟩,0)/\aO n last places ps=some (Ut k last p ps,0)/\wJ ps (qq k last p) (Ut k last p ps)):=by
 rcases WJ (n:=n) (last:=last) (places:=places) hl hp with ⟨e,e1,_,e3⟩ | ⟨k,p,rfl,rfl,hk,hm,hr,e1,_⟩
 .left;have he:e≠0:=by omega
  refine⟨e,_,he,e1,?_,e3⟩;unfold aO;rw[e1,YI,zb (by simpa using he)];rfl
 .right;have hpg:fi ps=true:=by
   cases hq:fi ps with
   | true=>rfl
   | false=>
    have e2:fN ps=some (fi ps):=ES (by omega) hp;unfold R6 at e1;rw[e2,YI,hq,zb (show (!false)=true from rfl)] at e1;exact absurd (zX (λp=>p.2) (zL e1)) (by simp)
  refine⟨k,p,rfl,rfl,hk,WO hpg,hr,e1,?_,⟨_,Uu k last p ps⟩,rfl,λc _ n hn=>(nomatch hn)⟩;unfold aO;rw[e1,YI,za (by simp),kD (by omega) (by omega),YI,show mk 8 6 (0:Int)=some (List.replicate 6 0) from rfl,YI];refine rT (a:=List.replicate 6 ⟨0,false,-1⟩) (by kernel_rfl) ?_;rfl
theorem RH:gj=some true:=by
 have hp:∀p∈CX,p.length<=12:=λp h=>by
  have:p = [⟨2,2,5,0⟩]:=zt.1 h;subst this;decide
 rcases SD (n:=3) (last:=5) (places:=8) (ps:=CX) (by decide) hp with ⟨e,E,he,e1,e2,_⟩ | ⟨k,p,hk,hpp,_,hg,hr0,e1,e2,G⟩
 .have h3:aO 3 5 8 CX=some (CM,0):=by kernel_rfl
  rw[e2] at h3;exact absurd (zX (λp=>p.2) (zL h3)) he
 .obtain rfl:k=3:=by omega
  obtain rfl:p=8:=by omega
  have h3:aP (Ut 3 5 8 CX) nm=some ((aP CM nm).getD (CM,[])):=by kernel_rfl
  obtain⟨m',k1,_⟩:=MA hr0.oh G hg (rows:=nm) (by decide) (by have:=hr0.bg;omega);rw[h3] at k1;have k2:(jV CX (qq 3 5 8) nm).2.map Xm=((aP CM nm).getD (CM,[])).2:=(zX (λp=>p.2) (zL k1)).symm;have k3:(jV CX (qq 3 5 8) nm).2.map Xn=((aP CM nm).getD (CM,[])).2:=k2;have b1:=XP hg.1 hr0.oh nm (by decide) (by have:=hr0.bg;omega);rw[k3] at b1;unfold gj;refine rT (a:=(Ut 3 5 8 CX,(0:Int))) e2 ?_;refine rT (a:=((⟨qq 3 5 8,CX⟩:r8),(0:Int))) e1 ?_;refine rT (a:=(aP CM nm).getD (CM,[])) h3 ?_;refine rT b1 ?_;kernel_rfl
theorem Wi{l:List (List g8)}{rows:List (List Int)}{m:Int}{K:Option Bool}(h:gY l=some true->l.length<=10->(∀p∈l,p.length<=10)->(rows.length:Int)<=m->K=some true) :
  ((gY l).bind λv1=>(E1 ((!v1)==false) false (gi rows m)).bind λv2=>(E1 (((!v1)||(!v2))==false) false gj).bind λv3=>if (((!v1)||(!v2))||(!v3)) then (gj).bind λv4=>some v4 else K)=some true:=by
 obtain⟨b,h1,h2⟩:=Vt l;obtain⟨c,h3,h4⟩:=RG rows m;rw[h1,YI,RH];cases b;·rfl
 .rw[show E1 ((!true)==false) false (gi rows m)=gi rows m from rfl,h3,YI];cases c;·rfl
  .exact h h1 (h2 rfl).1 (h2 rfl).2 (h4 rfl)
theorem Vm{ps:List (List g8)}{x:Hp}{m:a8}(hx:Oh x)(g:wJ ps x m)(ht:gY ps=some true):uv m=some true:=by
 obtain⟨⟨σ,q⟩,hp,_⟩:=g;have B:=q.bn hx.rt.sh.sr;have C:=q.bl hx.rt.sh;have nl:=B.nl;have hR:=hx.rt.sh;have r6:=q.r6 hx.rt;have c6:m.b7.length=6:=by rw[q.ce,zm,hR.c6]
 have tl:m.Tasks.length<=30:=by rw[q.tk,zm];exact hR.q30
 have pl8:m.Pairs.length<=8:=by
  rw[(q.perm hR).length_eq,zm];unfold jH;rw[zm];exact zP (zy ..) hR.hr.l8
 have gl:=B.gl;unfold uv;simp only[jn];refine fR m.Nodes.length (λ_=>True) (by omega) trivial (λk hk _=>.inl ⟨?_,trivial⟩) (λ_=>⟨.inr (),?_,?_⟩)
 .have c:((decide (((k:Nat):Int)<(m.Nodes.length:Int)))&&(decide (((k:Nat):Int)<60)))=true:=by simp;omega
  have:=B.fl _ (zh hk);rw[zb c,s7 hk,YI,za (by simp;omega),n9]
 .rw[za (by simp)]
 .have e:((((((((decide ((m.Nodes.length:Int)<=50))&&(decide ((m.Pairs.length:Int)<=20)))&&(decide ((m.Tasks.length:Int)<=100)))&&(decide ((m.b7.length:Int)<=20)))&&(decide ((m.Roots.length:Int)<=20)))&&(decide ((m.Slots.length:Int)<=30)))&&(decide ((m.Gens.length:Int)<=30))))=true:=by
   simp;omega
  dsimp only;rw[e,hp];simp only[mt,jG];rw[ht];rfl
theorem wJ.r6{ps:List (List g8)}{x:Hp}{m:a8}(hx:Oh x)(g:wJ ps x m):m.Roots.length=6:=by
 obtain⟨⟨σ,q⟩,_⟩:=g;exact q.r6 hx.rt
theorem WX{n:Int}(h0:0<=n)(h1:n<=255){b:Int}(hb:0<b):rem (w7 n) b=some (n % b):=by rw[O9 (by omega) (by omega),Dg h0 hb]
theorem Ur{n last:Int}(h0:0<=n)(h1:n<=255){ps:List (List g8)}(hl:ps.length<=12)(hp:∀p∈ps,p.length<=12)(hL:0<=last/\last<=9) :
  (∃E,R6 (w7 (1+n % 24)) last 8 ps=some (E,13)/\aO (w7 (1+n % 24)) last 8 ps=some (Ys,13)) \/
  (∃k:Nat,1+n % 24=k/\(1<=k/\k<=24)/\Pg ps/\Rs (qq k last 8) 0/\R6 (w7 (1+n % 24)) last 8 ps=some (⟨qq k last 8,ps⟩,0)/\aO (w7 (1+n % 24)) last 8 ps=some (Ut k last 8 ps,0)/\wJ ps (qq k last 8) (Ut k last 8 ps)):=by
 have hw:w7 (1+n % 24)=1+n % 24:=O9 (by omega) (by omega);rw[hw];rcases SD (n:=1+n % 24) (last:=last) (places:=8) (ps:=ps) hl hp with ⟨e,E,he,e1,e2,e3⟩ | ⟨k,p,hk,hpp,hk2,hg,hr,e1,e2,G⟩
 .rcases e3 with rfl | ⟨_,h⟩
  .exact .inl ⟨E,e1,e2⟩
  .exact absurd ⟨by omega,hL,by omega,by omega⟩ h
 .obtain rfl:p=8:=by omega
  exact .inr ⟨k,hk,hk2,hg,hr,e1,e2,G⟩
section
variable{σ:Int->Int}{x:Hp}{m:a8}(hx:Oh x)(q:p9 σ x m)
include hx q
end
section
variable{σ:Int->Int}{x:Hp}{m:a8}(hx:Oh x)(q:p9 σ x m)
include hx q
end
def rU(l:List Int):Nat:=(l.filter (· != 0)).length
theorem No(v:Int)(l:List Int):rU (v::l)=rU l+if v=0 then 0 else 1:=by
 unfold rU;by_cases c:v=0
 .rw[zcc (by simp[c]),zb c];rfl
 .rw[zcd (by simpa using c),za c];rfl
theorem Fg{l:List Int}(hl:l.length<=1000):mb l=some (l.filter (· != 0)):=by
 unfold mb;exact iO (b:=8) (P:=λv=>some (v != 0)) (p:=λv=>v != 0) (λ_ _=>rfl) (by omega) (by omega) (by omega)
theorem IU(v:Int):∀L:List Int,L.Nodup->0∉L->(v=0\/v∈L)->(L.map λs=>if v=s/\s≠0 then 1 else 0).sum=if v=0 then 0 else 1
 | [],_,_,h=>by
  rcases h with h | h
  .simp[h]
  .cases h
 | a::L,hn,h0,h=>by
  rw[pi] at hn;have a0:a≠0:=λe=>h0 (e▸zf);have h0':0∉L:=λe=>h0 (zl _ e);rw[zF,ww];by_cases c:v=a
  .subst c;rw[zb ⟨rfl,a0⟩,za a0];have:(L.map λs=>if v=s/\s≠0 then 1 else 0)=L.map λ_=>0:=zo λs hs=>za (λ(d:v=s/\s≠0)=>hn.1 (d.1▸hs));rw[this];have z:∀L:List Int,(L.map λ_=>(0:Nat)).sum=0:=λL=>by
    induction L with
    | nil=>rfl
    | cons _ _ ih=>rw[zF,ww,ih]
   rw[z]
  .rw[za (λd=>c d.1),IU v L hn.2 h0' (by
    rcases h with h | h
    .exact .inl h
    .rcases zN.1 h with h | h
     .exact absurd h c
     .exact .inr h),zaa]
theorem pH{α:Type}(f g:α->Nat):∀L:List α,(L.map λs=>f s+g s).sum=(L.map f).sum+(L.map g).sum
 | []=>rfl
 | a::L=>by
  rw[zF,ww,zF,ww,zF,ww,pH f g L];omega
theorem uB{α:Type}:∀L:List α,(L.map λ_=>(0:Nat)).sum=0
 | []=>rfl
 | _::L=>by rw[zF,ww,uB L]
theorem ui{L:List Int}(hn:L.Nodup)(h0:0∉L):∀l:List Int,(∀v∈l,v=0\/v∈L)->(L.map (J3 l)).sum=rU l
 | [],_=>by
  have:L.map (J3 [])=L.map λ_=>0:=zo λs _=>G6 s;rw[this,uB];rfl
 | v::l,h=>by
  have e:L.map (J3 (v::l))=L.map λs=>J3 l s+if v=s/\s≠0 then 1 else 0:=zo λs _=>G3 v l s
  rw[e,pH,ui hn h0 l λu hu=>h u (zl _ hu),IU v L hn h0 (h v zf),No]
theorem Fs{α:Type}(F:α->List Int){L:List Int}:∀A:List α,(L.map λs=>(A.map λn=>J3 (F n) s).sum).sum=(A.map λn=>(L.map (J3 (F n))).sum).sum
 | []=>uB L
 | a::A=>by
  rw[zF,ww,<-Fs F A,<-pH];rfl
section
variable{σ:Int->Int}{x:Hp}{m:a8}(hx:Oh x)(q:p9 σ x m)
include hx q
theorem p9.BD:((m.Nodes.filter (·.Alive)).map λn=>qN m n.Serial).sum=rU m.Roots+m.Pairs.length+(cJ m).length+(m.Nodes.map λn=>rU n.Fields).sum:=by
 have hS:=hx.rt.sh;have hR:=hS.sr;have hA:=q.nd.alive hR;have hser:(m.Nodes.filter (·.Alive)).map (·.Serial)=(lv x.S).map σ:=by
  rw[hA,zaw];refine zo λh hh=>?_;exact (q.gd.f h _ (o0 hR hh).d).symm
 have hn:((lv x.S).map σ).Nodup:=by
  rw[<-hser,List.Nodup,zbl];exact (q.nd.up.filter _).imp λh e=>by rw[e] at h;exact absurd h (zbg _)
 have h0:0∉(lv x.S).map σ:=λh=>by
  obtain⟨k,hk,e⟩:=zn.1 h;have:=q.gd.ps hR hk;omega
 have inL:∀v,v=0\/v∈lv x.S->σ v=0\/σ v∈(lv x.S).map σ:=λv h=>by
  rcases h with h | h
  .left;rw[h];exact q.gd.z
  .exact .inr (za8 h)
 have hro:∀v∈m.Roots,v=0\/v∈(lv x.S).map σ:=λv hv=>by
  rw[q.ro] at hv;obtain⟨u,hu,rfl⟩:=zn.1 hv;exact inL u (hS.rt u hu)
 have hpa:∀v∈m.Pairs.map (·.Val),v≠0/\v∈(lv x.S).map σ:=λv hv=>by
  obtain⟨p,hp,rfl⟩:=zn.1 hv;obtain⟨k,u,hh,rfl⟩:=(q.p2 p).1 hp;have hu:=(hS.pr k u hh).2;have:=q.gd.ps hR hu;exact⟨by show σ u≠0;omega,za8 hu⟩
 have hhl:∀v∈cJ m,v≠0/\v∈(lv x.S).map σ:=λv hv=>by
  rw[q.GK hS] at hv;obtain⟨u,hu,rfl⟩:=zn.1 hv;obtain⟨t,ht,k,rfl⟩:=jA.1 hu;rcases (hS.tk t ht).2.2 with h | h
  .have:=q.gd.ps hR h.2.1;exact⟨by omega,za8 h.2.1⟩
  .rw[h.1] at k;exact absurd k (by decide)
 have hfl:∀n∈m.Nodes.filter (·.Alive),∀v∈n.Fields,v=0\/v∈(lv x.S).map σ:=λn hn v hv=>by
  rw[hA] at hn;obtain⟨h,hh,rfl⟩:=zn.1 hn;have hv:v∈((Sh.ce x.S (D3 h)).Val.Fields).map σ:=hv;rw[<-E9 hR (o0 hR hh)] at hv;obtain⟨u,hu,rfl⟩:=zn.1 hv;exact inL u (hS.fl h hh u hu)
 have allnz:∀l:List Int,(∀v∈l,v≠0)->rU l=l.length:=λl h=>by
  unfold rU;rw[za7.2 λv hv=>by simpa using h v hv]
 have hdead:(m.Nodes.map λn=>rU n.Fields).sum=((m.Nodes.filter (·.Alive)).map λn=>rU n.Fields).sum:=by
  have key:∀l:List b8,(∀n∈l,n.Alive=false->n.Fields = [])->(l.map λn=>rU n.Fields).sum=((l.filter (·.Alive)).map λn=>rU n.Fields).sum:=λl=>by
   induction l with
   | nil=>exact λ_=>rfl
   | cons a l ih=>
    intro h;rw[zF,ww,ih λn hn=>h n (zl _ hn)];cases ha:a.Alive with
    | true=>rw[zcd ha,zF,ww]
    | false=>
     rw[zcc (by simp[ha]),h a zf ha];show rU []+_=_;rw[show rU []=0 from rfl,zaa]
  refine key _ λn hn ha=>?_;obtain⟨i,hi,ti,rfl⟩:=(q.nd.mem n).1 hn;have h2:(Sh.ce x.S i).State=2:=by
   rcases ti with t | t
   .have:(decide ((Sh.ce x.S i).State=1))=false:=ha;rw[t] at this;cases this
   .exact t
  have:=((hx.rt.wk i hi (.inr h2)).2 h2).2.1;show ((Sh.ce x.S i).Val.Fields).map σ = [];rw[this];rfl
 have hl:((m.Nodes.filter (·.Alive)).map λn=>qN m n.Serial)=((lv x.S).map σ).map (qN m):=by rw[<-hser,zaw];rfl
 rw[hl];have hnm:qN m=λs=>(J3 m.Roots s+((m.Nodes.filter (·.Alive)).map λn=>J3 n.Fields s).sum)+J3 (m.Pairs.map (·.Val)) s+J3 (cJ m) s:=rfl;rw[hnm,pH (λs=>(J3 m.Roots s+((m.Nodes.filter (·.Alive)).map λn=>J3 n.Fields s).sum)+J3 (m.Pairs.map (·.Val)) s),pH (λs=>J3 m.Roots s+((m.Nodes.filter (·.Alive)).map λn=>J3 n.Fields s).sum),pH (λs=>J3 m.Roots s)];rw[ui hn h0 _ hro,ui hn h0 _ λv hv=>.inr (hpa v hv).2,ui hn h0 _ λv hv=>.inr (hhl v hv).2,Fs (λn:b8=>n.Fields),hdead,allnz _ λv hv=>(hpa v hv).1,allnz _ λv hv=>(hhl v hv).1,zm];have:((m.Nodes.filter (·.Alive)).map λn=>(((lv x.S).map σ).map (J3 n.Fields)).sum)=(m.Nodes.filter (·.Alive)).map λn=>rU n.Fields:=zo λn hn'=>ui hn h0 _ (hfl n hn');rw[this];omega
theorem p9.Gq{n:b8}(hn:n∈m.Nodes)(ha:n.Alive=false):qN m n.Serial=0:=by
 have hS:=hx.rt.sh;have hR:=hS.sr;obtain⟨i,hi,ti,rfl⟩:=(q.nd.mem n).1 hn;have h2:(Sh.ce x.S i).State=2:=by
  rcases ti with t | t
  .have:(decide ((Sh.ce x.S i).State=1))=false:=ha;rw[t] at this;cases this
  .exact t
 show qN m (Sh.ce x.S i).Val.Serial=0;have hs:1<=(Sh.ce x.S i).Val.Serial:=(hR.ok i hi ti).s1;have nl:∀v,v=0\/v∈lv x.S->σ v≠(Sh.ce x.S i).Val.Serial:=λv h e=>by
  rcases h with h | h
  .rw[h,q.gd.z] at e;omega
  .have p:=o0 hR h;rw[q.gd.f v _ p.d] at e;have:=hR.dif _ _ p.1 hi p.d.2.1 ti e;have p2:=p.2.1;rw[this] at p2;omega
 have tz:∀l:List Int,(∀v∈l,v≠(Sh.ce x.S i).Val.Serial)->J3 l (Sh.ce x.S i).Val.Serial=0:=λl=>by
  induction l with
  | nil=>exact λ_=>G6 _
  | cons v l ih=>
   intro h;rw[G3,ih λu hu=>h u (zl _ hu),za (λd=>h v zf d.1)]
 unfold qN;rw[tz _ λv hv=>?_,tz _ λv hv=>?_,tz _ λv hv=>?_]
 .have:((m.Nodes.filter (·.Alive)).map λn=>J3 n.Fields (Sh.ce x.S i).Val.Serial)=(m.Nodes.filter (·.Alive)).map λ_=>0:=zo λn hn=>tz _ λv hv=>by
   rw[q.nd.alive hR] at hn;obtain⟨h,hh,rfl⟩:=zn.1 hn;have hv:v∈((Sh.ce x.S (D3 h)).Val.Fields).map σ:=hv;rw[<-E9 hR (o0 hR hh)] at hv;obtain⟨u,hu,rfl⟩:=zn.1 hv;exact nl u (hS.fl h hh u hu)
  rw[this,uB]
 .rw[q.GK hS] at hv;obtain⟨u,hu,rfl⟩:=zn.1 hv;exact nl u (MF hS q u hu)
 .obtain⟨p,hp,rfl⟩:=zn.1 hv;obtain⟨k,u,hh,rfl⟩:=(q.p2 p).1 hp;exact nl u (.inr (hS.pr k u hh).2)
 .rw[q.ro] at hv;obtain⟨u,hu,rfl⟩:=zn.1 hv;exact nl u (hS.rt u hu)
end
def sA(m:a8)(k:Nat):Nat:=(((m.Nodes.take k).filter (·.Alive)).map λn=>qN m n.Serial).sum
def sF(m:a8)(k:Nat):Nat:=((m.Nodes.take k).map λn=>rU n.Fields).sum
theorem Jq{m:a8}{k:Nat}(hk:k<m.Nodes.length):sA m (k+1)=sA m k+if m.Nodes[k].Alive=true then qN m m.Nodes[k].Serial else 0:=by
 unfold sA;rw[zu hk,zao,pm,List.sum_append];congr 1;cases ha:m.Nodes[k].Alive with
 | true=>rw[zcd ha,zb rfl];simp
 | false=>rw[zcc (by simp[ha]),za (by simp)];rfl
theorem Dr{m:a8}{k:Nat}(hk:k<m.Nodes.length):sF m (k+1)=sF m k+rU m.Nodes[k].Fields:=by
 unfold sF;rw[zu hk,pm,List.sum_append];simp
theorem Xa(m:a8)(k:Nat):sA m k<=sA m m.Nodes.length:=by
 unfold sA;rw[zQ];conv=>rhs;rw[<-zbo k m.Nodes,zao,pm,List.sum_append]
 omega
theorem Np(l:List Int):rU l<=l.length:=zy ..
theorem Ol{m:a8}(B:Bn m):∀k,k<=m.Nodes.length->sF m k<=4*k
 | 0,_=>zV _
 | k+1,h=>by
  have:=Ol B k (by omega);have h4:=B.fl _ (zh (show k<m.Nodes.length by omega));have:=Np (m.Nodes[k]'(by omega)).Fields;rw[Dr (by omega)];omega
theorem modelNames{n last:Int}{l:List (List g8)}{rows:List (List Int)}(h0:0<=n)(h1:n<=255)(g0:0<=last)(g1:last<=255):jR n last l rows=some true:=by
 unfold jR;refine Wi λht hl hp hr=>?_;have hp12:∀p∈l,p.length<=12:=λp q=>by have:=hp p q;omega
 rw[WX h0 h1 (by decide),YI,WX g0 g1 (by decide),YI];rcases Ur (last:=last % 10) h0 h1 (ps:=l) (by omega) hp12 (by omega) with ⟨E,e1,e2⟩ | ⟨k,hk,hk2,hg,hr0,e1,e2,G⟩
 .rw[e2,YI];rfl
 .have hs:=hr0.bg;obtain⟨m',k1,k2⟩:=MA hr0.oh G hg (rows:=rows) (by omega) (by omega);obtain⟨o1,_⟩:=Gx hg.1 hr0.oh rows (by omega);rw[e2,YI];dsimp only;rw[za (by simp),k1,YI];dsimp only;rw[Vm o1 k2 ht,YI];generalize (jV l (qq k (last % 10) 8) rows).1=x at *;have hS:=o1.rt.sh;have hR:=hS.sr;obtain⟨⟨σ,q⟩,hpr,hum⟩:=k2;have B:=q.bn hR;have C:=q.bl hS;have nl:=B.nl;have r6:=q.r6 o1.rt;have pa:=C.pa;have tl:=C.tl;have sum:=q.BD o1;have hA:sA m' m'.Nodes.length=((m'.Nodes.filter (·.Alive)).map λn=>qN m' n.Serial).sum:=by unfold sA;rw[zQ]
  have hF:sF m' m'.Nodes.length=(m'.Nodes.map λn=>rU n.Fields).sum:=by unfold sF;rw[zQ]
  rw[<-hA,<-hF] at sum;have hFl:=Ol B m'.Nodes.length (zG _);have hhl:(cJ m').length=(m'.Tasks.filter λt=>t.Kind==1).length:=by
   unfold cJ nW;rw[zm]
  have hrl:=Np m'.Roots;have htl:=zy (λt:e6=>t.Kind==1) m'.Tasks;rw[za (by simp),Fg (by omega),YI];simp only[jn];have hw0:w7 (((m'.Roots.filter (· != 0)).length:Int)+(m'.Pairs.length:Int))=((rU m'.Roots+m'.Pairs.length:Nat):Int):=by
   show w7 ((rU m'.Roots:Int)+_)=_;rw[O9 (by omega) (by omega)];omega
  rw[hw0];refine IF (T:=Int) m'.Tasks.length (λj t=>t=((rU m'.Roots+m'.Pairs.length+((m'.Tasks.take j).filter λt=>t.Kind==1).length:Nat):Int)) (by omega) (by simp) (λj t hj hP=>⟨_,?_,rfl⟩) (λt hP=>⟨t,?_,?_⟩)
  .subst hP;have hle:=zy (λt:e6=>t.Kind==1) (m'.Tasks.take j);rw[zas] at hle;dsimp only;rw[zb (by simpa using hj),s7 hj,YI,zu hj,zao,zK];cases c:(m'.Tasks[j].Kind==1) with
   | true=>rw[zb rfl,O9 (by omega) (by omega),n9 (n:=j) (by omega),zcd (p:=λt:e6=>t.Kind==1) c];simp;omega
   | false=>rw[za (by simp),n9 (n:=j) (by omega),zcc (p:=λt:e6=>t.Kind==1) (by simp[c])];simp
  .dsimp only;rw[za (by simp)]
  .rw[zQ,<-hhl] at hP;subst hP;refine jy (λk=>((sA m' k:Int),((rU m'.Roots+m'.Pairs.length+(cJ m').length+sF m' k:Nat):Int),(k:Int))) (by simp[sA,sF]) m'.Nodes.length (λ_=>True) (by omega) trivial (λi hi _=>.inl ⟨?_,trivial⟩) (λ_=>⟨.inr ((sA m' m'.Nodes.length:Int),((rU m'.Roots+m'.Pairs.length+(cJ m').length+sF m' m'.Nodes.length:Nat):Int)),?_,?_⟩)
   .have hin:=zh hi;have hfl:=B.fl _ hin;have hsa:=Xa m' (i+1);have hsF:=Ol B (i+1) (by omega);rw[Jq hi] at hsa;rw[Dr hi] at hsF;dsimp only;rw[zb (by simpa using hi),s7 hi,YI,CJ B C,YI,Fg (by omega),YI,Jq hi,Dr hi];have hw1:w7 (((rU m'.Roots+m'.Pairs.length+(cJ m').length+sF m' i:Nat):Int)+((m'.Nodes[i].Fields.filter (· != 0)).length:Int))=((rU m'.Roots+m'.Pairs.length+(cJ m').length+(sF m' i+rU m'.Nodes[i].Fields):Nat):Int):=by
     show w7 (_+(rU m'.Nodes[i].Fields:Int))=_;rw[O9 (by omega) (by omega)];omega
    cases ha:m'.Nodes[i].Alive with
    | true=>
     rw[ha] at hsa;rw[zb rfl] at hsa |-;have hz:¬(OO m' m'.Nodes[i]=true):=by
      have:=q.zr o1.rt;rw[o1.zr] at this;exact zb4.1 this _ hin
     have hw2:w7 ((sA m' i:Int)+(qN m' m'.Nodes[i].Serial:Int))=((sA m' i+qN m' m'.Nodes[i].Serial:Nat):Int):=by rw[O9 (by omega) (by omega)];omega
     rw[hw1,hw2,n9 (n:=i) (by omega)];unfold OO at hz;rw[ha] at hz;have hc:(((true&&(!m'.Nodes[i].Stuck))&&((qN m' m'.Nodes[i].Serial:Int)==0))||((!true)&&(decide ((qN m' m'.Nodes[i].Serial:Int) > 0))))=false:=by
      cases hst:m'.Nodes[i].Stuck with
      | true=>simp
      | false=>
       rw[hst] at hz;simp at hz;simp;omega
     rw[hc];simp
    | false=>
     have hd:=q.Gq o1 hin ha;rw[hw1,n9 (n:=i) (by omega),hd];simp
   .dsimp only;rw[za (by simp)]
   .dsimp only;rw[sum];have:((rU m'.Roots+m'.Pairs.length+(cJ m').length+sF m' m'.Nodes.length:Nat):Int)=((rU m'.Roots+m'.Pairs.length+(cJ m').length+sF m' m'.Nodes.length:Nat):Int):=rfl;simp
end Go.Sh
