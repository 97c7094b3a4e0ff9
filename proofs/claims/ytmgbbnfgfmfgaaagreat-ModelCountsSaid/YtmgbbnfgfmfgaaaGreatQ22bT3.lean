/- A part. -/
import Derived.Test.YtmgbbnfgfmfgaaaGreatQ22bT2
set_option linter.unusedVariables false
set_option linter.unusedSimpArgs false
set_option linter.unusedSectionVars false
namespace Go.Sh
abbrev XA(n:b8)(l:List Int):b8:=⟨n.Serial,n.Slot,n.Prog,n.Started,n.Alive,n.Stuck,l⟩
section
variable{σ:Int->Int}{x:Hp}{m:a8}(hS:jJ x)(q:p9 σ x m)
include hS q
theorem p9.bP{h:Int}(hf:aO x [])(hh:h∈lv x.S){k:Nat}{v:Int}(hv:v=0\/v∈lv x.S):p9 σ (bP x h k v) (xY (fX m (σ v)) (fQ (fX m (σ v)).Nodes (σ h) λn=>XA n (((ob x.S h).Fields.map σ).set k (σ v)))):=by
 have hR:=hS.sr;have Q:=q.E8 hS hf hv;have xe:wo x.S (Sh.E8 x v).S:=I1 hR v λc=>E7;have hh':h∈lv (Sh.E8 x v).S:=by rw[xe.lv];exact hh
 have hR':=xe.sr;have ho:=K5 hR' hh';have p:=o6 hR' hh';have hfl:(ob (Sh.E8 x v).S h).Fields=(ob x.S h).Fields:=by
  obtain⟨n,e⟩:=xe.ob h (by have:=H2 hR hh;omega);rw[e]
 have P:=Q.put (o:=rX (ob (Sh.E8 x v).S h) ((ob x.S h).Fields.set k v)) hR' hh' rfl ⟨ho.s1,ho.s2,ho.st,ho.wk,ho.p1,ho.p2,by
  show ((ob x.S h).Fields.set k v).length<=4;rw[zal,<-hfl];exact ho.fl⟩ (f:=λn=>XA n (((ob x.S h).Fields.map σ).set k (σ v))) (by
  unfold Sh.nd;rw[E9 hR' p,zB p.2.1,zcp])
 unfold Sh.bP;refine p9.Qe (x:=wS (Sh.E8 x v) _) ?_ P _;exact bZ hR' hh' rfl ⟨ho.s1,ho.s2,ho.st,ho.wk,ho.p1,ho.p2,by
  show ((ob x.S h).Fields.set k v).length<=4;rw[zal,<-hfl];exact ho.fl⟩
end
theorem Eb{t:Tb}(hT:HR t){k v:Int}{r:Tb × Int × Int}(h:V1 t k v=some r)(h0:r.2.2=0)(k' v':Int):Has r.1 k' v'↔(k'≠k/\Has t k' v')\/(v≠0/\k'=k/\v'=v):=by
 obtain⟨u,hu,_,_,c⟩:=dU hT k v;rw[hu] at h;obtain rfl:=zJ h;rcases c with ⟨_,rfl⟩ | ⟨hk,hv,c⟩ | ⟨hk,hv,c⟩;·exact absurd (show (2:Int)=0 from h0) (by decide)
 .subst hv;rcases c with ⟨i,hi,rfl⟩ | ⟨hn,rfl⟩;·rw[tq hT hi];simp
  .constructor
   .intro hh;refine .inl ⟨λe=>?_,hh⟩;subst e;obtain⟨i,hi,_⟩:=hh;exact hn i hi
   .rintro (⟨_,hh⟩ | ⟨c,_⟩);·exact hh
    .exact absurd rfl c
 .have key:∀ {a:Tb},xZ t k v (a,0)->(Has a k' v'↔(k'≠k/\Has t k' v')\/(v≠0/\k'=k/\v'=v)):=λP=>by
   rw[xG hT P rfl];constructor
   .rintro (⟨a,b⟩ | c);·exact .inr ⟨hv,a,b⟩
    .exact .inl c
   .rintro (c | ⟨_,a,b⟩);·exact .inr c
    .exact .inl ⟨a,b⟩
  rcases c with ⟨i,hi,rfl⟩ | ⟨d,_,_,_,hp,rfl⟩ | ⟨_,_,rfl⟩;·exact key (.old i hi)
  .exact key hp
  .exact absurd (show (8:Int)=0 from h0) (by decide)
theorem SX{t:Tb}(hT:HR t){k v:Int}{r:Tb × Int × Int}(h:V1 t k v=some r):r.1.length=t.length:=by
 obtain⟨u,hu,_,hl,_⟩:=dU hT k v;rw[hu] at h;obtain rfl:=zJ h;exact hl
section
variable{σ:Int->Int}{x:Hp}{m:a8}(hS:jJ x)(q:p9 σ x m)
include hS q
theorem p9.ja{k v:Int}(hf:aO x [])(hk:k∈lv x.S)(hv:v=0\/v∈lv x.S){r:Tb × Int × Int}(h:V1 x.T k v=some r)(h0:r.2.2=0) :
  p9 σ (ja x v r.1 r.2.1) (WS (fX m (σ v)) ((m.Pairs.filter λp=>p.Key != σ k)++if v=0 then [] else [⟨σ k,σ v⟩])):=by
 have hR:=hS.sr;have Q:=q.E8 hS hf hv;unfold Sh.ja;refine p9.Qe (x:=wT (Sh.E8 x v) r.1) (km hR v) ?_ _;refine⟨Q.gd,Q.nd,Q.sl,Q.ge,Q.la,?_,Q.se,Q.ro,Q.ce,?_,λp=>?_,Q.tk⟩
 .show _=((r.1.length:Nat):Int);rw[SX hS.hr h];have:(Sh.E8 x v).T=x.T:=by rw[pS]
  rw[<-this];exact Q.npl
 .show List.Pairwise _ _;rw[zat];refine⟨q.p1.filter _,?_,λa ha b hb=>?_⟩
  .split;·exact List.Pairwise.nil
   .exact List.pairwise_singleton ..
  .split at hb;·cases hb
   .rw[zp] at hb;subst hb;have:=(zj.1 ha).2;simpa using this
 .show p∈_↔∃k' v',Has r.1 k' v'/\_;rw[zu,zj,q.p2];constructor
  .rintro (⟨⟨k',v',hh,rfl⟩,c⟩ | c)
   .refine⟨k',v',(Eb hS.hr h h0 _ _).2 (.inl ⟨λe=>?_,hh⟩),rfl⟩;subst e;simp at c
   .split at c;·cases c
    .rename_i c0;rw[zp] at c;exact⟨k,v,(Eb hS.hr h h0 _ _).2 (.inr ⟨c0,rfl,rfl⟩),c⟩
  .rintro⟨k',v',hh,rfl⟩;rcases (Eb hS.hr h h0 _ _).1 hh with ⟨c,hh⟩ | ⟨c0,rfl,rfl⟩
   .refine .inl ⟨⟨k',v',hh,rfl⟩,?_⟩;have:σ k'≠σ k:=λe=>c (q.gd.inl hR (hS.pr _ _ hh).1 hk e);simpa using this
   .right;rw[za c0];exact zp.2 rfl
end
def Fg(m:a8)(n:b8):a8:=
 ⟨m.Nodes.filter (λk=>k.Serial != n.Serial),m.Slots.set n.Slot.toNat (if m.Gens.getD n.Slot.toNat 0=m.Last then -1 else 0),
  if m.Gens.getD n.Slot.toNat 0=m.Last then m.Gens else m.Gens.set n.Slot.toNat (m.Gens.getD n.Slot.toNat 0+1),m.Last,m.Places,m.Serial,m.Roots,m.b7,m.Pairs,m.Tasks,m.Progs⟩
def EJ(m:a8)(s:Int):a8:=match m.Nodes.find? (λn=>n.Serial==s) with
 | none=>m
 | some n=>if n.Alive=true\/0<jC m.b7 s then m else Fg m n
theorem vV{n:Nat}(f:Nat->Int){i:Nat}(v:Int):((List.range n).map f).set i v=(List.range n).map λj=>if j=i then v else f j:=by
 refine zb2 (by simp) λj h1 h2=>?_;rw[zcq];simp only[t6,List.getElem_range];by_cases c:i=j
 .rw[zb c,zb c.symm]
 .rw[za c,za (za1 c)]
def GH(s:b6)(i:Nat):c8:=if (ce s i).Gen=s.S.Last then ⟨3,(ce s i).Gen,z0⟩ else ⟨0,(ce s i).Gen+1,z0⟩
theorem Vj(s:b6)(i:Nat):¬Th (GH s i):=by
 unfold GH Th;split <;> simp
section
variable{σ:Int->Int}{x:Hp}{m:a8}(hR:SR x.S)(q:p9 σ x m)
include hR q
theorem p9.Fg{i:Nat}(hi:i<x.S.S.b7.length)(ht:Th (Sh.ce x.S i)):p9 σ (wS x (I0 x.S i (GH x.S i))) (Fg m (Sh.nd σ x.S i)):=by
 have hc:=λj=>L0 hi (GH x.S i) j;have hl:=W3 x.S i (GH x.S i);have hno:=Vj x.S i;have hg:m.Gens.getD i 0=(Sh.ce x.S i).Gen:=by
  rw[q.ge,zd,zC,List.getElem?_range hi];rfl
 have hsl:(Sh.nd σ x.S i).Slot.toNat=i:=by unfold Sh.nd;simp
 unfold Sh.Fg;rw[hsl,hg,q.la];refine⟨q.gd.up λk j a=>?_,?_,?_,?_,rfl,q.npl,q.se,q.ro,q.ce,q.p1,q.p2,q.tk⟩
 .have hne:j≠i:=λe=>by
   have:=a.2.1;change Th (Sh.ce (I0 x.S i (GH x.S i)) j) at this
   rw[hc,zb e] at this;exact hno this
  refine⟨(EI hi _ hne).1 a,?_⟩;change (Sh.ce (I0 x.S i (GH x.S i)) j).Val.Serial=_
  rw[hc,za hne]
 .exact q.nd.del (s':=I0 x.S i (GH x.S i)) hR hi hl (λj hj=>by rw[hc,za hj]) ht (by rw[hc,zb rfl];exact hno)
 .show _=List.map (λj=>PB (Sh.ce (I0 x.S i (GH x.S i)) j)) (List.range (I0 x.S i (GH x.S i)).S.b7.length);show m.Slots.set i _=_;rw[hl,q.sl,vV];refine U2 λj hj=>?_;rw[hc];by_cases c:j=i
  .rw[zb c,zb c];unfold PB;rw[za hno];unfold GH;split <;> rfl
  .rw[za c,za c]
 .show _=List.map (λj=>(Sh.ce (I0 x.S i (GH x.S i)) j).Gen) (List.range (I0 x.S i (GH x.S i)).S.b7.length);show (if (Sh.ce x.S i).Gen=x.S.S.Last then m.Gens else m.Gens.set i ((Sh.ce x.S i).Gen+1))=_;rw[hl,q.ge];unfold GH;split
  .rename_i c;refine U2 λj hj=>?_;rw[L0 hi];split;·rename_i e;rw[e]
   .rfl
  .rw[vV];refine U2 λj hj=>?_;rw[L0 hi];split <;> rfl
theorem p9.alike{s':b6}(hl:s'.S.b7.length=x.S.S.b7.length)(hla:s'.S.Last=x.S.S.Last)(hse:s'.Serial=x.S.Serial)
  (h:∀i,i<x.S.S.b7.length->(Sh.ce s' i).State=(Sh.ce x.S i).State/\(Sh.ce s' i).Gen=(Sh.ce x.S i).Gen/\(Sh.ce s' i).Val.Serial=(Sh.ce x.S i).Val.Serial/\(Sh.ce s' i).Val.Prog=(Sh.ce x.S i).Val.Prog/\(Sh.ce s' i).Val.Started=(Sh.ce x.S i).Val.Started/\(Sh.ce s' i).Val.Strong=(Sh.ce x.S i).Val.Strong/\(Sh.ce s' i).Val.Fields=(Sh.ce x.S i).Val.Fields):p9 σ (wS x s') m:=by
 have sT:∀i,i<x.S.S.b7.length->(Th (Sh.ce s' i)↔Th (Sh.ce x.S i)):=λi hi=>by unfold Th;rw[(h i hi).1]
 refine⟨q.gd.up λk i a=>?_,q.nd.same hR hl λi hi=>⟨sT i hi,λht=>?_⟩,?_,?_,by rw[q.la];exact hla.symm,q.npl,by rw[q.se];exact hse.symm,q.ro,q.ce,q.p1,q.p2,q.tk⟩
 .have hi:i<x.S.S.b7.length:=by have:=a.1;rw[<-hl];exact this
  refine⟨⟨hi,(sT i hi).1 a.2.1,?_⟩,(h i hi).2.2.1⟩;have:=a.2.2;change k=1+(i:Int)+32*(Sh.ce s' i).Gen at this
  rw[(h i hi).2.1] at this;exact this
 .obtain⟨a1,a2,a3,a4,a5,a6,a7⟩:=h i hi;unfold Sh.nd;rw[a1,a3,a4,a5,a6,a7]
 .show _=List.map _ (List.range s'.S.b7.length);rw[hl,q.sl];refine U2 λi hi=>?_;unfold PB;rw[(h i hi).2.2.1,(h i hi).1];by_cases c:Th (Sh.ce x.S i)
  .rw[zb c,zb ((sT i hi).2 c)]
  .rw[za c,za λd=>c ((sT i hi).1 d)]
 .show _=List.map _ (List.range s'.S.b7.length);rw[hl,q.ge];exact U2 λi hi=>(h i hi).2.1.symm
theorem p9.find{h:Int}{i:Nat}(p:U6 x.S h i):m.Nodes.find? (λn=>n.Serial==σ h)=some (Sh.nd σ x.S i):=by
 have hs:=q.gd.f h i p;rw[List.find?_eq_some_iff_getElem];obtain⟨j,hj,e⟩:=wt (q.nd.at hR p.1 p.2.1);refine⟨by rw[hs];exact q9 _,j,hj,e,λk hk=>?_⟩;have:=zav.1 q.nd.up k j (by omega) hj hk;rw[e] at this;have:m.Nodes[k].Serial≠σ h:=by
  rw[hs];have:m.Nodes[k].Serial<(Sh.ce x.S i).Val.Serial:=this;omega
 simpa using this
theorem p9.XC:m.Nodes.find? (λn=>n.Serial==0)=none:=by
 rw[zch];intro n hn e;have:=(q.nd.pos hR hn).1;have:n.Serial=0:=by simpa using e
 omega
theorem p9.jC{l:List k8}{h:Int}(hl:∀c∈l,σ c.Target=σ h->c.Target=h)(h0:h≠0)(h1:σ h≠0):Sh.jC (l.map (wx σ)) (σ h)=Sh.jC l h:=by
 unfold Sh.jC;rw[List.countP_map];refine List.countP_congr λc hc=>?_;show ((σ h != 0)&&(σ c.Target==σ h))=true↔((h != 0)&&(c.Target==h))=true;have:σ c.Target=σ h↔c.Target=h:=⟨hl c hc,λe=>by rw[e]⟩;simp[h0,h1,this]
end
def Mh(m:a8)(w:Nat)(s call:Int):a8:=EJ (Tt m (m.b7.set w (fP s call))) (m.b7.getD w cz).Target
theorem GV{m:a8}{s:Int}{n:b8}(h:m.Nodes.find? (λn=>n.Serial==s)=some n):EJ m s=if n.Alive=true\/0<jC m.b7 s then m else Fg m n:=by
 unfold EJ;rw[h]
theorem MR{m:a8}{s:Int}(h:m.Nodes.find? (λn=>n.Serial==s)=none):EJ m s=m:=by
 unfold EJ;rw[h]
theorem JJ{σ:Int->Int}{x:Hp}{m:a8}(hR:SR x.S)(q:p9 σ x m){i:Nat}(hi:i<x.S.S.b7.length)(ht:Th (ce x.S i))(d:Int):p9 σ (wS x (mi x.S i d)) m:=by
 refine q.alike hR (K0 ..) rfl rfl λj hj=>?_;rw[fh hR hi ht];split;·rename_i e;subst e;exact⟨rfl,rfl,rfl,rfl,rfl,rfl,rfl⟩
 .exact⟨rfl,rfl,rfl,rfl,rfl,rfl,rfl⟩
theorem lR{x:Hp}(hS:jJ x){c:k8}(hc:c∈x.b7):c.Target=0\/∃i,U6 x.S c.Target i:=by
 obtain⟨i,hi,rfl⟩:=wt hc;by_cases e:x.b7[i].Target=0
 .exact .inl e
 .exact .inr ((hS.cl i hi).2.2.2.1 e)
theorem p9.cT{σ:Int->Int}{x:Hp}{m:a8}(hx:K6 x)(q:p9 σ x m){w:Nat}(hw:w<6){h call:Int}(hh:h=0\/h∈lv x.S):p9 σ (cT x w h call) (Mh m w (σ h) call):=by
 have hS:=hx.sh;have hR:=hS.sr;have hwl:w<x.b7.length:=by rw[hS.c6];exact hw
 have hz:(σ h != 0)=(h != 0):=by
  have:=q.gd.zero hR (Od hR q.gd hh);rw[za8];simp[this]
 have q1:p9 σ (wC x (x.b7.set w (fP h call))) (Tt m (m.b7.set w (fP (σ h) call))):=by
  refine⟨q.gd,q.nd,q.sl,q.ge,q.la,q.npl,q.se,q.ro,?_,q.p1,q.p2,q.tk⟩;show m.b7.set w (fP (σ h) call)=(x.b7.set w (fP h call)).map (wx σ);rw[q.ce,zcp];congr 1;unfold wx fP;rw[hz]
 have hold:(m.b7.getD w cz).Target=σ (mO x w):=by
  unfold mO;rw[q.ce,zd,zC,zd,zc hwl];rfl
 have htg:mO x w=x.b7[w].Target:=by unfold mO;rw[zd,zc hwl];rfl
 unfold Sh.cT Mh;rw[hold];generalize hy:iN (wC x (x.b7.set w (fP h call))) h 1=y;generalize hm:Tt m (m.b7.set w (fP (σ h) call))=m1 at q1;have k:∃s2,y=wS (wC x (x.b7.set w (fP h call))) s2/\SR s2/\p9 σ y m1/\s2.S.b7.length=x.S.S.b7.length/\∀i,i<x.S.S.b7.length->(Sh.ce s2 i).State=(Sh.ce x.S i).State/\(Sh.ce s2 i).Gen=(Sh.ce x.S i).Gen/\(Sh.ce s2 i).Val.Weak=(Sh.ce x.S i).Val.Weak+if h=cu x.S i/\Th (Sh.ce x.S i) then 1 else 0:=by
  subst hy;unfold iN;split
  .rename_i c;have c:U6 x.S h (D7 h):=c;refine⟨_,rfl,vD hR c.1 c.2.1 (by have:=(hR.ok _ c.1 c.2.1).wk;omega),JJ (x:=wC x (x.b7.set w (fP h call))) hR q1 c.1 c.2.1 1,K0 ..,λi hi=>?_⟩;show (Sh.ce (mi x.S (D7 h) 1) i).State=_/\(Sh.ce (mi x.S (D7 h) 1) i).Gen=_/\(Sh.ce (mi x.S (D7 h) 1) i).Val.Weak=_;rw[fh hR c.1 c.2.1];split
   .rename_i e;subst e;exact⟨rfl,rfl,by rw[zb ⟨c.2.2,c.2.1⟩]⟩
   .rename_i e;refine⟨rfl,rfl,?_⟩;rw[za λd=>?_];·omega
    .exact e (U6.one hR (d.1▸xx hi d.2) c)
  .rename_i c;refine⟨_,rfl,hR,q1,rfl,λi hi=>⟨rfl,rfl,?_⟩⟩;rw[za λd=>?_];·omega
   .refine c ?_;have:=xx hi d.2;show U6 x.S h (D7 h);rw[d.1,this.D7 hR];exact this
 obtain⟨s2,ey,hR2,q2,hl2,hc2⟩:=k;have hcf:∀c∈x.b7.set w (fP h call),c.Target=0\/∃i,U6 x.S c.Target i:=λc hc=>by
  rcases zau hc with hc | rfl
  .exact lR hS hc
  .exact Od hR q.gd hh
 rcases lR hS (zh hwl) with e0 | ⟨p,hp⟩
 .rw[<-htg] at e0;rw[e0,q.gd.z,MR (q2.XC (by rw[ey];exact hR2))];unfold qh;rw[za];·exact q2
  .intro c;have:=c.LR (by rw[ey];exact hR2);omega
 .rw[<-htg] at hp;have hpp:=hp.D7 hR;obtain⟨s1',g1,w1⟩:=hc2 p hp.1;have hT2:Th (Sh.ce s2 p):=by unfold Th;rw[s1'];exact hp.2.1
  have hp2:U6 s2 (mO x w) p:=⟨by rw[hl2];exact hp.1,hT2,by rw[g1];exact hp.2.2⟩;have hp2y:U6 y.S (mO x w) p:=by rw[ey];exact hp2
  have hRy:SR y.S:=by rw[ey];exact hR2
  have h0:mO x w≠0:=by have:=hp.LR hR;omega
  have s0:σ (mO x w)≠0:=by have:=q.gd.pos hR hp;omega
  have ehd:mO x w=cu x.S p:=hp.2.2;have hnm:(Sh.ce y.S p).Val.Weak=(Sh.jC (x.b7.set w (fP h call)) (mO x w):Int)+1:=by
   rw[ey];show (Sh.ce s2 p).Val.Weak=_;have a:=JL hwl (fP h call) h0;have b:(Sh.ce x.S p).Val.Weak=(Sh.jC x.b7 (mO x w):Int):=by rw[ehd];exact (hx.wk p hp.1 hp.2.1).1
   rw[w1,b];rw[htg] at a |-;rw[zb rfl] at a;by_cases c:h=x.b7[w].Target
   .rw[zb ⟨by rw[c,<-htg];exact ehd,hp.2.1⟩];rw[zb (show (fP h call).Target=_ from c)] at a;omega
   .rw[za λd=>c (by rw[d.1,<-htg];exact ehd.symm)];rw[za (show ¬(fP h call).Target=_ from c)] at a;omega
  have q3:p9 σ (wS y (mi y.S p (-1))) m1:=JJ hRy q2 hp2y.1 hp2y.2.1 (-1);have hR3:SR (mi y.S p (-1)):=vD hRy hp2y.1 hp2y.2.1 (by rw[hnm];omega);have hp3:U6 (wS y (mi y.S p (-1))).S (mO x w) p:=(xy hp2y.1 _).2 hp2y;have hf:=q3.find hR3 hp3;have hst:(Sh.ce (mi y.S p (-1)) p).State=(Sh.ce y.S p).State:=by rw[fh hRy hp2y.1 hp2y.2.1,zb rfl]
  have hcm:Sh.jC m1.b7 (σ (mO x w))=Sh.jC (x.b7.set w (fP h call)) (mO x w):=by
   have:m1.b7=(x.b7.set w (fP h call)).map (wx σ):=by
    have:=q2.ce;rw[ey] at this;exact this
   rw[this];exact q.jC hR (λc hc e=>q.gd.Xc hR (hcf c hc) (.inr ⟨p,hp⟩) e) h0 s0
  rw[GV hf,hcm];unfold qh;rw[hpp,zb hp2y];by_cases c:(Sh.ce y.S p).State=2/\(Sh.ce y.S p).Val.Weak=1
  .rw[zb c,za];·exact q3.Fg hR3 hp3.1 hp3.2.1
   .rintro (d | d)
    .have:(Sh.ce (mi y.S p (-1)) p).State=1:=by simpa[Sh.nd] using d
     rw[hst,c.1] at this;exact absurd this (by decide)
    .have:=c.2;rw[hnm] at this;omega
  .rw[za c,zb];·exact q3
   .by_cases d:(Sh.ce y.S p).State=2
    .right;have:(Sh.ce y.S p).Val.Weak≠1:=λe=>c ⟨d,e⟩;rw[hnm] at this;omega
    .left;have:(Sh.ce y.S p).State=1:=hp2y.2.1.resolve_right d;unfold Sh.nd;exact zB (hst.trans this)
def lV(n:b8):b8:=⟨n.Serial,n.Slot,n.Prog,n.Started,false,n.Stuck,[]⟩
def rz(m:a8)(s:Int):a8:=EJ (xY m (fQ m.Nodes s lV)) s
theorem yw(s:Int){f:b8->b8}(hf:∀n,(f n).Serial=n.Serial):∀l:List b8,(fQ l s f).find? (λn=>n.Serial==s)=(l.find? λn=>n.Serial==s).map f
 | []=>rfl
 | n::l=>by
  unfold fQ at *;rw[zT,List.find?_cons,List.find?_cons];by_cases e:n.Serial=s
  .rw[zb e];have:(f n).Serial=s:=(hf n).trans e;simp[e,this]
  .rw[za e];have:(n.Serial==s)=false:=by simpa using e
   rw[this];exact yw s hf l
theorem rW(s:Int){f:b8->b8}(hf:∀n,(f n).Serial=n.Serial):∀l:List b8,(fQ l s f).filter (λn=>n.Serial != s)=l.filter λn=>n.Serial != s
 | []=>rfl
 | n::l=>by
  unfold fQ at *;rw[zT,or,or];by_cases e:n.Serial=s
  .rw[zb e];have:(f n).Serial=s:=(hf n).trans e;simp only[this,e,zb8];exact rW s hf l
  .rw[za e];have:(n.Serial != s)=true:=by simpa using e
   simp only[this,zY];have ih:=rW s hf l;unfold fQ at ih;rw[ih]
theorem p9.rz{σ:Int->Int}{x:Hp}{m:a8}(hR:SR x.S)(q:p9 σ x m){d:Int}(hd:d∈lv x.S)(hst:(ob x.S d).Strong<12)(hw:(ob x.S d).Weak=Sh.jC x.b7 d)
  (hinj:∀c∈x.b7,σ c.Target=σ d->c.Target=d):p9 σ (wS x (xd x.S d)) (rz m (σ d)):=by
 have p:=o6 hR hd;have h0:d≠0:=by have:=H2 hR hd;omega
 have s0:σ d≠0:=by have:=q.gd.ps hR hd;omega
 have hf:=q.find hR p.d;have hsd:(Sh.nd σ x.S (D7 d)).Serial=σ d:=(q.gd.f d _ p.d).symm;have hcm:Sh.jC m.b7 (σ d)=Sh.jC x.b7 d:=by rw[q.ce];exact q.jC hR hinj h0 s0
 have hf2:(xY m (fQ m.Nodes (σ d) lV)).Nodes.find? (λn=>n.Serial==σ d)=some (lV (Sh.nd σ x.S (D7 d))):=by
  show (fQ m.Nodes (σ d) lV).find? _=_;rw[yw _ (f:=lV) (λ_=>rfl),hf];rfl
 unfold Sh.rz;rw[GV hf2];have hcm':Sh.jC (xY m (fQ m.Nodes (σ d) lV)).b7 (σ d)=Sh.jC x.b7 d:=hcm;rw[hcm'];unfold xd;rw[E9 hR p] at hw hst;by_cases c:(Sh.ce x.S (D7 d)).Val.Weak=0
 .have e:GG x.S (D7 d)=GH x.S (D7 d):=by unfold GG GH;rw[zb c]
  rw[e,za]
  .have:Sh.Fg (xY m (fQ m.Nodes (σ d) lV)) (lV (Sh.nd σ x.S (D7 d)))=Sh.Fg m (Sh.nd σ x.S (D7 d)):=by
    unfold Sh.Fg lV;dsimp only;rw[hsd];have:=rW (σ d) (f:=lV) (λ_=>rfl) m.Nodes;unfold lV at this;rw[this]
   rw[this];exact q.Fg hR p.1 p.d.2.1
  .rintro (a | a);·exact absurd a (by unfold lV;simp)
   .rw[c] at hw;omega
 .have e:GG x.S (D7 d)=⟨2,(Sh.ce x.S (D7 d)).Gen,Ld (Sh.ce x.S (D7 d)).Val⟩:=by unfold GG;rw[za c]
  rw[e,zb (.inr (by have:=(hR.ok _ p.1 p.d.2.1).wk;omega))];have hc:=λj=>L0 p.1 ⟨2,(Sh.ce x.S (D7 d)).Gen,Ld (Sh.ce x.S (D7 d)).Val⟩ j;have hl:=W3 x.S (D7 d) ⟨2,(Sh.ce x.S (D7 d)).Gen,Ld (Sh.ce x.S (D7 d)).Val⟩;generalize hs':I0 x.S (D7 d) ⟨2,(Sh.ce x.S (D7 d)).Gen,Ld (Sh.ce x.S (D7 d)).Val⟩=s' at hc hl;have hsl:s'.S.Last=x.S.S.Last/\s'.Serial=x.S.Serial:=by subst hs';exact⟨rfl,rfl⟩
  have same:∀i,(Th (Sh.ce s' i)↔Th (Sh.ce x.S i))/\(Sh.ce s' i).Gen=(Sh.ce x.S i).Gen/\(Sh.ce s' i).Val.Serial=(Sh.ce x.S i).Val.Serial:=λi=>by
   rw[hc i];split;·rename_i e2;subst e2;exact⟨⟨λ_=>p.d.2.1,λ_=>.inr rfl⟩,rfl,rfl⟩
   .exact⟨Iff.rfl,rfl,rfl⟩
  refine⟨q.gd.up λk i a=>⟨⟨by have:=a.1;rw[<-hl];exact this,(same i).1.1 a.2.1,?_⟩,(same i).2.2⟩,?_,?_,?_,by rw[q.la];exact hsl.1.symm,q.npl,by rw[q.se];exact hsl.2.symm,q.ro,q.ce,q.p1,q.p2,q.tk⟩
  .have:=a.2.2;change k=1+(i:Int)+32*(Sh.ce s' i).Gen at this
   rw[(same i).2.1] at this;exact this
  .have:=q.nd.y5 (s':=s') hR p.1 hl (λj hj=>by rw[hc j,za hj]) p.d.2.1 ((same _).1.2 p.d.2.1) (same _).2.2 (f:=lV) (by
    unfold Sh.nd lV;rw[hc,zb rfl];dsimp only;rw[zQ (show ¬(12:Int)<=(Sh.ce x.S (D7 d)).Val.Strong by omega)];rfl)
   rw[q.gd.f d _ p.d];exact this
  .show m.Slots=List.map _ (List.range s'.S.b7.length);rw[hl,q.sl];refine U2 λi hi=>?_;unfold PB;by_cases c2:Th (Sh.ce x.S i)
   .rw[zb c2,zb ((same i).1.2 c2),(same i).2.2]
   .rw[za c2,za λd=>c2 ((same i).1.1 d),hc i,za (show i≠D7 d from λe2=>c2 (e2▸p.d.2.1))]
  .show m.Gens=List.map _ (List.range s'.S.b7.length);rw[hl,q.ge];exact U2 λi hi=>(same i).2.1.symm
theorem p9.Vv{σ:Int->Int}:∀(ds:List Int) {x:Hp} {m:a8},SR x.S->p9 σ x m->ds.Nodup->(∀d∈ds,d∈lv x.S/\(ob x.S d).Strong<12/\(ob x.S d).Weak=Sh.jC x.b7 d)->(∀d∈ds,∀c∈x.b7,σ c.Target=σ d->c.Target=d) ->
  p9 σ (wS x (oW x.S ds)) ((ds.map σ).foldl Sh.rz m)
 | [],x,m,hR,q,_,_,_=>q
 | d::ds,x,m,hR,q,hn,hm,hi=>by
  rw[me] at hn;obtain⟨a1,a2,a3⟩:=hm d zg;have Q:=q.rz hR a1 a2 a3 (hi d zg);show p9 σ (wS x (oW (xd x.S d) ds)) ((ds.map σ).foldl Sh.rz (Sh.rz m (σ d)));refine p9.Vv ds (x:=wS x (xd x.S d)) (Dd hR a1) Q hn.2 (λk hk=>?_) λk hk=>hi k (zn _ hk);obtain⟨b1,b2,b3⟩:=hm k (zn _ hk);have hne:k≠d:=λe=>hn.1 (e▸hk);refine⟨by show k∈lv (xd x.S d);rw[NG hR a1,zj];exact⟨b1,by simpa using hne⟩,?_⟩;show (ob (xd x.S d) k).Strong<12/\(ob (xd x.S d) k).Weak=_;rw[NH hR a1 b1 hne];exact⟨b2,b3⟩
def Bg(m:a8)(S:List Int):a8:=S.foldl rz (WS (Gy (Tt m (lS m.b7 S)) (m.Tasks++jN m.b7 S)) (m.Pairs.filter λp=>decide (p.Key∉S)))
theorem Tw{t:Tb}(hT:HR t)(ks:List Int)(hks:ks.length<=1000):(lO t ks).1.length=t.length:=by
 obtain⟨a,had,h1,_,h2,_⟩:=wW hT ks hks;unfold lO;rw[h1];exact h2
section
variable{σ:Int->Int}{x:Hp}{m:a8}(hx:K6 x)(q:p9 σ x m)
include hx q
theorem Jt{ds:List Int}(hm:∀d∈ds,d∈lv x.S){c:k8}(hc:c∈x.b7):ji (ds.map σ) (wx σ c)=ji ds c:=by
 have hR:=hx.sh.sr;obtain⟨i,hi,rfl⟩:=wt hc;unfold ji wx;cases e:x.b7[i].Intact;·rfl
 .have hl:=((hx.sh.cl i hi).2.2.2.2 e).1;have a:=q.gd.ps hR hl;have b:=H2 hR hl;have:(σ x.b7[i].Target∈ds.map σ)↔x.b7[i].Target∈ds:=by
   rw[zq];exact⟨λ⟨d,hd,e2⟩=>(q.gd.inl hR (hm d hd) hl e2)▸hd,λh=>⟨_,h,rfl⟩⟩
  rw[za8];simp[this];omega
theorem Rn{ds:List Int}(hm:∀d∈ds,d∈lv x.S):lS m.b7 (ds.map σ)=(lS x.b7 ds).map (wx σ):=by
 unfold lS;rw[q.ce,za3,za3];refine zt λc hc=>?_;show rO (ds.map σ) (wx σ c)=wx σ (rO ds c);unfold rO;rw[Jt hx q hm hc];split <;> rfl
theorem Rp{ds:List Int}(hm:∀d∈ds,d∈lv x.S):jN m.b7 (ds.map σ)=jN x.b7 ds:=by
 have hg:∀w,w<x.b7.length->(x.b7.map (wx σ)).getD w cz=wx σ (x.b7.getD w cz):=λw hw=>by
  rw[zd,zC,zd,zc hw];rfl
 have hh:∀w,w<x.b7.length->ji (ds.map σ) (wx σ (x.b7.getD w cz))=ji ds (x.b7.getD w cz):=λw hw=>by
  rw[zd,zc hw];exact Jt hx q hm (zh hw)
 have hcls:cls m.b7 (ds.map σ)=cls x.b7 ds:=by
  unfold cls;rw[q.ce,zl];refine pm λw hw=>?_;rw[za7] at hw;rw[hg w hw,hh w hw];rfl
 unfold jN;rw[hcls];refine zt λw hw=>?_;have hw:w<x.b7.length:=by
  unfold cls at hw;exact za7.1 (zj.1 hw).1
 rw[q.ce,hg w hw];rfl
theorem p9.TD{ds:List Int}(hn:ds.Nodup)(hm:∀d∈ds,d∈lv x.S):p9 σ (⟨x.S,x.Roots,lS x.b7 ds,(lO x.T ds).1,⟨x.Q.L++jN x.b7 ds,x.Q.Cap⟩⟩:Hp) (WS (Gy (Tt m (lS m.b7 (ds.map σ))) (m.Tasks++jN m.b7 (ds.map σ))) (m.Pairs.filter λp=>decide (p.Key∉ds.map σ))):=by
 have hS:=hx.sh;have hR:=hS.sr;have hlen:ds.length<=24:=zP (ab hn hm) (L4 (z8.2 hR));obtain⟨_,w2,_,_,w5,_⟩:=kz hS.hr ds (by omega);refine⟨q.gd,q.nd,q.sl,q.ge,q.la,?_,q.se,q.ro,Rn hx q hm,q.p1.filter _,λp=>?_,?_⟩
 .show m.Places=(((lO x.T ds).1.length:Nat):Int);rw[Tw hS.hr ds (by omega)];exact q.npl
 .show p∈List.filter _ _↔∃k v,Has (lO x.T ds).1 k v/\_;rw[zj,q.p2,zG];constructor
  .rintro⟨⟨k,v,h,rfl⟩,c⟩;exact⟨k,v,(w5 k v).2 ⟨λhk=>c (zq.2 ⟨k,hk,rfl⟩),h⟩,rfl⟩
  .rintro⟨k,v,h,rfl⟩;obtain⟨h1,h2⟩:=(w5 k v).1 h;refine⟨⟨k,v,h2,rfl⟩,λc=>?_⟩;obtain⟨d,hd,e⟩:=zq.1 c;exact h1 (q.gd.inl hR (hm d hd) (hS.pr _ _ h2).1 e▸hd)
 .show m.Tasks++jN m.b7 (ds.map σ)=(x.Q.L++jN x.b7 ds).map (tx σ);rw[ms,q.tk,Rp hx q hm];congr 1;conv=>lhs;rw[<-List.map_id (jN x.b7 ds)]
  refine zt λt ht=>?_;obtain⟨w,_,rfl,_⟩:=gM.1 ht;unfold tx;rw[za (show ¬(2:Int)=1 by decide)];rfl
theorem p9.gV{ds:List Int}(hn:ds.Nodup)(hm:∀d∈ds,d∈lv x.S)(hs:∀d∈ds,(ob x.S d).Strong<12):p9 σ (gV x ds) (Bg m (ds.map σ)):=by
 have hS:=hx.sh;have hR:=hS.sr;unfold Sh.gV Bg;refine p9.Yu (x:=jM x ds (lO x.T ds).1) _ (eT ds hR hn hm).sr ?_;have q1:=q.TD hx hn hm;have:=p9.Vv (x:=(⟨x.S,x.Roots,lS x.b7 ds,(lO x.T ds).1,⟨x.Q.L++jN x.b7 ds,x.Q.Cap⟩⟩:Hp)) ds hR q1 hn (λd hd=>⟨hm d hd,hs d hd,?_⟩) λd hd c hc e=>?_;·exact this
 .show (ob x.S d).Weak=(Sh.jC (lS x.b7 ds) d:Int);have p:=o6 hR (hm d hd);rw[Dy,E9 hR p];have:=(hx.wk _ p.1 p.d.2.1).1;rw[<-p.2.2] at this;exact this
 .refine q.gd.Xc hR ?_ (.inr ⟨_,(o6 hR (hm d hd)).d⟩) e;have hc:c∈lS x.b7 ds:=hc;unfold lS at hc;obtain⟨c',hc',rfl⟩:=zq.1 hc;rw[(pc ds c').1];exact lR hS hc'
end
def Gr(n:b8):b8:=⟨n.Serial,n.Slot,n.Prog,true,n.Alive,n.Stuck,n.Fields⟩
def HN(m:a8)(s:Int):Int:=((m.Nodes.find? λn=>n.Serial==s).map (·.Prog)).getD 0
def qZ(m:a8)(s:Int):a8:=Gy (xY (fX m s) (fQ (fX m s).Nodes s Gr)) (m.Tasks ++ [⟨1,s,HN m s⟩])
theorem Jd(s:Int){f g:b8->b8}(hf:∀n,(f n).Serial=n.Serial)(l:List b8):fQ (fQ l s f) s g=fQ l s (λn=>g (f n)):=by
 unfold fQ;rw[za3];refine zt λn _=>?_;by_cases e:n.Serial=s
 .have h1:(f n).Serial=s:=(hf n).trans e;simp only[Function.comp,zb e,zb h1]
 .simp only[Function.comp,za e]
theorem p9.gQ{σ:Int->Int}{x:Hp}{m:a8}(hS:jJ x)(hf:aO x [])(q:p9 σ x m){h:Int}(hh:h∈lv x.S):p9 σ (gQ x h) (qZ m (σ h)):=by
 have hR:=hS.sr;have ho:=K5 hR hh;have p:=o6 hR hh;have hno:AZ x.S (fL (ob x.S h)):=⟨ho.s1,ho.s2,ho.st,ho.wk,ho.p1,ho.p2,ho.fl⟩;have q1:=q.put (o:=fL (ob x.S h)) hR hh rfl hno (f:=Gr) (by
  unfold Sh.nd Gr;rw[E9 hR p,zB p.2.1])
 have hpr:HN m (σ h)=(ob x.S h).Prog:=by
  unfold HN;rw[q.find hR p.d,E9 hR p];rfl
 have q2:p9 σ (⟨df x.S h (fL (ob x.S h)),x.Roots,x.b7,x.T,⟨x.Q.L ++ [Bc x h],x.Q.Cap⟩⟩:Hp) (Gy (xY m (fQ m.Nodes (σ h) Gr)) (m.Tasks ++ [⟨1,σ h,HN m (σ h)⟩])):=by
  refine⟨q1.gd,q1.nd,q1.sl,q1.ge,q1.la,q1.npl,q1.se,q1.ro,q1.ce,q1.p1,q1.p2,?_⟩;show m.Tasks++_=(x.Q.L ++ [Bc x h]).map (tx σ);rw[ms,q.tk,hpr];congr 1
 have hR1:SR (df x.S h (fL (ob x.S h))):=bZ hR hh rfl hno;have hl1:h∈lv (df x.S h (fL (ob x.S h))):=by rw[iV (o:=fL (ob x.S h)) hR hh rfl hno];exact hh
 have q3:=q2.WA hR1 (h:=h) (.inr hl1) (k:=Ey m (σ h)) (λ_ hs=>by
  have e:ob (df x.S h (fL (ob x.S h))) h=fL (ob x.S h):=by
   rw[gw (o:=fL (ob x.S h)) hR hh rfl hno (by have:=H2 hR hh;omega),zb rfl]
  change (ob (df x.S h (fL (ob x.S h))) h).Strong<12 at hs
  show (ob (df x.S h (fL (ob x.S h))) h).Strong=_;rw[e] at hs |-;rw[q.lk hS hh];show (ob x.S h).Strong=_;rw[hf h hh hs,I2];rfl)
 have e:(if σ h≠0/\11<=Ey m (σ h) then uP (Gy (xY m (fQ m.Nodes (σ h) Gr)) (m.Tasks ++ [⟨1,σ h,HN m (σ h)⟩])) (σ h) else (Gy (xY m (fQ m.Nodes (σ h) Gr)) (m.Tasks ++ [⟨1,σ h,HN m (σ h)⟩])))=qZ m (σ h):=by
  unfold qZ fX;split
  .unfold uP;dsimp only;rw[Jd (f:=Gr) _ (λ_=>rfl),Jd (f:=Ee) _ (λ_=>rfl)];rfl
  .rfl
 rw[e] at q3;exact q3
def HD(m:a8)(i n:Nat)(p:Int):a8:=⟨m.Nodes ++ [⟨m.Serial+1,i,p,false,true,false,List.replicate n 0⟩],m.Slots.set i (m.Serial+1),m.Gens,m.Last,m.Places,m.Serial+1,m.Roots,m.b7,m.Pairs,m.Tasks,m.Progs⟩
theorem p9.mk'{σ:Int->Int}{x:Hp}{m:a8}(hx:K6 x)(q:p9 σ x m){i:Nat}(hi:i<x.S.S.b7.length)(h0:(Sh.ce x.S i).State=0){n:Nat}(hn:n<=4){p:Int}(hp : -1<=p/\p<=5) :
  ∃σ',p9 σ' (wS x (dA x.S i n p)) (HD m i n p)/\σ' (cu x.S i)=x.S.Serial+1:=by
 have hS:=hx.sh;have hR:=hS.sr;have hc:=λj=>mj hR hi h0 hn hp j;have hl:=jX hR hi h0 hn hp;have hT0:¬Th (Sh.ce x.S i):=by unfold Th;rw[h0];decide
 have hpos:=tN hR hi;have old:∀ {k:Int} {j:Nat},U6 x.S k j->k≠cu x.S i:=λ{k j} a e=>by
  have hj:=Ab hR hi h0 hn hp a;have h1:=a.2.2;rw[e] at h1;unfold cu at h1;have:=a.1;have:=hR.len;omega
 refine⟨λh=>if h=cu x.S i then x.S.Serial+1 else σ h,?_,zb rfl⟩;generalize hσ:(λh=>if h=cu x.S i then x.S.Serial+1 else σ h)=σ';have sn:σ' (cu x.S i)=x.S.Serial+1:=by subst hσ;exact zb rfl
 have so:∀k,(k=0\/∃j,U6 x.S k j)->σ' k=σ k:=λk hk=>by
  subst hσ;refine za ?_;rcases hk with e | ⟨j,a⟩
  .omega
  .exact old a
 have nd':∀j,Th (Sh.ce x.S j)->j<x.S.S.b7.length->Sh.nd σ' x.S j=Sh.nd σ x.S j:=λj hj hjl=>by
  unfold Sh.nd;congr 1;refine zt λv hv=>so v ?_;rcases hj with h1 | h2
  .have hA:At x.S (cu x.S j) j:=⟨hjl,h1,rfl⟩;have hlv:=(ic hR).2 ⟨j,hA⟩;rw[<-E9 hR hA] at hv;exact Od hR q.gd (hS.fl _ hlv v hv)
  .rw[((hx.wk j hjl (.inr h2)).2 h2).2.1] at hv;cases hv
 have sn0:Sn σ' x.S m.Nodes:=⟨q.nd.up,λk=>(q.nd.mem k).trans ⟨λ⟨j,a,b,c⟩=>⟨j,a,b,c.trans (nd' j b a).symm⟩,λ⟨j,a,b,c⟩=>⟨j,a,b,c.trans (nd' j b a)⟩⟩⟩;refine⟨⟨?_,λk j a=>?_⟩,?_,?_,?_,q.la,q.npl,?_,?_,?_,q.p1,λk=>?_,?_⟩;·rw[so 0 (.inl rfl)];exact q.gd.z
 .rcases (On hR hi h0 hn hp).1 a with b | ⟨rfl,rfl⟩
  .rw[so k (.inr ⟨j,b⟩),q.gd.f k j b];show _=(Sh.ce (dA x.S i n p) j).Val.Serial;rw[hc,za (Ab hR hi h0 hn hp b)]
  .rw[sn];show _=(Sh.ce (dA x.S j n p) j).Val.Serial;rw[hc,zb rfl]
 .have:=sn0.add (s':=dA x.S i n p) hR hi hl (λj hj=>by rw[hc,za hj]) hT0 (by rw[hc,zb rfl];exact .inl rfl) (by rw[hc,zb rfl];show x.S.Serial<x.S.Serial+1;omega);have e:Sh.nd σ' (dA x.S i n p) i=⟨m.Serial+1,i,p,false,true,false,List.replicate n 0⟩:=by
   unfold Sh.nd;rw[hc,zb rfl];dsimp only;rw[q.se,zB rfl,zQ (by decide),zcg,so 0 (.inl rfl),q.gd.z]
  rw[e] at this;exact this
 .show m.Slots.set i (m.Serial+1)=List.map (λj=>PB (Sh.ce (dA x.S i n p) j)) (List.range (dA x.S i n p).S.b7.length);rw[hl,q.sl,vV,q.se];refine U2 λj hj=>?_;rw[hc];by_cases c:j=i
  .rw[zb c,zb c];rfl
  .rw[za c,za c]
 .show m.Gens=List.map (λj=>(Sh.ce (dA x.S i n p) j).Gen) (List.range (dA x.S i n p).S.b7.length);rw[hl,q.ge];refine U2 λj hj=>?_;rw[hc];split;·rename_i c;rw[c]
  .rfl
 .show m.Serial+1=x.S.Serial+1;rw[q.se]
 .show m.Roots=x.Roots.map σ';rw[q.ro];exact zt λv hv=>(so v (Od hR q.gd (hS.rt v hv))).symm
 .show m.b7=x.b7.map (wx σ');rw[q.ce];refine zt λc hcc=>?_;unfold wx;rw[so _ (lR hS hcc)]
 .show k∈m.Pairs↔∃a b,Has x.T a b/\k=⟨σ' a,σ' b⟩;rw[q.p2];have hh:∀a b,Has x.T a b->σ' a=σ a/\σ' b=σ b:=λa b h=>⟨so a (Od hR q.gd (.inr (hS.pr a b h).1)),so b (Od hR q.gd (.inr (hS.pr a b h).2))⟩;constructor
  .rintro⟨a,b,h,rfl⟩;exact⟨a,b,h,by rw[(hh a b h).1,(hh a b h).2]⟩
  .rintro⟨a,b,h,rfl⟩;exact⟨a,b,h,by rw[(hh a b h).1,(hh a b h).2]⟩
 .show m.Tasks=x.Q.L.map (tx σ');rw[q.tk];refine zt λt ht=>?_;unfold tx;split
  .rename_i c;rcases (hS.tk t ht).2.2 with d | d
   .rw[so _ (Od hR q.gd (.inr d.2.1))]
   .rw[d.1] at c;exact absurd c (by decide)
  .rfl
def Tx(m:a8)(n:b8):Bool:=n.Alive&&(!n.Stuck&&Ey m n.Serial==0)
def Nj(n:b8):Bool:=decide (0<=n.Prog) && !n.Started
def sH(m:a8):a8:=match m.Nodes.find? (Tx m) with
 | none=>m
 | some n=>if Nj n then qZ m n.Serial else Bg m [n.Serial]
def gx:Nat->a8->a8
 | 0,m=>m
 | n+1,m=>gx n (sH m)
theorem jG(n:Nat)(m:a8):gx (n+1) m=sH (gx n m):=by
 induction n generalizing m with
 | zero=>rfl
 | succ n ih=>show gx (n+1) (sH m)=_;rw[ih];rfl
def lM(m:a8):a8:=gx 100 m
section
variable{σ:Int->Int}{x:Hp}{m:a8}(hx:K6 x)(q:p9 σ x m)
include hx q
theorem p9.zr:m.Nodes.find? (Tx m)=(Sh.zr x).head?.map λh=>Sh.nd σ x.S (D7 h):=by
 have hR:=hx.sh.sr;have e:m.Nodes.filter (Tx m)=(Sh.zr x).map λh=>Sh.nd σ x.S (D7 h):=by
  have:Tx m=λn=>n.Alive&&(!n.Stuck&&Ey m n.Serial==0):=rfl;rw[this,<-zan,zan,pm (λn _=>Bool.and_comm _ _),<-zan,q.nd.alive hR,zcs];congr 1;unfold Sh.zr;refine pm λh hh=>?_;have p:=o6 hR hh;show (!decide (12<=(Sh.ce x.S (D7 h)).Val.Strong)&&Ey m (Sh.ce x.S (D7 h)).Val.Serial==0)=_;rw[<-q.gd.f h _ p.d,q.lk hx.sh hh,<-E9 hR p];by_cases c:(ob x.S h).Strong<12
  .have:=hx.fair h hh c;rw[I2] at this;rw[zQ (by omega),za8];simp;omega
  .rw[zB (by omega),za8];simp;omega
 rw[<-List.head?_filter,e,List.head?_map]
theorem p9.GK:p9 σ (Sh.GK x) (sH m):=by
 have hR:=hx.sh.sr;unfold sH;rw[q.zr hx];cases e:Sh.zr x with
 | nil=>
  rw[od e];exact q
 | cons z l=>
  rw[kq e];obtain⟨hz,h0⟩:=de.1 (e▸zg:z∈Sh.zr x);have p:=o6 hR hz;show p9 σ _ (if Nj (Sh.nd σ x.S (D7 z)) then qZ m (Sh.ce x.S (D7 z)).Val.Serial else Bg m [(Sh.ce x.S (D7 z)).Val.Serial]);rw[<-q.gd.f z _ p.d,E9 hR p];show p9 σ _ (if due (Sh.ce x.S (D7 z)).Val then _ else _);split;·exact q.gQ hx.sh hx.fair hz
  .exact q.gV hx (ds:=[z]) (me.2 ⟨by simp,zb3⟩) (λd hd=>by rw[zp] at hd;rw[hd];exact hz) λd hd=>by
    rw[zp] at hd;rw[hd,h0];decide
end
theorem p9.oU{σ:Int->Int}{x:Hp}{m:a8}(hx:K6 x)(q:p9 σ x m):∀n,p9 σ (Sh.oU n x) (gx n m)
 | 0=>q
 | n+1=>by
  rw[Sh.fM,jG];exact (p9.oU hx q n).GK (Q2 hx n)
theorem p9.bJ{σ:Int->Int}{x:Hp}{m:a8}(hx:K6 x)(q:p9 σ x m):p9 σ (Sh.bJ x) (lM m):=q.oU hx 100
theorem GU{α:Type}{b:Nat}{acc:List α}{x:α}(hb:0<b)(h:(acc.length+1)*b<=140737488355328):app b acc [x]=some (acc ++ [x]):=J0 hb (by simpa using h)
theorem JC{n b m:Nat}(h:n<=m)(hb:b<=1000)(hm:m<=1000000):n*b<=140737488355328:=by
 have h1:n*b<=1000000*1000:=Nat.mul_le_mul (by omega) hb;omega
theorem ll{α:Type}{b:Nat}{l:List α}{P:α->Option Bool}{p:α->Bool}(hP:∀x∈l,P x=some (p x))(hb:0<b)(hb2:b<=1000)(hl:l.length<=100000) :
  jn (λ(j15:List α)=>some j15) (λκ14=>
  (lp (S:=Int × (List α)) (E:=(List α)) (λ((s17,s18):Int × (List α))=>
   if (decide (s17<(l.length:Int))) then
    jn (λ(j25:List α)=>
     some (.inl (u4 (s17+1),j25))) (λκ24=>
     (ix l s17).bind λv26=>
     (P v26).bind λv27=>
     if v27 then
      (app b s18 [v26]).bind λv28=>
      κ24 v28
     else
     κ24 s18)
   else
   some (.inr s18)) (0,[])).bind λe16=>
  κ14 e16)=some (l.filter p):=by
 show (lp _ _).bind (λe16=>some e16)=_;rw[V5 (f:=_) l (λb x=>if p x then b ++ [x] else b) (λb=>b) (λk b=>b.length<=k) (by omega) (zW _) (λk hk b hb'=>?_) (λb _=>?_)];·rw[a0d,foldl_filter,zcj]
 .constructor
  .simp only[jn];rw[zb (by simpa using hk),r9 hk,a0d,hP _ (zh hk),a0d,n9 (by omega)];by_cases c:p l[k]=true
   .rw[c,zb rfl,zb rfl,GU hb (JC (m:=1000000) (by omega) hb2 (by omega)),a0d]
   .rw[Bool.not_eq_true] at c;rw[c,za (by simp),za (by simp)]
  .split;·simp;omega
   .omega
 .simp only[];rw[za (by simp)]
theorem map_eq{α β:Type}{b:Nat}{l:List α}{P:α->Option β}{p:α->β}(hP:∀x∈l,P x=some (p x))(hb:0<b)(hb2:b<=1000)(hl:l.length<=100000) :
  jn (λ(j10:List β)=>some j10) (λκ9=>
  (lp (S:=Int × (List β)) (E:=(List β)) (λ((s12,s13):Int × (List β))=>
   if (decide (s12<(l.length:Int))) then
    (ix l s12).bind λv16=>
    (P v16).bind λv17=>
    (app b s13 [v17]).bind λv18=>
    some (.inl (u4 (s12+1),v18))
   else
   some (.inr s13)) (0,[])).bind λe11=>
  κ9 e11)=some (l.map p):=by
 show (lp _ _).bind (λe16=>some e16)=_;have key:∀(l:List α) (acc:List β),l.foldl (λb x=>b ++ [p x]) acc=acc++l.map p:=by
  intro l;induction l with
  | nil=>intro acc;simp
  | cons x l ih=>intro acc;rw[zaj,ih];simp
 rw[V5 (f:=_) l (λb x=>b ++ [p x]) (λb=>b) (λk b=>b.length<=k) (by omega) (zW _) (λk hk b hb'=>?_) (λb _=>?_)];·rw[a0d,key,zcj]
 .constructor
  .simp only[];rw[zb (by simpa using hk),r9 hk,a0d,hP _ (zh hk),a0d,GU hb (JC (m:=1000000) (by omega) hb2 (by omega)),a0d,n9 (by omega)]
  .simp;omega
 .simp only[];rw[za (by simp)]
theorem Fq{α:Type}{l:List α}{P:α->Option Bool}{p:α->Bool}(hP:∀x∈l,P x=some (p x))(hl:l.length<=1000){a:α}(h:l.find? p=some a):∃k:Nat,∃hk:k<l.length,l[k]=a /\
  jn (λ(_:Unit)=>some (-1)) (λκ6=>
  (lp (S:=Int) (E:=Int ⊕ Unit) (λ(s9:Int)=>
   if (decide (s9<(l.length:Int))) then
    (ix l s9).bind λv11=>
    (P v11).bind λv12=>
    if v12 then
     some (.inr (.inl s9))
    else
    some (.inl (u4 (s9+1)))
   else
   some (.inr (.inr ()))) 0).bind λe8=>
  match e8 with
  | .inl w=>some w
  | .inr w=>κ6 w)=some (k:Int):=by
 obtain⟨h1,k,hk,e,hn⟩:=List.find?_eq_some_iff_getElem.1 h;refine⟨k,hk,e,?_⟩;simp only[jn];refine dO l.length (λi=>i<=k) (by omega) (zW _) (λi hi hik=>?_) (λhlk=>by omega);rw[zb (by simpa using hi),r9 hi,a0d,hP _ (zh hi),a0d];rcases zD i k with c | c
 .left;have:=hn i c;simp only[zb9] at this;rw[this,za (by simp),n9 (by omega)];exact⟨rfl,c⟩
 .have:i=k:=by omega
  subst this;right;rw[e,h1,zb rfl];exact⟨_,rfl,rfl⟩
theorem Fp{α:Type}{l:List α}{P:α->Option Bool}{p:α->Bool}(hP:∀x∈l,P x=some (p x))(hl:l.length<=1000)(h:l.find? p=none) :
  jn (λ(_:Unit)=>some (-1)) (λκ6=>
  (lp (S:=Int) (E:=Int ⊕ Unit) (λ(s9:Int)=>
   if (decide (s9<(l.length:Int))) then
    (ix l s9).bind λv11=>
    (P v11).bind λv12=>
    if v12 then
     some (.inr (.inl s9))
    else
    some (.inl (u4 (s9+1)))
   else
   some (.inr (.inr ()))) 0).bind λe8=>
  match e8 with
  | .inl w=>some w
  | .inr w=>κ6 w)=some (-1:Int):=by
 rw[zch] at h;simp only[jn];refine dO l.length (λ_=>True) (by omega) trivial (λi hi _=>.inl ⟨?_,trivial⟩) (λ_=>⟨.inr (),by simp,rfl⟩);have:=h _ (zh hi);rw[Bool.not_eq_true] at this;rw[zb (by simpa using hi),r9 hi,a0d,hP _ (zh hi),a0d,this,za (by simp),n9 (by omega)]
theorem kX{E R:Type}{x:Option E}{e:E}{K:E->Option R}(h:x.bind some=some e):x.bind K=K e:=by
 cases x with
 | none=>cases h
 | some v=>obtain rfl:=zJ h;rfl
theorem EM{α R:Type}{b:Nat}{l:List (List α)}(hb:0<b)(hb2:b<=1000)(hl:l.length<=1000)(hs:l.flatten.length<=100000){K:List α->Option R} :
  (lp (S:=Int × (List α)) (E:=(List α)) (λ((s25,s26):Int × (List α))=>
      if (decide (s25<(l.length:Int))) then
       (ix l s25).bind λv29=>
       (app b s26 v29).bind λv30=>
       some (.inl (u4 (s25+1),v30))
      else
      some (.inr s26)) (0,[])).bind K=K l.flatten:=by
 refine kX (bD (t0:=([]:List α)) l.length (λk acc=>acc=(l.take k).flatten) (by omega) (by simp) (λk acc hk e=>.inl ⟨(l.take (k+1)).flatten,?_,rfl⟩) (λacc e=>⟨l.flatten,?_,rfl⟩))
 .subst e;have h2:(l.take (k+1)).flatten=(l.take k).flatten++l[k]:=by
   rw[zx hk,zbx];simp
  have h3:(l.take (k+1)).flatten.length<=l.flatten.length:=by
   conv=>rhs;rw[<-zb4 (k+1) l,zbx,zL]
   omega
  simp only[];rw[zb (by simpa using hk),r9 hk,a0d,J0 hb (JC (m:=100000) (by rw[h2,zL] at h3;omega) hb2 (by omega)),a0d,n9 (by omega),h2]
 .subst e;simp only[];rw[za (by simp),zV]
theorem Rk{R:Type}{α:Type}{l:List (List α)}(hl:l.length<=1000)(hs:l.flatten.length<=100000){K:Int->Option R} :
  (lp (S:=Int × Int) (E:=Int) (λ((s48,s49):Int × Int)=>
   if (decide (s49<(l.length:Int))) then
    jn (λ(j54:Int)=>
     some (.inl (j54,u4 (s49+1)))) (λκ53=>
     (ix l s49).bind λv55=>
     if (decide ((u4 (s48+(v55.length:Int)))<0)) then
      none
     else
     κ53 (u4 (s48+(v55.length:Int))))
   else
   some (.inr s48)) (0,0)).bind K=K (l.flatten.length:Int):=by
 refine kX (JE (t0:=(0:Int)) l.length (λk acc=>acc=((l.take k).flatten.length:Int)) (by omega) (by simp) (λk acc hk e=>⟨((l.take (k+1)).flatten.length:Int),?_,rfl⟩) (λacc e=>⟨(l.flatten.length:Int),?_,rfl⟩))
 .subst e;have h2:(l.take (k+1)).flatten.length=(l.take k).flatten.length+l[k].length:=by
   rw[zx hk,zbx];simp
  have h3:(l.take (k+1)).flatten.length<=l.flatten.length:=by
   conv=>rhs;rw[<-zb4 (k+1) l,zbx,zL]
   omega
  simp only[jn];rw[zb (by simpa using hk),r9 hk,a0d,wi (by omega) (by omega),za (by simp;omega),n9 (by omega),h2];congr 4
 .subst e;simp only[];rw[za (by simp),zV]
theorem GZ{α:Type}{b:Nat}{z:α}{l:List (List α)}(hb:0<b)(hb2:b<=1000)(hl:l.length<=1000)(hs:l.flatten.length<=100000) :
 jn (λ(j11:Int)=>
  jn (λ(_:Unit)=>
   if (decide ((u4 (j11-(u4 (0-0)))) > 0)) then
    (mk b (u4 (j11-(u4 (0-0)))) z).bind λv14=>
    jn (λ(j23:List α)=>
     some j23) (λκ22=>
     (lp (S:=Int × (List α)) (E:=(List α)) (λ((s25,s26):Int × (List α))=>
      if (decide (s25<(l.length:Int))) then
       (ix l s25).bind λv29=>
       (app b s26 v29).bind λv30=>
       some (.inl (u4 (s25+1),v30))
      else
      some (.inr s26)) (0,[])).bind λe24=>
     κ22 e24)
   else
   jn (λ(j39:List α)=>
    some j39) (λκ38=>
    (lp (S:=Int × (List α)) (E:=(List α)) (λ((s41,s42):Int × (List α))=>
     if (decide (s41<(l.length:Int))) then
      (ix l s41).bind λv45=>
      (app b s42 v45).bind λv46=>
      some (.inl (u4 (s41+1),v46))
     else
     some (.inr s42)) (0,[])).bind λe40=>
    κ38 e40)) (λκ12=>
   if (decide (j11<0)) then
    none
   else
   κ12 ())) (λκ10=>
  (lp (S:=Int × Int) (E:=Int) (λ((s48,s49):Int × Int)=>
   if (decide (s49<(l.length:Int))) then
    jn (λ(j54:Int)=>
     some (.inl (j54,u4 (s49+1)))) (λκ53=>
     (ix l s49).bind λv55=>
     if (decide ((u4 (s48+(v55.length:Int)))<0)) then
      none
     else
     κ53 (u4 (s48+(v55.length:Int))))
   else
   some (.inr s48)) (0,0)).bind λe47=>
  κ10 e47)=some l.flatten:=by
 refine (Rk hl hs).trans ?_;simp only[jn];have h0:u4 (0-0)=0:=rfl;rw[za (by simp),h0,Int.sub_zero,wi (by omega) (by omega)];have hm:mk b ((l.flatten.length:Nat):Int) z=some (List.replicate l.flatten.length z):=lf (by rw[Nat.mul_comm];have:=JC (n:=l.flatten.length) (m:=100000) hs hb2 (by omega);omega) (by omega);split
 .rw[hm,a0d];exact EM hb hb2 hl hs
 .exact EM hb hb2 hl hs
structure Bn (m:a8):Prop where
 nl:m.Nodes.length<=24
 up:m.Nodes.Pairwise λa b=>a.Serial<b.Serial
 fl:∀n∈m.Nodes,n.Fields.length<=4
 sg:∀n∈m.Nodes,0<=n.Slot/\n.Slot.toNat<m.Slots.length/\n.Slot.toNat<m.Gens.length
 gg:∀g∈m.Gens,0<=g/\g<=9
 gl:m.Slots.length<=24/\m.Gens.length<=24
structure Bl (m:a8):Prop where
 rl:m.Roots.length<=30
 wl:m.b7.length<=30
 pa:m.Pairs.length<=30
 tl:m.Tasks.length<=200
theorem p9.bn{σ:Int->Int}{x:Hp}{m:a8}(hR:SR x.S)(q:p9 σ x m):Bn m:=by
 refine⟨q.nd.len hR,q.nd.up,λn hn=>?_,λn hn=>?_,λg hg=>?_,?_,?_⟩
 .obtain⟨i,hi,ti,rfl⟩:=(q.nd.mem n).1 hn;show ((Sh.ce x.S i).Val.Fields.map σ).length<=4;rw[zl];exact (hR.ok i hi ti).fl
 .obtain⟨i,hi,ti,rfl⟩:=(q.nd.mem n).1 hn;rw[q.sl,q.ge,zl,zl,zcb];unfold Sh.nd;simp;exact hi
 .rw[q.ge] at hg;obtain⟨i,hi,rfl⟩:=zq.1 hg;have:=hR.cell i (za7.1 hi);have:=hR.l9;omega
 .rw[q.sl,zl,zcb];exact hR.len
 .rw[q.ge,zl,zcb];exact hR.len
theorem p9.bl{σ:Int->Int}{x:Hp}{m:a8}(hS:jJ x)(q:p9 σ x m):Bl m:=by
 refine⟨?_,?_,?_,?_⟩;·rw[q.ro,zl,hS.r6];omega
 .rw[q.ce,zl,hS.c6];omega
 .rw[(q.perm hS).length_eq,zl];have:=sA hS.hr.l8;omega
 .rw[q.tk,zl];have:=hS.q30;omega
theorem Yh(m:a8):Ey m 0=0:=by
 have h:∀l:List Int,T3 l 0=0:=λl=>by unfold T3;rw[zb rfl]
 unfold Ey;rw[h,h,h];have:((m.Nodes.filter (·.Alive)).map λn=>T3 n.Fields 0)=(m.Nodes.filter (·.Alive)).map λ_=>0:=zt λn _=>h _;rw[this];have hz:∀l:List b8,(l.map λ_=>0).sum=0:=λl=>by
  induction l with
  | nil=>rfl
  | cons a l ih=>rw[zT,zbe,ih]
 rw[hz]
theorem yZ(m:a8):X0 m=some ⟨m.Tasks,30⟩:=rfl
theorem JG{m:a8}(B:Bn m):B1 m.Nodes=some (m.Nodes.filter (·.Alive)):=by
 unfold B1;exact ll (λn _=>rfl) (by omega) (by omega) (by have:=B.nl;omega)
theorem Nx:∀(l:List b8),(∀n∈l,n.Fields.length<=4)->(l.map (·.Fields)).flatten.length<=4*l.length
 | [],_=>by simp
 | n::l,h=>by
  have h1:=Nx l λk hk=>h k (zn _ hk);have h2:=h n zg;simp only[zT,List.flatten_cons,zL,zH];omega
theorem wK(y:Int):∀l:List b8,T3 (l.map (·.Fields)).flatten y=(l.map λn=>T3 n.Fields y).sum
 | []=>I2 y
 | x::l=>by rw[zT,List.flatten_cons,G2,wK y l,zT,zbe]
theorem Du{m:a8}(B:Bn m)(C:Bl m)(s:Int):ax m s=some (Ey m s:Int):=by
 have hv:B7 m.Pairs=some (m.Pairs.map (·.Val)):=by
  unfold B7;exact map_eq (λn _=>rfl) (by omega) (by omega) (by have:=C.pa;omega)
 have hh:gy ⟨m.Tasks,30⟩=some (kJ m):=PE (q:=⟨m.Tasks,30⟩) (by have:=C.tl;show m.Tasks.length<=1000;omega);have hal:(m.Nodes.filter (·.Alive)).length<=24:=zP (zE ..) B.nl;have hfl:((m.Nodes.filter (·.Alive)).map (·.Fields)).flatten.length<=96:=by
  have:=Nx (m.Nodes.filter (·.Alive)) λn hn=>B.fl n (zj.1 hn).1;omega
 have Lp:(kJ m).length<=200:=by
  unfold kJ pz;rw[zl];exact zP (zE ..) C.tl
 have eX:(m.Pairs.map (·.Val)).length<=30:=by rw[zl];exact C.pa
 unfold ax;simp only[jn];rw[show lg m=some m from rfl,a0d,hv,a0d,yZ,a0d,hh,a0d,JG B,a0d];refine (kX (e:=[m.Roots,m.Pairs.map (·.Val),kJ m]++(m.Nodes.filter (·.Alive)).map (·.Fields)) (bD (t0:=[m.Roots,m.Pairs.map (·.Val),kJ m]) (m.Nodes.filter (·.Alive)).length (λk acc=>acc = [m.Roots,m.Pairs.map (·.Val),kJ m]++((m.Nodes.filter (·.Alive)).take k).map (·.Fields)) (by omega) (by simp) (λk acc hk e=>.inl ⟨_,?_,rfl⟩) (λacc e=>⟨acc,?_,?_⟩))).trans ?_
 .subst e;simp only[];rw[zb (by simpa using hk),r9 hk,a0d,GU (by omega) (by
   rw[zL,zl,zar];simp;omega),a0d,n9 (by omega),zx hk,ms,zai]
  rfl
 .simp only[];rw[za (by simp)]
 .subst e;rw[zV]
 .have hlen:([m.Roots,m.Pairs.map (·.Val),kJ m]++(m.Nodes.filter (·.Alive)).map (·.Fields)).length<=30:=by
   rw[zL,zl];simp;omega
  have hfla:([m.Roots,m.Pairs.map (·.Val),kJ m]++(m.Nodes.filter (·.Alive)).map (·.Fields)).flatten.length<=400:=by
   rw[zbx,zL];simp only[List.flatten_cons,List.flatten_nil,zap,zL];have:=C.rl;omega
  have hc:F9 ([m.Roots,m.Pairs.map (·.Val),kJ m]++(m.Nodes.filter (·.Alive)).map (·.Fields))=some ([m.Roots,m.Pairs.map (·.Val),kJ m]++(m.Nodes.filter (·.Alive)).map (·.Fields)).flatten:=by
   unfold F9;exact GZ (by omega) (by omega) (by omega) (by omega)
  rw[hc,a0d];have hn:Ey m s=T3 ([m.Roots,m.Pairs.map (·.Val),kJ m]++(m.Nodes.filter (·.Alive)).map (·.Fields)).flatten s:=by
   rw[zbx,G2,wK];simp only[List.flatten_cons,List.flatten_nil,zap,G2];unfold Ey;omega
  rw[hn];generalize ([m.Roots,m.Pairs.map (·.Val),kJ m]++(m.Nodes.filter (·.Alive)).map (·.Fields)).flatten=l at hfla |-;refine bD (t0:=(0:Int)) l.length (λk acc=>acc=(T3 (l.take k) s:Int)) (by omega) (by simp[I2]) (λk acc hk e=>.inl ⟨_,?_,rfl⟩) (λacc e=>⟨_,?_,rfl⟩)
  .subst e;have hlt:=Ik (l.take k) s;rw[zar] at hlt;rw[zx hk,G2,I5,I2];simp only[];rw[zb (by simpa using hk),r9 hk,a0d,n9 (by omega)];by_cases c:l[k]=s/\s≠0
   .rw[zb (by simpa using ⟨c.2,c.1⟩),zb c,wi (by omega) (by omega)];congr 4
   .rw[za (by simpa using λa b=>c ⟨b,a⟩),za c];rfl
  .subst e;simp only[];rw[za (by simp),zV]
theorem yV{m:a8}(B:Bn m){s:Int}{n:b8}(h:m.Nodes.find? (λn=>n.Serial==s)=some n):∃k:Nat,∃hk:k<m.Nodes.length,m.Nodes[k]=n/\J6 m s=some (k:Int):=by
 obtain⟨k,hk,e,r⟩:=Fq (P:=λa=>fv a s) (p:=λn=>n.Serial==s) (λn _=>rfl) (by have:=B.nl;omega) h;refine⟨k,hk,e,?_⟩;unfold J6 z6;exact sN r rfl
theorem RU{m:a8}(B:Bn m){s:Int}(h:m.Nodes.find? (λn=>n.Serial==s)=none):J6 m s=some (-1):=by
 have r:=Fp (P:=λa=>fv a s) (p:=λn=>n.Serial==s) (λn _=>rfl) (by have:=B.nl;omega) h;unfold J6 z6;exact sN r rfl
theorem lY{l:List b8}{s:Int}{n:b8}(h:l.find? (λn=>n.Serial==s)=some n):n.Serial=s/\n∈l:=by
 have:=List.find?_some h;exact⟨by simpa using this,List.mem_of_find?_eq_some h⟩
theorem Rl{l:List b8}(up:l.Pairwise λa b=>a.Serial<b.Serial){k:Nat}(hk:k<l.length){s:Int}(hs:l[k].Serial=s)(f:b8->b8):l.set k (f l[k])=fQ l s f:=by
 unfold fQ;refine zb2 (by simp) λj h1 h2=>?_;rw[zcq,t6];rw[zl] at h2;by_cases c:k=j
 .subst c;rw[zb rfl,zb hs]
 .have hne:l[j].Serial≠s:=by
   rw[<-hs];rcases zD k j with d | d
   .have:=zav.1 up k j hk h2 d;omega
   .have:=zav.1 up j k h2 hk (by omega);omega
  rw[za c,za hne]
theorem tc{m:a8}(B:Bn m){s:Int}{n:b8}(h:m.Nodes.find? (λn=>n.Serial==s)=some n){F:b8->Option b8}{f:b8->b8}(hF:∀k,F k=some (f k)) :
  ((J6 m s).bind λv1=>(p8 m.Nodes).bind λv2=>(ix v2 v1).bind λv3=>(F v3).bind λv4=>
   some (⟨(v2.set (v1).toNat v4),m.Slots,m.Gens,m.Last,m.Places,m.Serial,m.Roots,m.b7,m.Pairs,m.Tasks,m.Progs⟩:a8))=some (xY m (fQ m.Nodes s f)):=by
 obtain⟨k,hk,e,r⟩:=yV B h;have hc:p8 m.Nodes=some m.Nodes:=cq (by omega) (JC (m:=24) B.nl (by omega) (by omega));rw[r,a0d,hc,a0d,r9 hk,a0d,hF,a0d];rw[zN,Rl B.up hk (s:=s) (by rw[e];exact (lY h).1)]
theorem RV{m:a8}(B:Bn m){s:Int}{n:b8}(h:m.Nodes.find? (λn=>n.Serial==s)=some n):R4 m s=some (uP m s):=tc B h λ_=>rfl
theorem VE{m:a8}(B:Bn m){s:Int}{n:b8}(h:m.Nodes.find? (λn=>n.Serial==s)=some n):N7 m s=some (xY m (fQ m.Nodes s Gr)):=tc B h λ_=>rfl
theorem XU{m:a8}(B:Bn m){s:Int}{n:b8}(h:m.Nodes.find? (λn=>n.Serial==s)=some n):D1 m s=some (xY m (fQ m.Nodes s lV)):=tc B h λ_=>rfl
theorem VD{m:a8}(B:Bn m){s:Int}{n:b8}(h:m.Nodes.find? (λn=>n.Serial==s)=some n)(l:List Int):P2 m s l=some (xY m (fQ m.Nodes s λn=>XA n l)):=tc B h (F:=λk=>fy k l) λ_=>rfl
theorem Bn.fQ{m:a8}(B:Bn m){s:Int}{f:b8->b8}(h:∀n∈m.Nodes,n.Serial=s->(f n).Serial=n.Serial/\(f n).Slot=n.Slot/\(f n).Fields.length<=4):Bn (xY m (Sh.fQ m.Nodes s f)):=by
 have hser:∀n∈m.Nodes,(if n.Serial=s then f n else n).Serial=n.Serial/\(if n.Serial=s then f n else n).Slot=n.Slot/\(if n.Serial=s then f n else n).Fields.length<=4:=λn hn=>by
  split;·rename_i e;exact h n hn e
  .exact⟨rfl,rfl,B.fl n hn⟩
 refine⟨by show (Sh.fQ m.Nodes s f).length<=24;unfold Sh.fQ;rw[zl];exact B.nl,?_,λn hn=>?_,λn hn=>?_,B.gg,B.gl⟩
 .show (Sh.fQ m.Nodes s f).Pairwise _;unfold Sh.fQ;rw[zbt];refine zbp (λ{a b} ha hb q=>?_) B.up;rw[(hser a ha).1,(hser b hb).1];exact q
 .obtain⟨k,hk,rfl⟩:=zq.1 (show n∈Sh.fQ m.Nodes s f from hn);exact (hser k hk).2.2
 .obtain⟨k,hk,rfl⟩:=zq.1 (show n∈Sh.fQ m.Nodes s f from hn);rw[(hser k hk).2.1];exact B.sg k hk
theorem Bn.fX{m:a8}(B:Bn m)(s:Int):Bn (fX m s):=by
 unfold Sh.fX;split;·exact B.fQ λn hn _=>⟨rfl,rfl,B.fl n hn⟩
 .exact B
theorem Ds{m:a8}(B:Bn m)(C:Bl m){s:Int}(h:s=0\/∃n,m.Nodes.find? (λn=>n.Serial==s)=some n):dR m s=some (fX m s):=by
 unfold dR fX;rw[Du B C,a0d];by_cases c:Ey m s<11
 .rw[zb (by simp;omega),za (by omega)]
 .have h0:s≠0:=λe=>by subst e;rw[Yh] at c;omega
  obtain⟨n,hn⟩:=h.resolve_left h0;rw[za (by simp;omega),zb ⟨h0,by omega⟩,RV B hn,a0d]
theorem yX{m:a8}(B:Bn m)(C:Bl m){s:Int}(h:s=0\/∃n,m.Nodes.find? (λn=>n.Serial==s)=some n){r:Nat}(hr:r<m.Roots.length):V9 m r s=some (dv m r s):=by
 have hro:(fX m s).Roots=m.Roots:=by rw[aP]
 have hc:y8 m.Roots=some m.Roots:=cq (by omega) (JC (m:=30) C.rl (by omega) (by omega));unfold V9;rw[Ds B C h,a0d,hro,hc,a0d,r9 hr,a0d,zN];rfl
theorem Nv{m:a8}{s:Int}{n:b8}(h:m.Nodes.find? (λn=>n.Serial==s)=some n):∃n',(fX m s).Nodes.find? (λn=>n.Serial==s)=some n'/\n'.Prog=n.Prog:=by
 unfold fX;split
 .refine⟨Ee n,?_,rfl⟩;show (fQ m.Nodes s Ee).find? _=_;rw[yw _ (f:=Ee) (λ_=>rfl),h];rfl
 .exact⟨n,h,rfl⟩
theorem Cf{m:a8}(B:Bn m)(C:Bl m){s:Int}{n:b8}(h:m.Nodes.find? (λn=>n.Serial==s)=some n):bb m s=some (qZ m s):=by
 obtain⟨n',hn',ep⟩:=Nv h;have B':=B.fX s;obtain⟨k,hk,e,r⟩:=yV B' hn';unfold bb;rw[Ds B C (.inr ⟨n,h⟩),a0d,r,a0d,r9 hk,a0d,e,VE B' hn',a0d];have ht:(fX m s).Tasks=m.Tasks:=by rw[aP]
 have hc:G7 m.Tasks=some m.Tasks:=cq (by omega) (JC (m:=200) C.tl (by omega) (by omega));dsimp only;rw[ht,hc,a0d,GU (by omega) (JC (m:=201) (by have:=C.tl;omega) (by omega) (by omega)),a0d,ep];unfold qZ HN;rw[h];rw[aP];rfl
theorem yW{m:a8}(B:Bn m)(C:Bl m)(s:Int):P3 m s=some (EJ m s):=by
 unfold P3;cases h:m.Nodes.find? (λn=>n.Serial==s) with
 | none=>
  rw[RU B h,a0d,MR h];simp[B9]
 | some n=>
  obtain⟨k,hk,e,r⟩:=yV B h;obtain⟨hs,hm⟩:=lY h;have hd:decide ((k:Int)<0)=false:=zQ (by omega);rw[r,a0d,hd,GV h];rw[show (false==false)=true from rfl,iu,r9 hk,a0d,e,zb0];have hnm:eI m.b7 s=some (jC m.b7 s:Int):=LA _ (by have:=C.wl;omega) s;cases ha:n.Alive
  .rw[show (false==false)=true from rfl,iu,hnm,a0d,zb0];by_cases c:0<jC m.b7 s
   .rw[zb (by simpa using c),zb (.inr c)]
   .rw[za (by simpa using c),za (by simp[c])];obtain⟨g1,g2,g3⟩:=B.sg n hm;have hp:C7 m.Nodes s=some (m.Nodes.filter λk=>k.Serial != s):=by
     unfold C7;exact ll (P:=λa=>cE a s) (λn _=>rfl) (by omega) (by omega) (by have:=B.nl;omega)
    have hc1:y8 m.Slots=some m.Slots:=cq (by omega) (JC (m:=24) B.gl.1 (by omega) (by omega));have hc2:y8 m.Gens=some m.Gens:=cq (by omega) (JC (m:=24) B.gl.2 (by omega) (by omega));rw[a0d,hp,a0d,hc1,a0d,hc2,a0d,NU g1 g3,a0d];have hg:m.Gens.getD n.Slot.toNat 0=m.Gens[n.Slot.toNat]:=by rw[zd,zc g3];rfl
    unfold Fg;rw[hg,hs];by_cases d:m.Gens[n.Slot.toNat]=m.Last
    .rw[zb (by simpa using d),NU g1 g2,a0d,zb d,zb d]
    .have hb:=B.gg _ (zh g3);rw[za (by simpa using d),NU g1 g2,a0d,za d,za d,wi (by omega) (by omega)]
  .rw[show (true==false)=false from rfl,JP,a0d];simp
theorem yR(m:a8)(s:Int):(rz m s).Roots=m.Roots/\(rz m s).b7=m.b7/\(rz m s).Pairs=m.Pairs/\(rz m s).Tasks=m.Tasks/\(rz m s).Progs=m.Progs:=by
 unfold rz EJ;split;·exact⟨rfl,rfl,rfl,rfl,rfl⟩
 .split <;> exact⟨rfl,rfl,rfl,rfl,rfl⟩
theorem Bl.rz{m:a8}(C:Bl m)(s:Int):Bl (rz m s):=by
 obtain⟨a,b,c,d,_⟩:=yR m s;exact⟨by rw[a];exact C.rl,by rw[b];exact C.wl,by rw[c];exact C.pa,by rw[d];exact C.tl⟩
theorem XV{m:a8}(B:Bn m)(C:Bl m){s:Int}{n:b8}(h:m.Nodes.find? (λn=>n.Serial==s)=some n):((D1 m s).bind λv21=>P3 v21 s)=some (rz m s):=by
 rw[XU B h,a0d,yW (B.fQ (s:=s) (f:=lV) λn hn _=>⟨rfl,rfl,zW _⟩) ⟨C.rl,C.wl,C.pa,C.tl⟩];rfl
theorem NW{σ:Int->Int}{x:Hp}{m:a8}(hR:SR x.S)(q:p9 σ x m)(C:Bl m){ds:List Int}(hl:ds.length<=24)(hn:ds.Nodup)(hm:∀d∈ds,d∈lv x.S/\(ob x.S d).Strong<12/\(ob x.S d).Weak=Sh.jC x.b7 d)(hi:∀d∈ds,∀c∈x.b7,σ c.Target=σ d->c.Target=d){R:Type}{K:a8->Option R} :
  (lp (S:=Int × a8) (E:=a8) (λ((s16,s17):Int × a8)=>
   if (decide (s16<((ds.map σ).length:Int))) then
    (ix (ds.map σ) s16).bind λv20=>
    (D1 s17 v20).bind λv21=>
    (P3 v21 v20).bind λv22=>
    some (.inl (u4 (s16+1),v22))
   else
   some (.inr s17)) (0,m)).bind K=K ((ds.map σ).foldl Sh.rz m):=by
 refine kX (bD (t0:=m) ds.length (λk acc=>acc=(((ds.take k).map σ).foldl Sh.rz m)/\Bl acc) (by omega) ⟨by simp,C⟩ (λk acc hk e=>.inl ⟨_,?_,rfl,e.2.rz (σ ds[k]) |> λh=>?_⟩) (λacc e=>⟨acc,?_,?_⟩))
 .obtain⟨rfl,C'⟩:=e;have hsub:∀d∈ds.take k,d∈ds:=λd hd=>zaf hd;have Q:=p9.Vv (ds.take k) hR q (hn.sublist (zca ..)) (λd hd=>hm d (hsub d hd)) λd hd=>hi d (hsub d hd);obtain⟨r1,r2⟩:=yT (y:=x) hR hn (λd hd=>(hm d hd).1) hk;have hf:=Q.find r1 (o6 r1 r2).d;have hstep:=XV (Q.bn r1) C' hf;simp only[];rw[zb (by simpa using hk),r9 (by simpa using hk),a0d,t6];have:((D1 ((List.map σ (List.take k ds)).foldl Sh.rz m) (σ ds[k])).bind λv21=>(P3 v21 (σ ds[k])).bind λv22=>some (Sum.inl (β:=a8) (u4 ((k:Int)+1),v22)))=some (Sum.inl (((k+1:Nat):Int),Sh.rz ((List.map σ (List.take k ds)).foldl Sh.rz m) (σ ds[k]))):=by
   rw[<-Option.bind_assoc,hstep,a0d,n9 (by omega)]
  rw[this,zx hk,ms,zas];rfl
 .rw[zx hk,ms,zas];rw[e.1] at h;exact h
 .simp only[];rw[za (by simp)]
 .rw[e.1,zV]
theorem Fz{σ:Int->Int}{x:Hp}{m:a8}(hx:K6 x)(q:p9 σ x m){ds:List Int}(hn:ds.Nodup)(hm:∀d∈ds,d∈lv x.S)(hs:∀d∈ds,(ob x.S d).Strong<12):fk m (ds.map σ)=some (Bg m (ds.map σ)):=by
 have hS:=hx.sh;have hR:=hS.sr;have C:=q.bl hS;have hlen:ds.length<=24:=zP (ab hn hm) (L4 (z8.2 hR));have hln:(ds.map σ).length<=24:=by rw[zl];exact hlen
 have hcl:(cls m.b7 (ds.map σ)).length<=30:=by
  unfold cls;refine zP (zE ..) ?_;rw[zcb];exact C.wl
 have hct:(jN m.b7 (ds.map σ)).length<=30:=by rw[nk];exact hcl
 have h2:C2 (tR (cls m.b7 (ds.map σ))) (lS m.b7 (ds.map σ))=some (jN m.b7 (ds.map σ)):=by
  unfold C2;refine (map_eq (P:=λa=>fm a (lS m.b7 (ds.map σ))) (p:=λa:Int=>(⟨2,a,((lS m.b7 (ds.map σ)).getD a.toNat cz).Call⟩:g6)) (λa ha=>?_) (by omega) (by omega) (by unfold tR;rw[zl];omega)).trans ?_
  .unfold tR at ha;obtain⟨w,hw,rfl⟩:=zq.1 ha;have hwl:w<(lS m.b7 (ds.map σ)).length:=by unfold lS;rw[zl];exact Hc hw
   unfold fm;rw[r9 hwl,a0d,zN,zd,zc hwl];rfl
  .unfold jN tR;rw[za3];congr 1;refine zt λw hw=>?_;have hwl:=Hc hw;show (⟨2,(w:Int),_⟩:g6)=_;congr 1;unfold lS;rw[zN,zd,zC,zc hwl,zd,zc hwl];exact (pc _ _).2.1
 have h3:F6 [m.Tasks,jN m.b7 (ds.map σ)]=some (m.Tasks++jN m.b7 (ds.map σ)):=by
  unfold F6;refine (GZ (by omega) (by omega) (by simp) (by have:=C.tl;simp;omega)).trans ?_;simp
 have h4:D3 m.Pairs (ds.map σ)=some (m.Pairs.filter λp=>decide (p.Key∉ds.map σ)):=by
  unfold D3;refine ll (P:=λa=>fp a (ds.map σ)) (λp _=>?_) (by omega) (by omega) (by have:=C.pa;omega);unfold fp;rw[contains_eq _ _ (by omega),a0d];congr 1;by_cases c:p.Key∈ds.map σ
  .simp[c]
  .simp[c]
 unfold fk;simp only[jn];rw[EP _ _ (by have:=C.wl;omega) (by omega),a0d,h2,a0d,h3,a0d,h4,a0d];have q1:=q.TD hx hn hm;have C1:Bl (WS (Gy (Tt m (lS m.b7 (ds.map σ))) (m.Tasks++jN m.b7 (ds.map σ))) (m.Pairs.filter λp=>decide (p.Key∉ds.map σ))):=by
  refine⟨C.rl,?_,?_,?_⟩
  .show (lS m.b7 (ds.map σ)).length<=30;unfold lS;rw[zl];exact C.wl
  .exact zP (zE ..) C.pa
  .show (m.Tasks++jN m.b7 (ds.map σ)).length<=200;rw[zL];have:m.Tasks.length<=30:=by rw[q.tk,zl];exact hS.q30
   omega
 refine (NW (x:=(⟨x.S,x.Roots,lS x.b7 ds,(lO x.T ds).1,⟨x.Q.L++jN x.b7 ds,x.Q.Cap⟩⟩:Hp)) hR q1 C1 hlen hn (λd hd=>⟨hm d hd,hs d hd,?_⟩) λd hd c hc e=>?_).trans rfl
 .show (ob x.S d).Weak=(Sh.jC (lS x.b7 ds) d:Int);have p:=o6 hR (hm d hd);rw[Dy,E9 hR p];have:=(hx.wk _ p.1 p.d.2.1).1;rw[<-p.2.2] at this;exact this
 .refine q.gd.Xc hR ?_ (.inr ⟨_,(o6 hR (hm d hd)).d⟩) e;have hc:c∈lS x.b7 ds:=hc;unfold lS at hc;obtain⟨c',hc',rfl⟩:=zq.1 hc;rw[(pc ds c').1];exact lR hS hc'
theorem Cx{m:a8}(h:m.Nodes.find? (Tx m)=none):sH m=m:=by
 unfold sH;rw[h]
theorem Mc{m:a8}{n:b8}(h:m.Nodes.find? (Tx m)=some n):sH m=if Nj n then qZ m n.Serial else Bg m [n.Serial]:=by
 unfold sH;rw[h]
theorem mg{σ:Int->Int}{x:Hp}{m:a8}(hx:K6 x)(q:p9 σ x m):H6 m=some (lM m):=by
 obtain⟨n,h48,hz,hj,he⟩:=vZ hx;have hM:lM m=gx n m:=by
  have hfix:sH (gx n m)=gx n m:=by
   refine Cx ?_;rw[(q.oU hx n).zr (Q2 hx n),hz];rfl
  have key:∀k,gx (n+k) m=gx n m:=λk=>by
   induction k with
   | zero=>rfl
   | succ k ih=>rw[<-rg,jG,ih,hfix]
  have:=key (100-n);rw[show n+(100-n)=100 by omega] at this;exact this
 unfold H6;rw[hM];have hP:∀k,∀a∈(gx k m).Nodes,aU a (gx k m)=some (Tx (gx k m) a):=λk a _=>by
  have qk:=q.oU hx k;have B:=qk.bn (Q2 hx k).sh.sr;have C:=qk.bl (Q2 hx k).sh;unfold aU Tx;cases a.Alive <;> cases a.Stuck
  .rfl
  .rfl
  .show ((B9 true 0 (ax (gx k m) a.Serial)).bind _)=_;rw[iu,Du B C,a0d];refine zX some ?_;generalize Ey (gx k m) a.Serial=c;by_cases c0:c=0
   .subst c0;rfl
   .have h1:((c:Int)==0)=false:=by simpa using c0
    have h2:(c==0)=false:=by simpa using c0
    rw[h1,h2];rfl
  .rfl
 refine kX (K:=some) (mf (κ:=some) (λk=>gx k m) rfl n (λ_=>True) (by omega) trivial (λk hk _=>.inl ⟨?_,trivial⟩) (λ_=>⟨gx n m,?_,rfl⟩))
 .have hxk:=Q2 hx k;have qk:=q.oU hx k;have B:=qk.bn hxk.sh.sr;have C:=qk.bl hxk.sh;have hR:=hxk.sh.sr;cases ez:zr (oU k x) with
  | nil=>exact absurd ez (hj k hk)
  | cons z l=>
   obtain⟨hzl,h0⟩:=de.1 (ez▸zg:z∈zr (oU k x));have p:=o6 hR hzl;have hf:=qk.zr hxk;rw[ez] at hf;have hf:(gx k m).Nodes.find? (Tx (gx k m))=some (Sh.nd σ (oU k x).S (D7 z)):=hf;obtain⟨i,hi,e,r⟩:=Fq (hP k) (by have:=B.nl;omega) hf;have r':x8 (gx k m).Nodes (gx k m)=some (i:Int):=r;have hser:(Sh.nd σ (oU k x).S (D7 z)).Serial=σ z:=(qk.gd.f z _ p.d).symm;have hfn:=qk.find hR p.d;rw[r',a0d,za (by simp),r9 hi,a0d,e];rw[show dp (Sh.nd σ (oU k x).S (D7 z))=some (Nj (Sh.nd σ (oU k x).S (D7 z))) from rfl,a0d,jG];rw[Mc hf,hser];split;·rw[Cf B C hfn,a0d]
   .have hb:=Fz hxk qk (ds:=[z]) (me.2 ⟨by simp,zb3⟩) (λd hd=>by rw[zp] at hd;rw[hd];exact hzl) λd hd=>by
     rw[zp] at hd;rw[hd,h0];decide
    rw[show [σ z] = [z].map σ from rfl,hb,a0d]
 .have hf:=(q.oU hx n).zr (Q2 hx n);rw[hz] at hf;have r:=Fp (hP n) (by have:=((q.oU hx n).bn (Q2 hx n).sh.sr).nl;omega) hf;have r':x8 (gx n m).Nodes (gx n m)=some (-1):=r;rw[r',a0d,zb (by decide)]
theorem Bn.Fg{m:a8}(B:Bn m)(h9:m.Last<=9)(n:b8)(hg:∀g∈m.Gens,g<=m.Last):Bn (Sh.Fg m n)/\∀g∈(Sh.Fg m n).Gens,g<=m.Last:=by
 have hgg:∀g∈(if m.Gens.getD n.Slot.toNat 0=m.Last then m.Gens else m.Gens.set n.Slot.toNat (m.Gens.getD n.Slot.toNat 0+1)),0<=g/\g<=m.Last:=λg hgm=>by
  split at hgm;·exact⟨(B.gg g hgm).1,hg g hgm⟩
  .rename_i c;rcases zD n.Slot.toNat m.Gens.length with hl | hl
   .rcases zau hgm with q | rfl
    .exact⟨(B.gg g q).1,hg g q⟩
    .rw[zd,zc hl] at c |-;have a:=B.gg _ (zh hl);have b:=hg _ (zh hl);simp only[ut] at c |-;omega
   .rw[List.set_eq_of_length_le hl] at hgm;exact⟨(B.gg g hgm).1,hg g hgm⟩
 have hlen:(Sh.Fg m n).Slots.length=m.Slots.length/\(Sh.Fg m n).Gens.length=m.Gens.length:=by
  unfold Sh.Fg;refine⟨by simp,?_⟩;dsimp only;split <;> simp
 refine⟨⟨?_,?_,λk hk=>?_,λk hk=>?_,λg hgm=>?_,by rw[hlen.1,hlen.2];exact B.gl⟩,λg hgm=>(hgg g hgm).2⟩;·exact zP (zE ..) B.nl
 .exact B.up.filter _
 .exact B.fl k (zj.1 (show k∈m.Nodes.filter _ from hk)).1
 .rw[hlen.1,hlen.2];exact B.sg k (zj.1 (show k∈m.Nodes.filter _ from hk)).1
 .have:=hgg g hgm;exact⟨this.1,by omega⟩
def PZ(m:a8):List Int:=m.Roots++(kJ m++(m.Nodes.filter (·.Stuck)).map (·.Serial))
inductive GF (m:a8):Int->Prop
 | base {s:Int}:s∈PZ m->GF m s
 | Xa {n:b8} {v:Int}:n∈m.Nodes->GF m n.Serial->v∈n.Fields->GF m v
 | Xe {p:g8}:p∈m.Pairs->GF m p.Key->GF m p.Val
section
variable{σ:Int->Int}{x:Hp}{m:a8}(hx:K6 x)(q:p9 σ x m)
include hx q
theorem PD{n:b8}(hn:n∈m.Nodes)(hs:n.Stuck=true):∃h∈lv x.S,n=Sh.nd σ x.S (D7 h)/\n.Serial=σ h/\12<=(ob x.S h).Strong:=by
 have hR:=hx.sh.sr;obtain⟨i,hi,ti,rfl⟩:=(q.nd.mem n).1 hn;have h12:12<=(Sh.ce x.S i).Val.Strong:=by simpa[Sh.nd] using hs
 rcases ti with h1 | h2
 .have hA:At x.S (cu x.S i) i:=⟨hi,h1,rfl⟩;have hl:=(ic hR).2 ⟨i,hA⟩;refine⟨cu x.S i,hl,by rw[hA.d.D7 hR],(q.gd.f _ i hA.d).symm,?_⟩;rw[E9 hR hA];exact h12
 .have:=((hx.wk i hi (.inr h2)).2 h2).2.2;omega
theorem Pd{s:Int}(r:GF m s):s=0\/∃h,h∈lv x.S/\s=σ h/\bh x.S x.T (GI x) h:=by
 have hS:=hx.sh;have hR:=hS.sr;have hot:∀h,h∈lv x.S->h∈oO x->bh x.S x.T (GI x) h:=λh hl ho=>.base (Dj hx hl ho) hl;induction r with
 | base hb=>
  unfold PZ at hb;rcases zu.1 hb with a | a
  .rw[q.ro] at a;obtain⟨h,hh,rfl⟩:=zq.1 a;rcases hS.rt h hh with e | hl
   .exact .inl (by rw[e];exact q.gd.z)
   .refine .inr ⟨h,hl,rfl,hot h hl ?_⟩;unfold oO;exact t7 _ (gp.2 ⟨hh,by have:=H2 hR hl;omega⟩)
  .rcases zu.1 a with a | a
   .rw[q.Lp hS] at a;obtain⟨h,hh,rfl⟩:=zq.1 a;obtain⟨t,ht,k,rfl⟩:=mh.1 hh;rcases (hS.tk t ht).2.2 with b | b
    .exact .inr ⟨_,b.2.1,rfl,hot _ b.2.1 (t8 _ hh)⟩
    .rw[b.1] at k;exact absurd k (by decide)
   .obtain⟨n,hn,rfl⟩:=zq.1 a;obtain⟨h,hl,_,e,h12⟩:=PD hx q (zj.1 hn).1 (by simpa using (zj.1 hn).2);exact .inr ⟨h,hl,e,.base (qw.2 ⟨hl,.inr h12⟩) hl⟩
 | Xa hn r0 hv ih=>
  rename_i n v;have hp:=q.nd.pos hR hn;obtain⟨h,hl,e,r⟩:=ih.resolve_left (by omega);have p:=o6 hR hl;have en:n=Sh.nd σ x.S (D7 h):=q.nd.one hR hn (q.nd.at hR p.1 p.d.2.1) (by rw[e,q.gd.f h _ p.d];rfl);rw[en] at hv;obtain⟨u,hu,rfl⟩:=zq.1 hv;rw[<-E9 hR p] at hu;rcases hS.fl h hl u hu with e0 | hlu
  .exact .inl (by rw[e0];exact q.gd.z)
  .exact .inr ⟨u,hlu,rfl,.step r (gp.2 ⟨hu,by have:=H2 hR hlu;omega⟩) hlu⟩
 | Xe hp r0 ih=>
  rename_i p;obtain⟨k,v,hh,rfl⟩:=(q.p2 p).1 hp;obtain⟨a,b⟩:=hS.pr k v hh;have hk:=q.gd.ps hR a;obtain⟨h,hl,e,r⟩:=ih.resolve_left (by show σ k≠0;omega);have:k=h:=q.gd.inl hR a hl e;subst this;exact .inr ⟨v,b,rfl,.pair hh r b⟩
theorem Ws{h:Int}(r:bh x.S x.T (GI x) h):GF m (σ h):=by
 have hS:=hx.sh;have hR:=hS.sr;induction r with
 | base hb hl=>
  rename_i h;refine .base ?_;unfold PZ;rcases (Hw hx hb).2 with a | a
  .unfold oO at a;rcases zu.1 a with a | a
   .refine t7 _ ?_;rw[q.ro];exact zcc (gp.1 a).1
   .refine t8 _ (t7 _ ?_);rw[q.Lp hS];exact zcc a
  .refine t8 _ (t8 _ ?_);have p:=o6 hR hl;refine zq.2 ⟨Sh.nd σ x.S (D7 h),zj.2 ⟨q.nd.at hR p.1 p.d.2.1,?_⟩,(q.gd.f h _ p.d).symm⟩;rw[E9 hR p] at a;exact zB a
 | step r ho hl ih=>
  rename_i a b;have hla:=bh.live r;have p:=o6 hR hla;refine .Xa (q.nd.at hR p.1 p.d.2.1) (by rw[show (Sh.nd σ x.S (D7 a)).Serial=σ a from (q.gd.f a _ p.d).symm];exact ih) ?_;show σ b∈(Sh.ce x.S (D7 a)).Val.Fields.map σ;rw[<-E9 hR p];exact zcc (gp.1 ho).1
 | pair hh r hl ih=>
  exact .Xe ((q.p2 _).2 ⟨_,_,hh,rfl⟩) ih
theorem SK{h:Int}(hl:h∈lv x.S):GF m (σ h)↔bh x.S x.T (GI x) h:=by
 refine⟨λr=>?_,Ws hx q⟩;have hR:=hx.sh.sr;have:=q.gd.ps hR hl;obtain⟨k,hk,e,r'⟩:=(Pd hx q r).resolve_left (by omega);rw[q.gd.inl hR hl hk e];exact r'
theorem SM{s:Int}(r:GF m s):s=0\/s∈m.Nodes.map (·.Serial):=by
 have hR:=hx.sh.sr;rcases Pd hx q r with e | ⟨h,hl,rfl,_⟩
 .exact .inl e
 .have p:=o6 hR hl;exact .inr (zq.2 ⟨_,q.nd.at hR p.1 p.d.2.1,(q.gd.f h _ p.d).symm⟩)
end
section
variable{m:a8}(hser:∀s,GF m s->s=0\/s∈m.Nodes.map (·.Serial))(B:Bn m)
include hser B
def Im(m:a8)(mp:List (Int × Bool)):Nat:=((m.Nodes.map (·.Serial)).filter λs => !(A1 mp s).getD false).length
structure KC (m:a8) (q:c9) (mp:List (Int × Bool)):Prop where
 nd:q.L.Nodup
 cap:q.Cap=(m.Nodes.length:Int)
 iN:∀x∈q.L,Mk mp x/\x≠0
 rc:∀x,Mk mp x->x=0\/GF m x
 z:Mk mp 0
omit hser B in
theorem Tk {mp:List (Int × Bool)} {x:Int} (hx:x∈m.Nodes.map (·.Serial)) (hm:¬Mk mp x):Im m (p6 mp x true)<Im m mp:=by
 unfold Im;refine filter_lt (λy _ h=>?_) x hx (by simpa[Mk] using hm) ?_
 .by_cases q:Mk mp y
  .have:=(dQ mp x y).2 (.inr q);unfold Mk at this;rw[this] at h;cases h
  .simpa[Mk] using q
 .have:=(dQ mp x x).2 (.inl rfl);unfold Mk at this;rw[this];rfl
omit B in
theorem KC.sub {q:c9} {mp:List (Int × Bool)} (h:KC m q mp):∀y∈q.L,y∈m.Nodes.map (·.Serial):=λy hy=>by
 obtain⟨a,b⟩:=h.iN y hy;exact (hser y ((h.rc y a).resolve_left b)).resolve_left b
omit B in
theorem KC.room {q:c9} {mp:List (Int × Bool)} (h:KC m q mp) {x:Int} (hx:x∈m.Nodes.map (·.Serial)) (hm:¬Mk mp x):q.L.length<m.Nodes.length:=by
 have:(x::q.L).length<=(m.Nodes.map (·.Serial)).length:=ab (me.2 ⟨λk=>hm (h.iN x k).1,h.nd⟩) λy hy=>by
  rcases zM.1 hy with rfl | k
  .exact hx
  .exact KC.sub hser h y k
 simp only[zH,zl] at this;omega
theorem sC{xs:List Int}{q:c9}{mp:List (Int × Bool)}(hlen:xs.length<=1000000)(h0:KC m q mp)(hr:∀x∈xs,x=0\/GF m x) :
  ∃q' mp',lp (S:=Int × c9 × (List (Int × Bool))) (E:=(c9 × (List (Int × Bool)))) (λ((s148,s149,s150):Int × c9 × (List (Int × Bool)))=>
        if (decide (s148<(xs.length:Int))) then
         jn (λ((j156,j157):c9 × (List (Int × Bool)))=>
          some (.inl (u4 (s148+1),j156,j157))) (λκ155=>
          (ix xs s148).bind λv159=>
          if (!((A1 s150 v159).getD (false:Bool))) then
           (D8 s149 v159).bind λv160=>
           κ155 (v160.1,(p6 s150 v159 true))
          else
          κ155 (s149,s150))
        else
        some (.inr (s149,s150))) (0,q,mp)=some (q',mp')/\KC m q' mp'/\(∀x,Mk mp' x↔Mk mp x\/x∈xs)/\(∀x,Mk mp' x->Mk mp x\/x∈q'.L)/\(∀x∈q.L,x∈q'.L)/\2*Im m mp'+q'.L.length<=2*Im m mp+q.L.length:=by
 have nl:=B.nl;have:=gi (f:=λ((s148,s149,s150):Int × c9 × (List (Int × Bool)))=>
        if (decide (s148<(xs.length:Int))) then
         jn (λ((j156,j157):c9 × (List (Int × Bool)))=>
          some (.inl (u4 (s148+1),j156,j157))) (λκ155=>
          (ix xs s148).bind λv159=>
          if (!((A1 s150 v159).getD (false:Bool))) then
           (D8 s149 v159).bind λv160=>
           κ155 (v160.1,(p6 s150 v159 true))
          else
          κ155 (s149,s150))
        else
        some (.inr (s149,s150))) (t0:=(q,mp)) xs.length (λk t=>KC m t.1 t.2/\(∀x,Mk t.2 x↔Mk mp x\/x∈xs.take k)/\(∀x,Mk t.2 x->Mk mp x\/x∈t.1.L)/\(∀x∈q.L,x∈t.1.L)/\2*Im m t.2+t.1.L.length<=2*Im m mp+q.L.length)
  (λt=>KC m t.1 t.2/\(∀x,Mk t.2 x↔Mk mp x\/x∈xs)/\(∀x,Mk t.2 x->Mk mp x\/x∈t.1.L)/\(∀x∈q.L,x∈t.1.L)/\2*Im m t.2+t.1.L.length<=2*Im m mp+q.L.length) (by omega)
  ⟨h0,λx=>by simp,λx h=>.inl h,λx h=>h,zF _⟩ (λk t hk hP=>?_) (λt hP=>?_)
 .obtain⟨⟨q',mp'⟩,h1,h2⟩:=this;exact⟨q',mp',h1,h2⟩
 .obtain⟨q1,m1⟩:=t;obtain⟨p1,p2,p3,p4,p5⟩:=hP;simp only at p1 p2 p3 p4 p5;left;have ht:∀x,x∈xs.take (k+1)↔x∈xs.take k\/x=xs[k]:=λx=>by rw[zx hk,zu,zp]
  simp only[jn,we,hk,ul,zY,r9 hk,a0d];by_cases hm:Mk m1 xs[k]
  .rw[za (by rw[show (A1 m1 xs[k]).getD false=true from hm];decide),n9];refine⟨(q1,m1),rfl,p1,λx=>?_,p3,p4,p5⟩;rw[p2,ht];constructor
   .rintro (a | a);·exact .inl a
    .exact .inr (.inl a)
   .rintro (a | a | rfl);·exact .inl a
    .exact .inr a
    .exact (p2 _).1 hm
  .have hm':(A1 m1 xs[k]).getD false=false:=by simpa[Mk] using hm
   have hk0:xs[k]≠0:=λe=>hm (by rw[e];exact p1.z);have hrc:=(hr _ (zh hk)).resolve_left hk0;have hin:=(hser _ hrc).resolve_left hk0;have hroom:=KC.room hser p1 hin hm;rw[zb (by rw[hm'];decide),JX (by rw[p1.cap];omega) (by omega),a0d,n9];refine⟨(⟨q1.L ++ [xs[k]],q1.Cap⟩,p6 m1 xs[k] true),rfl,⟨?_,p1.cap,λx hx=>?_,λx hx=>?_,?_⟩,λx=>?_,λx hx=>?_,λx hx=>?_,?_⟩
   .simp only;rw[zbs];refine⟨p1.nd,by simp,λa ha b hb e=>?_⟩;rw[zp] at hb;subst hb;subst e;exact hm (p1.iN _ ha).1
   .simp only[zu,zp] at hx;rw[dQ];rcases hx with a | a
    .exact⟨.inr (p1.iN x a).1,(p1.iN x a).2⟩
    .exact⟨.inl a,by rw[a];exact hk0⟩
   .rcases (dQ m1 xs[k] x).1 hx with rfl | a
    .exact .inr hrc
    .exact p1.rc x a
   .exact (dQ m1 xs[k] 0).2 (.inr p1.z)
   .simp only;rw[dQ,p2,ht];constructor
    .rintro (rfl | a | a);·exact .inr (.inr rfl)
     .exact .inl a
     .exact .inr (.inl a)
    .rintro (a | a | a);·exact .inr (.inl a)
     .exact .inr (.inr a)
     .exact .inl a
   .simp only[zu,zp];rcases (dQ m1 xs[k] x).1 hx with a | a
    .exact .inr (.inr a)
    .rcases p3 x a with b | b
     .exact .inl b
     .exact .inr (.inl b)
   .simp only[zu];exact .inl (p4 x hx)
   .have:=Tk hin hm;simp only[zL,List.length_singleton];omega
 .obtain⟨q1,m1⟩:=t;refine⟨(q1,m1),?_,?_⟩;·simp only[za6,zbk,zA,un]
  .simpa using hP
omit hser in
theorem FD {a:Int} (C:Bl m):P4 m a=some ((m.Pairs.filter λp=>p.Key==a).map (·.Val)):=by
 have pa:=C.pa;have h1:C6 m.Pairs a=some (m.Pairs.filter λp=>p.Key==a):=by
  unfold C6;exact ll (P:=λp=>cH p a) (λn _=>rfl) (by omega) (by omega) (by omega)
 have hl:(m.Pairs.filter λp=>p.Key==a).length<=30:=zP (zE ..) pa;unfold P4;rw[h1,a0d];refine sN (a:=(m.Pairs.filter λp=>p.Key==a).map (·.Val)) ?_ rfl;unfold E2;exact map_eq (λn _=>rfl) (by omega) (by omega) (by omega)
theorem Ly(C:Bl m)(hn0:∀n∈m.Nodes,n.Serial≠0)(hp0:∀p∈m.Pairs,p.Key≠0):∃mp,gP m=some mp/\∀s,Mk mp s↔s=0\/GF m s:=by
 have nl:=B.nl;have hst:C8 m.Nodes=some (m.Nodes.filter (·.Stuck)):=by
  unfold C8;exact ll (λn _=>rfl) (by omega) (by omega) (by omega)
 have hsl:(m.Nodes.filter (·.Stuck)).length<=24:=zP (zE ..) nl;have hss:J2 (m.Nodes.filter (·.Stuck))=some ((m.Nodes.filter (·.Stuck)).map (·.Serial)):=by
  unfold J2;refine sN (a:=(m.Nodes.filter (·.Stuck)).map (·.Serial)) ?_ rfl;unfold B8;exact map_eq (λn _=>rfl) (by omega) (by omega) (by omega)
 have hh:gy ⟨m.Tasks,30⟩=some (kJ m):=PE (q:=⟨m.Tasks,30⟩) (by have:=C.tl;show m.Tasks.length<=1000;omega);have Lp:(kJ m).length<=200:=by
  unfold kJ pz;rw[zl];exact zP (zE ..) C.tl
 have hbl:(PZ m).length<=300:=by
  unfold PZ;rw[zL,zL,zl];have:=C.rl;omega
 have hc:F9 [m.Roots,kJ m,(m.Nodes.filter (·.Stuck)).map (·.Serial)]=some (PZ m):=by
  unfold F9;refine (GZ (by omega) (by omega) (by simp) ?_).trans ?_
  .show ([m.Roots,kJ m,(m.Nodes.filter (·.Stuck)).map (·.Serial)].flatten).length<=100000;unfold PZ at hbl;simpa using zP hbl (by omega)
  .unfold PZ;simp
 unfold gP bc;rw[hst,a0d,hss,a0d,a0d,yZ,a0d,hh,a0d,hc,a0d];have hz0:Mk (p6 [] 0 true) 0:=(dQ [] 0 0).2 (.inl rfl);have hzz:∀x,Mk (p6 [] 0 true) x->x=0:=λx h=>((dQ [] 0 x).1 h).resolve_right (by simp[Mk,A1]);obtain⟨q0,m0,e0,i0,i1,i2,i3,i4⟩:=sC hser B (xs:=PZ m) (q:=⟨[],(m.Nodes.length:Int)⟩) (mp:=p6 [] 0 true) (by omega) ⟨zb3,rfl,(λx hx=>by cases hx),(λx h=>.inl (hzz x h)),hz0⟩ (λx h=>.inr (.base h));have hu:Im m (p6 [] 0 true)<=24:=by
  unfold Im;refine zP (zE ..) ?_;rw[zl];exact nl
 suffices key:∃mp,(lp (S:=c9 × (List (Int × Bool))) (E:=(List (Int × Bool))) (λ((s102,s103):c9 × (List (Int × Bool)))=>
    (H7 s102).bind λv106=>
    if (decide (v106 > 0)) then
     (X4 s102).bind λv107=>
     (J6 m v107.2.1).bind λv108=>
     (ix m.Nodes v108).bind λv109=>
     (lp (S:=Int × c9 × (List (Int × Bool))) (E:=(c9 × (List (Int × Bool)))) (λ((s162,s163,s164):Int × c9 × (List (Int × Bool)))=>
       if (decide (s162<(v109.Fields.length:Int))) then
        jn (λ((j170,j171):c9 × (List (Int × Bool)))=>
         some (.inl (u4 (s162+1),j170,j171))) (λκ169=>
         (ix v109.Fields s162).bind λv173=>
         if (!((A1 s164 v173).getD (false:Bool))) then
          (D8 s163 v173).bind λv174=>
          κ169 (v174.1,(p6 s164 v173 true))
         else
         κ169 (s163,s164))
       else
       some (.inr (s163,s164))) (0,v107.1,s103)).bind λe161=>
     (P4 m v107.2.1).bind λv128=>
     (lp (S:=Int × c9 × (List (Int × Bool))) (E:=(c9 × (List (Int × Bool)))) (λ((s148,s149,s150):Int × c9 × (List (Int × Bool)))=>
        if (decide (s148<(v128.length:Int))) then
         jn (λ((j156,j157):c9 × (List (Int × Bool)))=>
          some (.inl (u4 (s148+1),j156,j157))) (λκ155=>
          (ix v128 s148).bind λv159=>
          if (!((A1 s150 v159).getD (false:Bool))) then
           (D8 s149 v159).bind λv160=>
           κ155 (v160.1,(p6 s150 v159 true))
          else
          κ155 (s149,s150))
        else
        some (.inr (s149,s150))) (0,e161.1,e161.2)).bind λe147=>
     some (.inl (e147.1,e147.2))
    else
    some (.inr s103)) (q0,m0))=some mp/\∀s,Mk mp s↔s=0\/GF m s by
  obtain⟨mp,h1,h2⟩:=key;refine⟨mp,?_,h2⟩;refine (kX (e:=(q0,m0)) ((Option.bind_fun_some _).trans e0)).trans ?_;exact kX ((Option.bind_fun_some _).trans h1)
 refine pF (s0:=(q0,m0)) (λt=>KC m t.1 t.2/\(∀x∈PZ m,Mk t.2 x)/\∀a,Mk t.2 a->a=0\/a∈t.1.L\/((∀n∈m.Nodes,n.Serial=a->∀b∈n.Fields,Mk t.2 b)/\∀p∈m.Pairs,p.Key=a->Mk t.2 p.Val)) (λmp=>∀s,Mk mp s↔s=0\/GF m s) (λt=>2*Im m t.2+t.1.L.length)
   ⟨i0,λx h1=>(i1 x).2 (.inr h1),λa ha=>?_⟩ (by show 2*Im m m0+q0.L.length<_;simp only[zah] at i4;omega) ?_
 .rcases i2 a ha with b | b
  .exact .inl (hzz a b)
  .exact .inr (.inl b)
 .rintro⟨q,mp⟩ ⟨p1,p2,p3⟩;simp only at p1 p2 p3 |-;have hq:=ab p1.nd (KC.sub hser p1);rw[zl] at hq;unfold H7;rw[a0d];cases hqL:q.L with
  | nil=>
   right;refine⟨mp,by rw[za (by simp)],λx=>⟨p1.rc x,λh=>?_⟩⟩;rcases h with rfl | h
   .exact p1.z
   .have cl:∀a,Mk mp a->a≠0->(∀n∈m.Nodes,n.Serial=a->∀b∈n.Fields,Mk mp b)/\∀p∈m.Pairs,p.Key=a->Mk mp p.Val:=λa h1 h2=>by
     rcases p3 a h1 with c | c | c
     .exact absurd c h2
     .rw[hqL] at c;cases c
     .exact c
    induction h with
    | base a=>exact p2 _ a
    | Xa hn r hv ih=>
     rename_i n v;exact (cl _ ih (hn0 n hn)).1 n hn rfl v hv
    | Xe hp r ih=>
     rename_i p;exact (cl _ ih (hp0 p hp)).2 p hp rfl
  | cons a r=>
   left;have hqe:q=⟨a::r,q.Cap⟩:=by rw[<-hqL]
   have haq:a∈q.L:=by rw[hqL];exact zg
   obtain⟨hma,ha0⟩:=p1.iN a haq;have hra:=(p1.rc a hma).resolve_left ha0;have has:=KC.sub hser p1 a haq;obtain⟨n,hf⟩:∃n,m.Nodes.find? (λn=>n.Serial==a)=some n:=by
    obtain⟨k,hk,e⟩:=zq.1 has;exact zad.1 (List.find?_isSome.2 ⟨k,hk,by simpa using e⟩)
   obtain⟨hns,hnm⟩:=lY hf;obtain⟨i,hi,ei,ri⟩:=yV B hf;have hnd:=p1.nd;rw[hqL] at hnd hq;simp only[zH] at hq;have hfl:=B.fl n hnm;obtain⟨q1,m1,e1',j0,j1,j2,j3,j4⟩:=sC hser B (xs:=n.Fields) (q:=⟨r,q.Cap⟩) (mp:=mp) (by omega) ⟨(me.1 hnd).2,p1.cap,λx hx=>p1.iN x (by rw[hqL];exact zn _ hx),p1.rc,p1.z⟩ (λx h=>.inr (.Xa hnm (by rw[hns];exact hra) h));have hvl:((m.Pairs.filter λp=>p.Key==a).map (·.Val)).length<=30:=by
    rw[zl];exact zP (zE ..) C.pa
   obtain⟨q2,m2,e2',k0,k1,k2,k3,k4⟩:=sC hser B (xs:=(m.Pairs.filter λp=>p.Key==a).map (·.Val)) (q:=q1) (mp:=m1) (by omega) j0 (λx h=>by
    obtain⟨p,hp,rfl⟩:=zq.1 h;obtain⟨hp1,hp2⟩:=zj.1 hp;have hk:p.Key=a:=by simpa using hp2
    exact .inr (.Xe hp1 (by rw[hk];exact hra)))
   refine⟨(q2,m2),?_,⟨k0,λx h1=>(k1 x).2 (.inl ((j1 x).2 (.inl (p2 x h1)))),λb hb=>?_⟩,?_⟩
   .rw[zb (by simp),hqe,OW (by omega),a0d];simp only;rw[ri,a0d,r9 hi,a0d,ei];refine sN e1' ?_;simp only;rw[FD B C,a0d];exact sN e2' rfl
   .simp only at hb |-;have up1:∀x,Mk m1 x->Mk m2 x:=λx h=>(k1 x).2 (.inl h);have up0:∀x,Mk mp x->Mk m2 x:=λx h=>up1 x ((j1 x).2 (.inl h));rcases k2 b hb with c | c
    .rcases j2 b c with d | d
     .rcases p3 b d with f | f | f
      .exact .inl f
      .rw[hqL] at f;rcases zM.1 f with rfl | f
       .refine .inr (.inr ⟨λk hk hks v hv=>?_,λp hp hpk=>?_⟩)
        .have:k=n:=by
          obtain⟨u,hu,eu⟩:=wt hk;obtain⟨w,hw,ew⟩:=wt hnm;rcases Nat.lt_trichotomy u w with c1 | c1 | c1
          .have:=zav.1 B.up u w hu hw c1;rw[eu,ew] at this;omega
          .subst c1;rw[<-eu,<-ew]
          .have:=zav.1 B.up w u hw hu c1;rw[eu,ew] at this;omega
         rw[this] at hv;exact up1 v ((j1 v).2 (.inr hv))
        .exact (k1 _).2 (.inr (zq.2 ⟨p,zj.2 ⟨hp,by simpa using hpk⟩,rfl⟩))
       .exact .inr (.inl (k3 b (j3 b f)))
      .exact .inr (.inr ⟨λk hk hks v hv=>up0 v (f.1 k hk hks v hv),λp hp hpk=>up0 _ (f.2 p hp hpk)⟩)
     .exact .inr (.inl (k3 b d))
    .exact .inr (.inl c)
   .show 2*Im m m2+q2.L.length<2*Im m mp+(a::r).length;simp only[zH] at j4 k4 |-;omega
end
theorem vA{l:List b8}(h:l.length<=1000):J2 l=some (l.map (·.Serial)):=by
 unfold J2;refine sN (a:=l.map (·.Serial)) ?_ rfl;unfold B8;exact map_eq (λn _=>rfl) (by omega) (by omega) (by omega)
theorem p9.Qf{σ:Int->Int}{x:Hp}{m:a8}(hR:SR x.S)(q:p9 σ x m):(m.Nodes.filter (·.Alive)).map (·.Serial)=Sh.Qf x:=by
 rw[q.nd.alive hR,za3];unfold Sh.Qf;refine zt λh hh=>?_;show (Sh.ce x.S (D7 h)).Val.Serial=(ob x.S h).Serial;rw[E9 hR (o6 hR hh)]
theorem Dt{σ:Int->Int}{x:Hp}{m:a8}(hR:SR x.S)(q:p9 σ x m):aw m=some (Sh.Qf x):=by
 have B:=q.bn hR;unfold aw;rw[JG B,a0d,vA (zP (zE ..) (by have:=B.nl;omega)),a0d,q.Qf hR]
theorem Ih(x:Hp):(Qf x).length=(lv x.S).length:=by unfold Qf;rw[zl]
theorem Xq{p:Prop}{i:Decidable p}(h:¬p):false=@decide p i:=(zQ h).symm
theorem Xr{p:Prop}{i:Decidable p}(h:p):true=@decide p i:=(zB h).symm
section
variable{σ:Int->Int}{x:Hp}{m:a8}(hx:K6 x)(q:p9 σ x m)
include hx q
theorem Fe:∀d∈dJ x,(ob x.S d).Strong<12:=λd hd=>by
 obtain⟨a,b⟩:=(bC (x:=x)).1 hd;rcases Int.lt_or_le (ob x.S d).Strong 12 with c | c
 .exact c
 .exact absurd (.base (qw.2 ⟨a,.inr c⟩) a) b
theorem Lx{mp:List (Int × Bool)}(h:∀s,Mk mp s↔s=0\/GF m s):C3 m.Nodes mp=some ((dJ x).map λh=>Sh.nd σ x.S (D7 h)):=by
 have hR:=hx.sh.sr;have B:=q.bn hR;have nl:=B.nl;unfold C3;refine (ll (P:=λn=>bH n mp) (p:=λn=>n.Alive && !((A1 mp n.Serial).getD false)) (λn _=>rfl) (by omega) (by omega) (by omega)).trans ?_;congr 1;rw[<-zan,zan,pm (λn _=>Bool.and_comm _ _),<-zan,q.nd.alive hR,zcs];congr 1;unfold dJ Xb;refine pm λd hd=>?_;have p:=o6 hR hd;show (!((A1 mp (Sh.ce x.S (D7 d)).Val.Serial).getD false))=_;rw[<-q.gd.f d _ p.d];have h0:σ d≠0:=by have:=q.gd.ps hR hd;omega
 have:(A1 mp (σ d)).getD false=true↔bh x.S x.T (GI x) d:=by
  rw[<-SK hx q hd];exact (h (σ d)).trans ⟨λc=>c.resolve_left h0,.inr⟩
 by_cases c:bh x.S x.T (GI x) d
 .rw[this.2 c];exact Xq λe=>e c
 .have hc:(A1 mp (σ d)).getD false=false:=by
   cases e:(A1 mp (σ d)).getD false;·rfl
   .exact absurd (this.1 e) c
  rw[hc];exact Xr c
theorem KY:((dJ x).map λh=>Sh.nd σ x.S (D7 h)).filter Nj=(kE x).map λh=>Sh.nd σ x.S (D7 h):=by
 have hR:=hx.sh.sr;rw[zcs];unfold kE;congr 1;refine pm λd hd=>?_;have hl:=cX hx d hd;have p:=o6 hR hl;rw[E9 hR p];rfl
theorem JH{l:List Int}(hl:∀h∈l,h∈lv x.S):(l.map λh=>Sh.nd σ x.S (D7 h)).map (·.Serial)=l.map σ:=by
 rw[za3];refine zt λh hh=>?_;exact (q.gd.f h _ (o6 hx.sh.sr (hl h hh)).d).symm
end
theorem p9.ZD{σ:Int->Int}{x:Hp}{m:a8}(hx:K6 x)(hS:SL x)(hz:Sh.zr x = [])(q:p9 σ x m){l:List Int}(hn:l.Nodup)(hd:∀h∈l,h∈Sh.lv x.S/\due (Sh.ob x.S h)=true) :
  ∀k,k<=l.length->p9 σ ((l.take k).foldl Sh.gQ x) (((l.take k).map σ).foldl qZ m)
 | 0,_=>q
 | k+1,h=>by
  have ih:=p9.ZD hx hS hz q hn hd k (by omega);have hsub:∀h∈l.take k,h∈l:=λh hh=>zaf hh;have Q:=Al (l.take k) hx hS hz (hn.sublist (zca ..)) λh hh=>hd h (hsub h hh);rw[zx (by omega),ms,zas,zas];exact ih.gQ Q.rt.sh Q.rt.fair (by rw[Q.lv];exact (hd _ (zh _)).1)
theorem AG{σ:Int->Int}{x:Hp}{m:a8}(hx:K6 x)(hS:SL x)(hz:Sh.zr x = [])(q:p9 σ x m){l:List Int}(hl:l.length<=24)(hn:l.Nodup)(hd:∀h∈l,h∈Sh.lv x.S/\due (Sh.ob x.S h)=true){R:Type}{K:a8->Option R} :
  (lp (S:=Int × a8) (E:=a8) (λ((s20,s21):Int × a8)=>
   if (decide (s20<((l.map σ).length:Int))) then
    (ix (l.map σ) s20).bind λv24=>
    (bb s21 v24).bind λv25=>
    some (.inl (u4 (s20+1),v25))
   else
   some (.inr s21)) (0,m)).bind K=K ((l.map σ).foldl qZ m):=by
 refine kX (bD (t0:=m) l.length (λk acc=>acc=((l.take k).map σ).foldl qZ m) (by omega) rfl (λk acc hk e=>.inl ⟨_,?_,rfl⟩) (λacc e=>⟨acc,?_,?_⟩))
 .subst e;have Q:=p9.ZD hx hS hz q hn hd k (by omega);have hsub:∀h∈l.take k,h∈l:=λh hh=>zaf hh;have D:=Al (l.take k) hx hS hz (hn.sublist (zca ..)) λh hh=>hd h (hsub h hh);have hR':=D.rt.sh.sr;have hlk:l[k]∈lv ((l.take k).foldl gQ x).S:=by rw[D.lv];exact (hd _ (zh hk)).1
  simp only[];rw[zb (by simpa using hk),r9 (by simpa using hk),a0d,t6,Cf (Q.bn hR') (Q.bl D.rt.sh) (Q.find hR' (o6 hR' hlk).d),a0d,n9 (n:=k) (by omega),zx hk,ms,zas];rfl
 .simp only[];rw[za (by simp)]
 .rw[e,zV]
theorem Ja(m:a8)(l:List Int):(Bg m l).Progs=m.Progs:=by
 unfold Bg;have key:∀(l:List Int) (m:a8),(l.foldl rz m).Progs=m.Progs:=λl=>by
  induction l with
  | nil=>exact λm=>rfl
  | cons s l ih=>exact λm=>(ih (rz m s)).trans (yR m s).2.2.2.2
 exact key l _
theorem Kq(m:a8)(s:Int):(qZ m s).Progs=m.Progs:=by
 show (fX m s).Progs=m.Progs;rw[aP]
theorem Te(l:List Int):∀m:a8,(l.foldl qZ m).Progs=m.Progs:=by
 induction l with
 | nil=>exact λm=>rfl
 | cons s l ih=>exact λm=>(ih (qZ m s)).trans (Kq m s)
theorem xN(m:a8):(lM m).Progs=m.Progs:=by
 have h1:∀m:a8,(sH m).Progs=m.Progs:=λm=>by
  unfold sH;split;·rfl
  .split;·exact Kq ..
   .exact Ja ..
 have:∀n,(gx n m).Progs=m.Progs:=λn=>by
  induction n with
  | zero=>rfl
  | succ n ih=>rw[jG,h1,ih]
 exact this 100
def K8(m:a8)(r:Int):Int:=if r<0 then 0 else m.Roots.getD r.toNat 0
def ra(m:a8)(a s e:Int):a8 × Int × Int:=if e≠0 then (m,0,e) else (dv m a.toNat s,s,0)
def Bp(m:a8)(s k v:Int):a8 × Int × Int:=match m.Nodes.find? (λn=>n.Serial==s) with
 | none=>(m,0,2)
 | some n=>if ¬(0<=k/\k<n.Fields.length) then (m,0,5) else (xY (fX m v) (fQ (fX m v).Nodes s λj=>XA j (n.Fields.set k.toNat v)),v,0)
def xj(m:a8)(s v:Int):a8 × Int × Int:=
 if v≠0/\m.Places<=((m.Pairs.filter λp=>p.Key != s).length:Int) then (m,0,8) else (WS (fX m v) ((m.Pairs.filter λp=>p.Key != s)++if v=0 then [] else [⟨s,v⟩]),v,0)
def Y6(m:a8)(o:g7):a8 × Int × Int:=
 if o.Kind=10 then (m,if K8 m o.A=K8 m o.B then 1 else 0,0)
 else if o.Kind=5 then (if K8 m o.A=0 then (m,0,2) else Bp m (K8 m o.A) o.B (K8 m o.C))
 else if o.Kind=6 then (if 0<=o.B/\K8 m o.B=0 then (m,0,2) else if wX ⟨m.Tasks,30⟩ o.A=true then (m,0,7) else (Mh m o.A.toNat (K8 m o.B) o.C,K8 m o.B,0))
 else if o.Kind=8 then (if K8 m o.A=0 then (m,0,2) else xj m (K8 m o.A) (K8 m o.B))
 else if o.Kind=1 then (if m.Slots.findIdx (· == 0)<m.Slots.length then (dv (HD m (m.Slots.findIdx (· == 0)) o.B.toNat o.C) o.A.toNat (m.Serial+1),m.Serial+1,0) else (m,0,4))
 else if o.Kind=2 then ra m o.A (K8 m o.B) 0
 else if o.Kind=4 then (if K8 m o.B=0 then (m,0,2) else match m.Nodes.find? (λn=>n.Serial==K8 m o.B) with
  | none=>(m,0,2)
  | some n=>if ¬(0<=o.C/\o.C<n.Fields.length) then (m,0,5) else ra m o.A (n.Fields.getD o.C.toNat 0) 0)
 else if o.Kind=7 then (if (m.b7.getD o.B.toNat cz).Target=0\/(m.b7.getD o.B.toNat cz).Intact=false then (m,0,9) else ra m o.A (m.b7.getD o.B.toNat cz).Target 0)
 else if o.Kind=9 then (if K8 m o.B=0 then (m,0,2) else match (m.Pairs.find? λp=>p.Key==K8 m o.B) with
  | none=>(m,0,9)
  | some p=>ra m o.A p.Val 0)
 else ra m o.A 0 0
def Bj(m:a8)(o:g7):a8 × Int × Int:=if (Y6 m o).2.2≠0 then (m,0,(Y6 m o).2.2) else (lM (Y6 m o).1,(Y6 m o).2.1,0)
theorem Dn.jz{x z:Hp}{o:g7}{v:Int}(d:Dn x o z v):Sh.jz x o=(bJ z,v,0):=by unfold Sh.jz;rw[d.mc];rfl
theorem Er.jz{x:Hp}{o:g7}{e:Int}(h:Er x o e):Sh.jz x o=(x,0,e):=by unfold Sh.jz;rw[h.2.1];rfl
section
variable{σ:Int->Int}{x:Hp}{m:a8}(hx:K6 x)(q:p9 σ x m)
include hx q
theorem p9.said(r:Int):K8 m r=σ (sd x r):=by
 unfold K8 sd;split;·exact q.gd.z.symm
 .rw[q.ro,zd,zC,zd];cases x.Roots[r.toNat]? with
  | none=>exact q.gd.z.symm
  | some v=>rfl
theorem p9.oH(r:Int):K8 m r=0↔sd x r=0:=by
 rw[q.said hx];exact q.gd.zero hx.sh.sr (Od hx.sh.sr q.gd (eE hx.sh r))
theorem p9.bw{h:Int}(hh:h=0\/h∈lv x.S):Sh.bw x h=σ h:=by
 rcases hh with e | hl
 .subst e;rw[Gk hx.sh,q.gd.z]
 .exact (q.gd.lv hx.sh.sr hl).symm
theorem p9.IX{h:Int}(hl:h∈lv x.S):m.Nodes.find? (λn=>n.Serial==σ h)=some (Sh.nd σ x.S (D7 h))/\(Sh.nd σ x.S (D7 h)).Fields=(ob x.S h).Fields.map σ:=by
 have p:=o6 hx.sh.sr hl;refine⟨q.find hx.sh.sr p.d,?_⟩;rw[E9 hx.sh.sr p];rfl
structure kM (σ:Int->Int) (x:Hp) (m:a8) (o:g7):Prop where
 r:(∃e,e≠0/\Y6 m o=(m,0,e)/\Sh.jz x o=(x,0,e))\/∃σ' z mz v,Y6 m o=(mz,v,0)/\K6 z/\SL z/\p9 σ' z mz/\Sh.jz x o=(bJ z,v,0)/\mz.Progs=m.Progs/\mz.Roots.length=6
theorem GS(s:Int):(fX m s).Progs=m.Progs:=by rw[aP]
theorem Av{o:g7}{a h:Int}(hr:K6 (G6 x a.toNat h))(hs:SL (G6 x a.toNat h))(hh:h=0\/h∈lv x.S)(hp:Y6 m o=(dv m a.toNat (σ h),σ h,0))(hd:Sh.jz x o=(bJ (G6 x a.toNat h),Sh.bw x h,0)):kM σ x m o:=
 ⟨.inr ⟨σ,_,_,σ h,hp,hr,hs,q.G6 hx.sh hx.fair hh,by rw[hd,q.bw hx hh],by show (fX m (σ h)).Progs=_;exact GS hx q _,by
  show (m.Roots.set a.toNat (σ h)).length=6;rw[zal,q.ro,zl];exact hx.sh.r6⟩⟩
theorem iI{o:g7}{e:Int}(he:Er x o e)(hp:Y6 m o=(m,0,e)):kM σ x m o:=⟨.inl ⟨e,he.1,hp,he.jz⟩⟩
theorem Zw(hS:SL x){a b c:Int}(hc:y6 2 a b c=0):kM σ x m ⟨2,a,b,c⟩:=by
 have d:=d2 hx hS hc;refine Av hx q d.rt d.sl (eE hx.sh b) ?_ d.jz;show ra m a (K8 m b) 0=_;rw[q.said hx];rfl
theorem Zx(hS:SL x){a b c:Int}(hc:y6 3 a b c=0):kM σ x m ⟨3,a,b,c⟩:=by
 have d:=d3 hx hS hc;refine Av hx q (h:=0) d.rt d.sl (.inl rfl) ?_ (by rw[Gk hx.sh];exact d.jz);show ra m a 0 0=_;rw[q.gd.z];rfl
theorem Ym(hS:SL x)(hz:zr x = []){a b c:Int}(hc:y6 10 a b c=0):kM σ x m ⟨10,a,b,c⟩:=by
 have d:=d10 hx hS hz hc;refine⟨.inr ⟨σ,x,m,_,rfl,hx,hS,q,?_,rfl,?_⟩⟩
 .rw[d.jz];show (_,_,_)=(_,(if K8 m a=K8 m b then (1:Int) else 0),_);have:K8 m a=K8 m b↔sd x a=sd x b:=by
   rw[q.said hx,q.said hx];exact⟨λe=>q.gd.Xc hx.sh.sr (Od hx.sh.sr q.gd (eE hx.sh a)) (Od hx.sh.sr q.gd (eE hx.sh b)) e,λe=>by rw[e]⟩
  by_cases c':sd x a=sd x b
  .rw[zb c',zb (this.2 c')]
  .rw[za c',za λe=>c' (this.1 e)]
 .rw[q.ro,zl];exact hx.sh.r6
theorem ZA(hS:SL x){a b c:Int}(hc:y6 7 a b c=0):kM σ x m ⟨7,a,b,c⟩:=by
 obtain⟨h,d⟩:=d7 hx hS hc;have hg:m.b7.getD b.toNat cz=wx σ x.b7[b.toNat]:=by
  rw[q.ce,zd,zC,zc h];rfl
 have hp:Y6 m ⟨7,a,b,c⟩=if (wx σ x.b7[b.toNat]).Target=0\/(wx σ x.b7[b.toNat]).Intact=false then (m,0,9) else ra m a (wx σ x.b7[b.toNat]).Target 0:=by
  rw[<-hg];rfl
 rcases d with ⟨hi,er⟩ | ⟨hi,d⟩;·exact iI hx q er (by rw[hp,zb (.inr hi)])
 .have hl:=((hx.sh.cl _ h).2.2.2.2 hi).1;refine Av hx q d.rt d.sl (.inr hl) ?_ d.jz;have h0:σ x.b7[b.toNat].Target≠0:=by have:=q.gd.ps hx.sh.sr hl;omega
  rw[hp,za];·rfl
  .rintro (e | e);·exact h0 e
   .have:x.b7[b.toNat].Intact=false:=e;rw[hi] at this;cases this
theorem ZC(hS:SL x){a b c:Int}(hc:y6 9 a b c=0):kM σ x m ⟨9,a,b,c⟩:=by
 have hR:=hx.sh.sr;have hp0:K8 m b=0->Y6 m ⟨9,a,b,c⟩=(m,0,2):=λe=>by
  show (if K8 m b=0 then (m,0,2) else _)=_;rw[zb e]
 have hp1:K8 m b≠0->Y6 m ⟨9,a,b,c⟩=match (m.Pairs.find? λp=>p.Key==K8 m b) with
  | none=>(m,0,9)
  | some p=>ra m a p.Val 0:=λe=>by
  show (if K8 m b=0 then (m,0,2) else _)=_;rw[za e]
 rcases d9 hx hS hc with ⟨e,er⟩ | ⟨hl,hno,er⟩ | ⟨hl,v,hv,d⟩;·exact iI hx q er (hp0 ((q.oH hx b).2 e))
 .have h0:K8 m b≠0:=λe=>eZ hR ((q.oH hx b).1 e▸hl);refine iI hx q er ?_;rw[hp1 h0];have:(m.Pairs.find? λp=>p.Key==K8 m b)=none:=by
   rw[zch];intro p hp e;obtain⟨k,v,hh,rfl⟩:=(q.p2 p).1 hp;have e:σ k=K8 m b:=by simpa using e
   rw[q.said hx] at e;have:=q.gd.inl hR (hx.sh.pr k v hh).1 hl e;subst this;exact hno v hh
  rw[this]
 .have h0:K8 m b≠0:=λe=>eZ hR ((q.oH hx b).1 e▸hl);have hvl:=(hx.sh.pr _ _ hv).2;refine Av hx q d.rt d.sl (.inr hvl) ?_ d.jz;rw[hp1 h0];cases hf:(m.Pairs.find? λp=>p.Key==K8 m b) with
  | none=>
   rw[zch] at hf;have:=hf ⟨σ (sd x b),σ v⟩ ((q.p2 _).2 ⟨_,_,hv,rfl⟩);exact absurd (by rw[q.said hx];simp) this
  | some p=>
   obtain⟨k,u,hh,rfl⟩:=(q.p2 p).1 (List.mem_of_find?_eq_some hf);have e:σ k=K8 m b:=by have:=List.find?_some hf;simpa using this
   rw[q.said hx] at e;have:=q.gd.inl hR (hx.sh.pr k u hh).1 hl e;subst this;rw[Has.fn hx.sh.hr hh hv];rfl
theorem Zy(hS:SL x){a b c:Int}(hc:y6 4 a b c=0):kM σ x m ⟨4,a,b,c⟩:=by
 have hR:=hx.sh.sr;have hp0:K8 m b=0->Y6 m ⟨4,a,b,c⟩=(m,0,2):=λe=>by
  show (if K8 m b=0 then (m,0,2) else _)=_;rw[zb e]
 have hp1:sd x b∈lv x.S->Y6 m ⟨4,a,b,c⟩=if ¬(0<=c/\c<(ob x.S (sd x b)).Fields.length) then (m,0,5) else ra m a (((ob x.S (sd x b)).Fields.map σ).getD c.toNat 0) 0:=λhl=>by
  have h0:K8 m b≠0:=λe=>eZ hR ((q.oH hx b).1 e▸hl);obtain⟨hf,hfl⟩:=q.IX hx hl;show (if K8 m b=0 then (m,0,2) else match m.Nodes.find? (λn=>n.Serial==K8 m b) with
   | none=>(m,0,2)
   | some n=>if ¬(0<=c/\c<n.Fields.length) then (m,0,5) else ra m a (n.Fields.getD c.toNat 0) 0)=_
  rw[za h0,q.said hx,hf];dsimp only;rw[hfl,zl]
 rcases eE hx.sh b with e0 | hl
 .have er2:Er x ⟨4,a,b,c⟩ 2:=by
   rcases d4 hx hS hc with ⟨_,er⟩ | ⟨e,hf,er⟩ | ⟨hl,_⟩;·exact er
   .rw[e0] at hf;have:e=2:=by
     unfold K1 at hf;have hg:w9 x.S 0=some (z0,2):=by
      have:=yJ (s:=x.S.S) (h:=0) (by decide) (λi hi=>by
       have:=((rY hR).1 hi).LR hR;omega)
      unfold w9;rw[this];rfl
     rw[hg] at hf;have:=zJ hf;exact (zX Prod.snd this).symm
    rw[<-this];exact er
   .rw[e0] at hl;exact absurd hl (eZ hR)
  exact iI hx q er2 (hp0 ((q.oH hx b).2 e0))
 .by_cases hcc:0<=c/\c<(ob x.S (sd x b)).Fields.length
  .have hp:=hp1 hl;rw[za (λd=>d hcc)] at hp;rcases d4 hx hS hc with ⟨e,_⟩ | ⟨e,hf,er⟩ | ⟨_,n,rfl,hn,d⟩;·exact absurd (e▸hl) (eZ hR)
   .exfalso;obtain⟨n,rfl⟩:∃n:Nat,c=n:=⟨c.toNat,by omega⟩;rw[EW hR hl (by omega)] at hf;exact er.1 (zX Prod.snd (zJ hf)).symm
   .refine Av hx q d.rt d.sl (hx.sh.fl _ hl _ (zh hn)) ?_ d.jz;rw[hp,zN,zd,zC,zc hn];rfl
  .refine iI hx q (e:=5) ?_ (by rw[hp1 hl,zb hcc]);rcases d4 hx hS hc with ⟨e,_⟩ | ⟨e,hf,er⟩ | ⟨_,n,rfl,hn,d⟩;·exact absurd (e▸hl) (eZ hR)
   .have:e=5:=by
     unfold K1 at hf;rw[sf (z8.2 hR) hl,a0d,za (by simp),(IV hcc).1] at hf;exact (zX Prod.snd (zJ hf)).symm
    rw[<-this];exact er
   .exact absurd ⟨by omega,by omega⟩ hcc
end
section
variable{σ:Int->Int}{x:Hp}{m:a8}(hx:K6 x)(q:p9 σ x m)
include hx q
theorem p9.r6:m.Roots.length=6:=by rw[q.ro,zl];exact hx.sh.r6
theorem Zz(hS:SL x){a b c:Int}(hc:y6 5 a b c=0):kM σ x m ⟨5,a,b,c⟩:=by
 have hR:=hx.sh.sr;have hp0:K8 m a=0->Y6 m ⟨5,a,b,c⟩=(m,0,2):=λe=>by
  show (if K8 m a=0 then (m,0,2) else _)=_;rw[zb e]
 have hp1:sd x a∈lv x.S->Y6 m ⟨5,a,b,c⟩=if ¬(0<=b/\b<(ob x.S (sd x a)).Fields.length) then (m,0,5) else (xY (fX m (σ (sd x c))) (fQ (fX m (σ (sd x c))).Nodes (σ (sd x a)) λj=>XA j (((ob x.S (sd x a)).Fields.map σ).set b.toNat (σ (sd x c)))),σ (sd x c),0):=λhl=>by
  have h0:K8 m a≠0:=λe=>eZ hR ((q.oH hx a).1 e▸hl);obtain⟨hf,hfl⟩:=q.IX hx hl;show (if K8 m a=0 then (m,0,2) else Bp m (K8 m a) b (K8 m c))=_;rw[za h0,q.said hx,q.said hx];unfold Bp;rw[hf];dsimp only;rw[hfl,zl]
 rcases eE hx.sh a with e0 | hl
 .have er2:Er x ⟨5,a,b,c⟩ 2:=by
   rcases d5 hx hS hc with ⟨_,er⟩ | ⟨e,hf,er⟩ | ⟨hl,_⟩;·exact er
   .rw[e0] at hf;have:e=2:=by
     unfold aE K1 at hf;have hg:w9 x.S 0=some (z0,2):=by
      have:=yJ (s:=x.S.S) (h:=0) (by decide) (λi hi=>by
       have:=((rY hR).1 hi).LR hR;omega)
      unfold w9;rw[this];rfl
     rw[hg] at hf;have:=zJ hf;exact (zX Prod.snd this).symm
    rw[<-this];exact er
   .rw[e0] at hl;exact absurd hl (eZ hR)
  exact iI hx q er2 (hp0 ((q.oH hx a).2 e0))
 .by_cases hcc:0<=b/\b<(ob x.S (sd x a)).Fields.length
  .have hp:=hp1 hl;rw[za (λd=>d hcc)] at hp;have hv:=eE hx.sh c;rcases yv hx hS (sd x a) b (sd x c) (kp hx.sh a) (kp hx.sh c) with ⟨e,he,f1,_⟩ | ⟨_,_,n,rfl,hn,f0,_⟩
   .exfalso;obtain⟨n,rfl⟩:∃n:Nat,b=n:=⟨b.toNat,by omega⟩;unfold aE at f1;rw[EW hR hl (by omega),a0d,za (by simp),N9 hR (kp hx.sh c),a0d,zB hv,za (by simp)] at f1;cases g:G4 x (ob x.S (sd x a)).Fields[n] (sd x c) (⟨sd x a,n,sd x c⟩:H5) with
    | none=>rw[g] at f1;cases f1
    | some w=>
     rw[g] at f1;exact he (zX Prod.snd (zJ f1)).symm
   .rcases d5 hx hS hc with ⟨e,_⟩ | ⟨e,hf,er⟩ | ⟨_,k,hk,hkn,d⟩;·exact absurd (e▸hl) (eZ hR)
    .exfalso;rcases yv hx hS (sd x a) n (sd x c) (kp hx.sh a) (kp hx.sh c) with ⟨e,he,f1,_⟩ | ⟨_,_,n',h',hn',f1,_⟩
     .rw[f0] at f1;exact he (zX Prod.snd (zJ f1)).symm
     .rw[hf] at f1;exact er.1 (zX Prod.snd (zJ f1))
    .have:k=n:=by omega
     subst this;refine⟨.inr ⟨σ,_,_,_,hp,d.rt,d.sl,?_,?_,?_,?_⟩⟩
     .rw[zN];exact q.bP hx.sh hx.fair hl hv
     .rw[d.jz,q.bw hx hv]
     .show (fX m _).Progs=_;exact GS hx q _
     .show (fX m (σ (sd x c))).Roots.length=_;rw[aP];exact (q.r6 hx:m.Roots.length=6)
  .refine iI hx q (e:=5) ?_ (by rw[hp1 hl,zb hcc]);rcases d5 hx hS hc with ⟨e,_⟩ | ⟨e,hf,er⟩ | ⟨_,n,rfl,hn,d⟩;·exact absurd (e▸hl) (eZ hR)
   .obtain rfl:e=5:=by
     unfold aE K1 at hf;rw[sf (z8.2 hR) hl,a0d,za (by simp),(IV hcc).1] at hf;exact (zX Prod.snd (zJ hf)).symm
    exact er
   .exact absurd ⟨by omega,by omega⟩ hcc
theorem p9.ZH(k:Int):Sh.wX ⟨m.Tasks,30⟩ k=Sh.wX x.Q k:=by
 rw[za8,gU,gU];have hk:∀t:g6,(tx σ t).Kind=t.Kind/\(t.Kind=2->(tx σ t).At=t.At):=λt=>by
  unfold tx;split;·rename_i h;exact⟨h.symm,λe=>by omega⟩
  .exact⟨rfl,λ_=>rfl⟩
 constructor
 .rintro⟨u,hu,k1,k2⟩;have hu:u∈x.Q.L.map (tx σ):=by rw[<-q.tk];exact hu
  obtain⟨t,ht,rfl⟩:=zq.1 hu;have:=(hk t).1;exact⟨t,ht,by omega,by rw[<-(hk t).2 (by omega)];exact k2⟩
 .rintro⟨t,ht,k1,k2⟩;refine⟨tx σ t,?_,by rw[(hk t).1];exact k1,by rw[(hk t).2 k1];exact k2⟩;show _∈m.Tasks;rw[q.tk];exact zcc ht
theorem GD(w:Nat)(s call:Int):(Mh m w s call).Progs=m.Progs/\(Mh m w s call).Roots=m.Roots:=by
 unfold Mh EJ;split;·exact⟨rfl,rfl⟩
 .split <;> exact⟨rfl,rfl⟩
theorem pre6(hS:SL x){a b c:Int}(hc:y6 6 a b c=0):kM σ x m ⟨6,a,b,c⟩:=by
 have hR:=hx.sh.sr;obtain⟨ha,hb,hcc⟩:=Rm hc;have hp:Y6 m ⟨6,a,b,c⟩=if 0<=b/\K8 m b=0 then (m,0,2) else if Sh.wX ⟨m.Tasks,30⟩ a=true then (m,0,7) else (Mh m a.toNat (K8 m b) c,K8 m b,0):=rfl
 rw[q.ZH hx,q.said hx] at hp;have hl:=eE hx.sh b;have hz:σ (sd x b)=0↔sd x b=0:=by rw[<-q.said hx];exact q.oH hx b
 by_cases h0:0<=b/\sd x b=0
 .have er2:Er x ⟨6,a,b,c⟩ 2:=by
   have hm:u6 x ⟨6,a,b,c⟩=_:=US hc;unfold M1 at hm;rw[za (by simp;omega),jD hx.sh,a0d] at hm;have has:Ba x b=(0,2):=by unfold Ba;rw[zb h0.2]
   rw[has,zb (by simp)] at hm;refine⟨by decide,?_,?_⟩
   .rw[hm,a0d];exact kR (e:=2) (by decide)
   .trivial
  exact iI hx q er2 (by rw[hp,zb ⟨h0.1,hz.2 h0.2⟩])
 .rw[za (λd=>h0 ⟨d.1,hz.1 d.2⟩)] at hp;have key:(∃e,T0 x a (sd x b) c=some (x,e)/\Er x ⟨6,a,b,c⟩ e)\/(wX x.Q a=false/\Dn x ⟨6,a,b,c⟩ (cT x a.toNat (sd x b) c) (bw x (sd x b))):=by
   rcases d6 hx hS hc with ⟨e,er⟩ | k | k
   .exfalso;have hb1:b = -1:=by omega
    subst hb1;have hm:u6 x ⟨6,a,-1,c⟩=_:=US hc;rw[er.2.1] at hm;unfold M1 at hm;rw[zb (by rfl)] at hm;rcases Eo hx a 0 c (by omega) hcc with ⟨e',he',f1,_⟩ | ⟨_,n,rfl,hn,hw,f1,_⟩
    .rw[f1,a0d,a0d,kR he'] at hm;have:=GB hx ha (.inl rfl) (by omega) hcc f1 he';have:=zX (λp=>p.2.2) (zJ hm);dsimp only at this;omega
    .rw[f1,a0d,a0d] at hm;have:=TF (a:=(n:Int)) (b:=-1) (c:=c) (z:=cT x n 0 c) (wO hx hn (.inl rfl) hcc hw) (GA hx hS hn _ _) (k:=6) (r:=-1) (x:=x) (.inr ⟨.inl rfl,rfl⟩);dsimp only at hm;rw[this] at hm;have:=zX (λp=>p.2.2) (zJ hm);exact absurd (show (2:Int)=0 from this) (by decide)
   .exact .inl k
   .exact .inr k
  rcases key with ⟨e,hf,er⟩ | ⟨hw,d⟩
  .obtain rfl:=GB hx ha hl (kp hx.sh b) hcc hf er.1;refine iI hx q er ?_;rcases Eo hx a (sd x b) c (kp hx.sh b) hcc with ⟨e',he',f1,_⟩ | ⟨_,n,rfl,hn,hw,f1,_⟩
   .rw[hp,zb];unfold T0 at hf;obtain⟨n,rfl⟩:∃n:Nat,a=n:=⟨a.toNat,by omega⟩;have c6:=hx.sh.c6;have q30:=hx.sh.q30;have e1:((decide ((n:Int)<0))||(decide ((n:Int)>=(x.b7.length:Int))))=false:=by rw[c6];simp;omega
    rw[e1] at hf;simp only[q9,iu,zb0] at hf;have hwq:aN x.Q n=some (wX x.Q n):=xP (by omega);rw[hwq,a0d,N9 hR (kp hx.sh b),a0d,zB hl] at hf;cases hw:wX x.Q n
    .exfalso;rw[hw,za (by decide),za (by decide)] at hf;cases g1:kr x.b7 n (sd x b) c with
     | none=>rw[g1] at hf;cases hf
     | some a=>
      rw[g1,a0d] at hf;cases g2:au ⟨x.S,x.Roots,a.1,x.T,x.Q⟩ (sd x b) 1 with
      | none=>rw[g2] at hf;cases hf
      | some b'=>
       rw[g2,a0d] at hf;cases g3:aY b' a.2.1 with
       | none=>rw[g3] at hf;cases hf
       | some d=>
        rw[g3,a0d] at hf;exact absurd (zX (λp=>p.2) (zJ hf)) (by simp)
    .rfl
   .rw[hf] at f1;exact absurd (zX Prod.snd (zJ f1)) (by simp)
  .rw[hw,za (by simp)] at hp;refine⟨.inr ⟨σ,_,_,_,hp,d.rt,d.sl,q.cT hx (by omega) hl,by rw[d.jz,q.bw hx hl],?_,?_⟩⟩;·exact (GD hx q ..).1
   .rw[(GD hx q ..).2];exact q.r6 hx
end
section
variable{σ:Int->Int}{x:Hp}{m:a8}(hx:K6 x)(q:p9 σ x m)
include hx q
theorem p9.ZX{k:Int}(hk:k∈lv x.S):(m.Pairs.filter λp=>p.Key != σ k).length=(x.T.filter λp=>p.State==1&&p.Key != k).length:=by
 have hR:=hx.sh.sr;rw[((q.perm hx.sh).filter _).length_eq,kc,za3,zcs,zl,zan];congr 1;refine pm λp hp=>?_;show ((σ p.Key != σ k)&&(p.State==1))=_;by_cases h1:p.State=1
 .obtain⟨i,hi,rfl⟩:=wt hp;have hh:Has x.T x.T[i].Key x.T[i].Val:=⟨i,⟨hi,by rw[mw hi];exact h1,by rw[mw hi]⟩,by rw[mw hi]⟩;have hl:=(hx.sh.pr _ _ hh).1;by_cases c:x.T[i].Key=k
  .rw[c];simp
  .have:σ x.T[i].Key≠σ k:=λe=>c (q.gd.inl hR hl hk e);have a1:(σ x.T[i].Key != σ k)=true:=bne_iff_ne.2 this;have a2:(x.T[i].Key != k)=true:=bne_iff_ne.2 c;rw[a1,a2,zbd,Bool.and_true]
 .have:(p.State==1)=false:=beq_eq_false_iff_ne.2 h1;rw[this,Bool.and_false,Bool.false_and]
theorem p9.full{k:Int}(hk:k∈lv x.S):m.Places<=((m.Pairs.filter λp=>p.Key != σ k).length:Int)↔(∀i,¬Fk x.T k i)/\∀i,i<x.T.length->(pt x.T i).State=1:=by
 rw[q.ZX hx hk,q.npl];have hle:=zE (λp:g5=>p.State==1&&p.Key != k) x.T;constructor
 .intro h;have e:(x.T.filter λp=>p.State==1&&p.Key != k).length=x.T.length:=by omega
  rw[List.length_filter_eq_length_iff] at e;have e':∀i,i<x.T.length->(pt x.T i).State=1/\(pt x.T i).Key≠k:=λi hi=>by
   rw[mw hi];simpa using e _ (zh hi)
  exact⟨λi hi=>(e' i hi.1).2 hi.2.2,λi hi=>(e' i hi).1⟩
 .rintro⟨h1,h2⟩;have e:(x.T.filter λp=>p.State==1&&p.Key != k).length=x.T.length:=by
   rw[List.length_filter_eq_length_iff];intro p hp;obtain⟨i,hi,rfl⟩:=wt hp;have a:=h2 i hi;have b:(pt x.T i).Key≠k:=λe=>h1 i ⟨hi,a,e⟩;rw[mw hi] at a b;simp[a,b]
  omega
theorem LL(s v:Int)(h:¬(v≠0/\m.Places<=((m.Pairs.filter λp=>p.Key != s).length:Int))):xj m s v=(WS (fX m v) ((m.Pairs.filter λp=>p.Key != s)++if v=0 then [] else [⟨s,v⟩]),v,0):=by
 unfold xj;rw[za h]
theorem ZB(hS:SL x){a b c:Int}(hc:y6 8 a b c=0):kM σ x m ⟨8,a,b,c⟩:=by
 have hR:=hx.sh.sr;have hl:=eE hx.sh b;have hz:σ (sd x b)=0↔sd x b=0:=by rw[<-q.said hx];exact q.oH hx b
 have hp0:K8 m a=0->Y6 m ⟨8,a,b,c⟩=(m,0,2):=λe=>by
  show (if K8 m a=0 then (m,0,2) else _)=_;rw[zb e]
 have hp1:sd x a∈lv x.S->Y6 m ⟨8,a,b,c⟩=xj m (σ (sd x a)) (σ (sd x b)):=λha=>by
  have h0:K8 m a≠0:=λe=>eZ hR ((q.oH hx a).1 e▸ha);show (if K8 m a=0 then (m,0,2) else xj m (K8 m a) (K8 m b))=_;rw[za h0,q.said hx,q.said hx]
 rcases d8 hx hS hc with ⟨e,er⟩ | ⟨hk,e,hf,er⟩ | ⟨hk,r,hr,r0,d⟩;·exact iI hx q er (hp0 ((q.oH hx a).2 e))
 .obtain rfl:=OS hx hS hk hl hf er.1;refine iI hx q er ?_;rw[hp1 hk];unfold xj;rw[zb];have k0:sd x a≠0:=λe=>eZ hR (e▸hk);unfold cv at hf;rw[za (by simpa using k0),N9 hR (tW hx hS (.inr hk)),a0d,N9 hR (tW hx hS hl),zB (.inr hk),zB hl] at hf;simp only[zbz,q9,iu,a0d,Bool.or_self,zA,un] at hf;obtain⟨r,r1,_,_,r5⟩:=dU hx.sh.hr (sd x a) (sd x b);rw[r1,a0d] at hf;have hne:r.2.2≠0:=λh0=>by
   rw[za (by simpa using h0)] at hf;cases g:E1 x r.2.1 (sd x b) ⟨r.1⟩ with
   | none=>rw[g] at hf;cases hf
   | some w=>
    rw[g,a0d] at hf;exact absurd (zX (λp=>p.2) (zJ hf)) (by simp)
  rcases r5 with ⟨e,rfl⟩ | ⟨_,_,⟨i,hi,rfl⟩ | ⟨_,rfl⟩⟩ | ⟨_,hv,⟨i,hi,rfl⟩ | ⟨d,_,_,_,_,rfl⟩ | ⟨h1,h2,rfl⟩⟩;·exact absurd e k0
  .exact absurd rfl hne
  .exact absurd rfl hne
  .exact absurd rfl hne
  .exact absurd rfl hne
  .exact⟨λe=>hv (hz.1 e),(q.full hx hk).2 ⟨h1,h2⟩⟩
 .have hno:¬(σ (sd x b)≠0/\m.Places<=((m.Pairs.filter λp=>p.Key != σ (sd x a)).length:Int)):=by
   rintro⟨hv,hf⟩;obtain⟨h1,h2⟩:=(q.full hx hk).1 hf;have hv:sd x b≠0:=λe=>hv (hz.2 e);obtain⟨r',r1,_,_,r5⟩:=dU hx.sh.hr (sd x a) (sd x b);rw[hr] at r1;obtain rfl:=zJ r1;rcases r5 with ⟨e,rfl⟩ | ⟨_,e,_⟩ | ⟨_,_,⟨i,hi,rfl⟩ | ⟨j,_,hd,hs,_,rfl⟩ | ⟨_,_,rfl⟩⟩;·exact absurd r0 (by simp)
   .exact hv e
   .exact h1 i hi
   .exact hs (h2 j hd)
   .exact absurd r0 (by simp)
  have hp:=hp1 hk;rw[LL hx q _ _ hno] at hp;have S:=q.ja hx.sh hx.fair hk hl hr r0;have hif:(if sd x b=0 then ([]:List g8) else [⟨σ (sd x a),σ (sd x b)⟩])=if σ (sd x b)=0 then [] else [⟨σ (sd x a),σ (sd x b)⟩]:=by
   by_cases e:sd x b=0
   .rw[zb e,zb (hz.2 e)]
   .rw[za e,za λf=>e (hz.1 f)]
  rw[hif] at S;refine⟨.inr ⟨σ,_,_,_,hp,d.rt,d.sl,S,by rw[d.jz,q.bw hx hl],?_,?_⟩⟩;·show (fX m _).Progs=_;exact GS hx q _
  .show (fX m (σ (sd x b))).Roots.length=_;rw[aP];exact (q.r6 hx:m.Roots.length=6)
theorem p9.WJ{i:Nat}(hi:i<x.S.S.b7.length):PB (Sh.ce x.S i)=0↔(Sh.ce x.S i).State=0:=by
 have hR:=hx.sh.sr;have hc:=hR.cell i hi;unfold PB;split
 .rename_i t;have:=(hR.ok i hi t).s1;unfold Th at t;omega
 .rename_i t;unfold Th at t;split;·omega
  .omega
theorem p9.YX:m.Slots.length=x.S.S.b7.length:=by rw[q.sl];simp
theorem p9.ZF{i:Nat}(hi:i<m.Slots.length):m.Slots[i]=PB (Sh.ce x.S i):=by
 have:=q.sl;simp only[this,t6,List.getElem_range]
theorem p9.fst{i:Nat}(h:Xj x.S i):m.Slots.findIdx (· == 0)=i:=by
 obtain⟨h1,h2,h3⟩:=h;have hi:i<m.Slots.length:=by rw[q.YX hx];exact h1
 rw[List.findIdx_eq hi];refine⟨?_,λj hj=>?_⟩;·rw[q.ZF hx hi,pu];exact (q.WJ hx h1).2 h2
 .rw[q.ZF hx (by omega),beq_eq_false_iff_ne];exact λe=>h3 j hj ((q.WJ hx (by omega)).1 e)
theorem p9.TV(h:∀i,i<x.S.S.b7.length->(Sh.ce x.S i).State≠0):¬m.Slots.findIdx (· == 0)<m.Slots.length:=by
 rw[List.findIdx_lt_length];rintro⟨v,hv,e⟩;obtain⟨i,hi,rfl⟩:=wt hv;have h1:i<x.S.S.b7.length:=by rw[<-q.YX hx];exact hi
 rw[q.ZF hx hi,pu] at e;exact h i h1 ((q.WJ hx h1).1 e)
theorem Zv(hS:SL x)(hb:x.S.Serial<9223372036854775807){a b c:Int}(hc:y6 1 a b c=0):kM σ x m ⟨1,a,b,c⟩:=by
 have hR:=hx.sh.sr;obtain⟨ha,hbb,hcc⟩:=UH hc;have hp:Y6 m ⟨1,a,b,c⟩=if m.Slots.findIdx (· == 0)<m.Slots.length then (dv (HD m (m.Slots.findIdx (· == 0)) b.toNat c) a.toNat (m.Serial+1),m.Serial+1,0) else (m,0,4):=rfl
 rcases d1 hx hS hb hc with ⟨e,hf,er⟩ | ⟨hn,_,i,hF,d⟩
 .rcases Og hR hb b c with ⟨h,_⟩ | ⟨_,h,_⟩ | ⟨_,_,h,g⟩ | ⟨_,_,i,_,g⟩;·exact absurd hbb h
  .exact absurd hcc h
  .rw[hf] at g;obtain rfl:e=4:=zX (λp=>p.2.2) (zJ g);exact iI hx q er (by rw[hp,za (q.TV hx h)])
  .rw[hf] at g;exact absurd (zX (λp=>p.2.2) (zJ g)) er.1
 .obtain⟨hi,h0,_⟩:=id hF;obtain⟨σ',S,e1⟩:=q.mk' hx hi h0 hn hcc;have hy:=Ac hx hi h0 hn hcc;have hh:cu x.S i=0\/cu x.S i∈lv (wS x (dA x.S i b.toNat c)).S:=.inr (by
   show _∈lv (dA x.S i b.toNat c);rw[Cj hR hi h0 hn hcc];exact t8 _ (zp.2 rfl))
  have S2:=S.G6 (r:=a.toNat) hy.sh hy.fair hh;rw[e1] at S2;rw[q.fst hx hF,zb (by rw[q.YX hx];exact hi),q.se] at hp;refine⟨.inr ⟨σ',_,_,_,hp,d.rt,d.sl,S2,d.jz,?_,?_⟩⟩
  .show (fX (HD m i b.toNat c) (x.S.Serial+1)).Progs=_;rw[aP];rfl
  .show ((HD m i b.toNat c).Roots.set a.toNat _).length=6;rw[zal];exact (q.r6 hx:m.Roots.length=6)
theorem vO(hS:SL x)(hz:zr x = [])(hb:x.S.Serial<9223372036854775807){o:g7}(hc:y6 o.Kind o.A o.B o.C=0)(hk:o.Kind<=10):kM σ x m o:=by
 obtain⟨k,a,b,c⟩:=o;dsimp only at hc hk;have:=tT hc;have hk:k=1\/k=2\/k=3\/k=4\/k=5\/k=6\/k=7\/k=8\/k=9\/k=10:=by omega
 rcases hk with rfl | rfl | rfl | rfl | rfl | rfl | rfl | rfl | rfl | rfl
 .exact Zv hx q hS hb hc
 .exact Zw hx q hS hc
 .exact Zx hx q hS hc
 .exact Zy hx q hS hc
 .exact Zz hx q hS hc
 .exact pre6 hx q hS hc
 .exact ZA hx q hS hc
 .exact ZB hx q hS hc
 .exact ZC hx q hS hc
 .exact Ym hx q hS hz hc
end
theorem Vq{l:List Int}(hl:l.length<=1000):H4 l 0=some (if l.findIdx (· == 0)<l.length then (l.findIdx (· == 0):Int) else -1):=by
 unfold H4;simp only[jn];refine dO l.length (λi=>i<=l.findIdx (· == 0)) (by omega) (zW _) (λi hi hik=>?_) (λhlk=>⟨.inr (),by simp,by rw[za (by omega)]⟩);rw[zb (by simpa using hi),r9 hi,a0d];rcases zD i (l.findIdx (· == 0)) with c | c
 .left;have:=List.not_of_lt_findIdx c;have h0:l[i]≠0:=by simpa using this
  rw[za (by simpa using λe=>h0 e.symm),n9 (by omega)];exact⟨rfl,c⟩
 .have e:i=l.findIdx (· == 0):=by omega
  right;have hlt:l.findIdx (· == 0)<l.length:=by omega
  have:(l[l.findIdx (· == 0)]==0)=true:=List.findIdx_getElem (w:=hlt) (p:=(· == 0));have h0:l[i]=0:=by simp only[e];simpa using this
  rw[zb (by rw[h0];rfl),zb hlt,e];exact⟨_,rfl,rfl⟩
theorem Tu{l:List Int}(hl:l.length<=1000)(k v:Int):mR l k v=some (if 0<=k/\k<l.length then (l.set k.toNat v,0) else (l,5)):=by
 unfold mR gS;rw[a0d];by_cases c:0<=k/\k<l.length
 .obtain⟨n,rfl⟩:∃n:Nat,k=n:=⟨k.toNat,by omega⟩;have hn:n<l.length:=by omega
  rw[za (by simp;omega),lf (by omega) (by omega),a0d];have e:xC (List.replicate l.length (0:Int)) l=some l:=by
   unfold xC;rw[zb (by simp)];simp
  rw[e,a0d,r9 hn,a0d,zb c]
 .rw[za c,zb (by simp;omega)]
theorem UC(l:List Int)(k:Int):iW l k=some (if 0<=k/\k<l.length then (l.getD k.toNat 0,0) else (0,5)):=by
 by_cases c:0<=k/\k<l.length
 .obtain⟨n,rfl⟩:∃n:Nat,k=n:=⟨k.toNat,by omega⟩;have hn:n<l.length:=by omega
  unfold iW gS;rw[a0d,za (by simp;omega),r9 hn,a0d,zb c,zN,zd,zc hn];rfl
 .rw[(IV c).1,za c]
theorem RN{l:List k8}{n:Nat}(hn:n<l.length):cQ l n=some (if l[n].Target=0\/l[n].Intact=false then (0,9) else (l[n].Target,0)):=by
 unfold cQ ky;have:(decide ((n:Int)>=0)&&decide ((n:Int)<(l.length:Int)))=true:=by simp;omega
 rw[this,a0d,za (by simp),r9 hn,a0d];by_cases q:l[n].Target=0\/l[n].Intact=false
 .rw[zb q,zb (by rcases q with q | q <;> simp[q])]
 .rw[za q,za (by simpa using q)]
section
variable{σ:Int->Int}{x:Hp}{m:a8}(hx:K6 x)(q:p9 σ x m)
include hx q
theorem p9.YS{h:Int}(hh:h=0\/h∈lv x.S):σ h=0\/∃n,m.Nodes.find? (λn=>n.Serial==σ h)=some n:=by
 rcases hh with e | hl
 .left;rw[e];exact q.gd.z
 .exact .inr ⟨_,(q.IX hx hl).1⟩
theorem FC{a:Int}(ha:0<=a/\a<=5){h:Int}(hh:h=0\/h∈lv x.S):aI m a (σ h)=some (lM (dv m a.toNat (σ h)),⟨σ h,0⟩):=by
 obtain⟨r,rfl⟩:∃r:Nat,a=r:=⟨a.toNat,by omega⟩;have S:=q.G6 (r:=r) hx.sh hx.fair hh;have hz:=bX hx (r:=r) (by omega) hh;have S2:=S.bJ hz;have r6:=q.r6 hx;unfold aI;rw[yX (q.bn hx.sh.sr) (q.bl hx.sh) (q.YS hx hh) (by omega),a0d,mg hz S,a0d,zN];have e:(lM (dv m r (σ h))).Roots=m.Roots.set r (σ h):=by
  rw[S2.ro,(mM hz).rt,<-S.ro];rfl
 have hl:r<(lM (dv m r (σ h))).Roots.length:=by rw[e,zal];omega
 rw[r9 hl,a0d];have:(lM (dv m r (σ h))).Roots[r]=σ h:=by simp only[e,List.getElem_set_self]
 rw[this]
theorem yY{r:Int}(hr:r<=5):T8 m r=some (K8 m r):=by
 have r6:=q.r6 hx;unfold T8 K8;by_cases c:r<0
 .rw[zb (by simpa using c),zb c]
 .obtain⟨n,rfl⟩:∃n:Nat,r=n:=⟨r.toNat,by omega⟩;have hn:n<m.Roots.length:=by omega
  rw[za (by simp),za c,r9 hn,a0d,zN,zd,zc hn];rfl
theorem Hz{r:Int}(h0:0<=r)(hr:r<=5):ix m.Roots r=some (K8 m r):=by
 have:=yY hx q hr;unfold T8 at this;rw[za (by simp;omega)] at this;cases g:ix m.Roots r with
 | none=>rw[g] at this;cases this
 | some v=>rw[g] at this;exact this
theorem tY{r:Int}(hr:r<=5):(K8 m r=0/\∃z,O7 m r=some (z,2))\/(K8 m r≠0/\sd x r∈lv x.S/\∃n,m.Nodes.find? (λn=>n.Serial==K8 m r)=some n/\n.Serial=K8 m r/\n.Fields=(ob x.S (sd x r)).Fields.map σ/\O7 m r=some (n,0)):=by
 unfold O7;rw[yY hx q hr,a0d];by_cases c:K8 m r=0
 .rw[zb (by simpa using c)];exact .inl ⟨c,_,rfl⟩
 .rw[za (by simpa using c)];have hl:=(eE hx.sh r).resolve_left λe=>c ((q.oH hx r).2 e);obtain⟨hf,hfl⟩:=q.IX hx hl;rw[<-q.said hx] at hf;obtain⟨k,hk,e1,e2⟩:=yV (q.bn hx.sh.sr) hf;rw[e2,a0d,r9 hk,a0d,e1];exact .inr ⟨c,hl,_,hf,(lY hf).1,hfl,rfl⟩
theorem RT{k a b c:Int}(hc:y6 k a b c=0)(hk:k=2\/k=3\/k=4\/k=7\/k=9):∃v e,bR m ⟨k,a,b,c⟩=some (v,e) /\
  Y6 m ⟨k,a,b,c⟩=(if e≠0 then (m,0,e) else (dv m a.toNat v,v,0))/\(e=0->∃h,(h=0\/h∈lv x.S)/\v=σ h):=by
 have r6:=q.r6 hx;rcases hk with rfl | rfl | rfl | rfl | rfl
 .obtain⟨ha,hb⟩:=MZ hc;refine⟨K8 m b,0,?_,rfl,λ_=>⟨_,eE hx.sh b,q.said hx b⟩⟩;show ((ix m.Roots b).bind λv1=>some (v1,(0:Int)))=_;rw[Hz hx q (by omega) (by omega)];rfl
 .exact⟨0,0,rfl,rfl,λ_=>⟨0,.inl rfl,q.gd.z.symm⟩⟩
 .obtain⟨ha,hb,hcc⟩:=UI hc;have hp:Y6 m ⟨4,a,b,c⟩=if K8 m b=0 then (m,0,2) else match m.Nodes.find? (λn=>n.Serial==K8 m b) with
   | none=>(m,0,2)
   | some n=>if ¬(0<=c/\c<n.Fields.length) then (m,0,5) else ra m a (n.Fields.getD c.toNat 0) 0:=rfl
  have hm:bR m ⟨4,a,b,c⟩=(O7 m b).bind λv2=>if (v2.2 != 0) then some (0,v2.2) else (iW v2.1.Fields c).bind λv3=>some (v3.1,v3.2):=rfl
  rcases tY hx q (r:=b) (by omega) with ⟨h0,z,e⟩ | ⟨h0,hl,n,hn,hs,hf,e⟩
  .refine⟨0,2,?_,?_,λe=>absurd e (by decide)⟩;·rw[hm,e];rfl
   .rw[hp,zb h0];rfl
  .rw[za h0,hn] at hp;dsimp only at hp;rw[e,a0d,za (by simp),UC,a0d] at hm;by_cases g:0<=c/\c<n.Fields.length
   .rw[za (λd=>d g)] at hp;rw[zb g] at hm;refine⟨n.Fields.getD c.toNat 0,0,hm,hp,λ_=>?_⟩;have hlen:c.toNat<(ob x.S (sd x b)).Fields.length:=by
     have:=g.2;rw[hf,zl] at this;omega
    refine⟨(ob x.S (sd x b)).Fields[c.toNat],hx.sh.fl _ hl _ (zh hlen),?_⟩;rw[hf,zd,zC,zc hlen];rfl
   .rw[zb g] at hp;rw[za g] at hm;exact⟨0,5,hm,hp,λe=>absurd e (by decide)⟩
 .obtain⟨ha,hb⟩:=UK hc;obtain⟨n,rfl⟩:∃n:Nat,b=n:=⟨b.toNat,by omega⟩;have c6:=hx.sh.c6;have hnx:n<x.b7.length:=by omega
  have hn:n<m.b7.length:=by rw[q.ce,zl];exact hnx
  have hg:m.b7.getD n cz=m.b7[n]:=by rw[zd,zc hn];rfl
  have hp:Y6 m ⟨7,a,n,c⟩=if (m.b7.getD n cz).Target=0\/(m.b7.getD n cz).Intact=false then (m,0,9) else ra m a (m.b7.getD n cz).Target 0:=rfl
  have hm:bR m ⟨7,a,n,c⟩=(cQ m.b7 n).bind λv4=>some (v4.1,v4.2):=rfl;rw[hg] at hp;rw[RN hn,a0d] at hm;by_cases g:m.b7[n].Target=0\/m.b7[n].Intact=false
  .rw[zb g] at hp hm;exact⟨0,9,hm,hp,λe=>absurd e (by decide)⟩
  .rw[za g] at hp hm;refine⟨_,0,hm,hp,λ_=>⟨x.b7[n].Target,.inr (((hx.sh.cl n hnx).2.2.2.2 ?_).1),?_⟩⟩
   .have:m.b7[n].Intact=x.b7[n].Intact:=by simp only[q.ce,t6];rfl
    rw[<-this];cases hi:m.b7[n].Intact with
    | true=>rfl
    | false=>exact absurd (.inr hi) g
   .simp only[q.ce,t6];rfl
 .obtain⟨ha,hb⟩:=UM hc;have hp:Y6 m ⟨9,a,b,c⟩=if K8 m b=0 then (m,0,2) else match (m.Pairs.find? λp=>p.Key==K8 m b) with
   | none=>(m,0,9)
   | some p=>ra m a p.Val 0:=rfl
  have hm:bR m ⟨9,a,b,c⟩=(O7 m b).bind λv5=>if (v5.2 != 0) then some (0,v5.2) else (P4 m v5.1.Serial).bind λv6=>if (decide ((v6.length:Int) > 0)) then (ix v6 0).bind λv7=>some (v7,0) else some (0,9):=rfl
  rcases tY hx q (r:=b) (by omega) with ⟨h0,z,e⟩ | ⟨h0,hl,n,hn,hs,hf,e⟩
  .refine⟨0,2,?_,?_,λe=>absurd e (by decide)⟩;·rw[hm,e];rfl
   .rw[hp,zb h0];rfl
  .rw[za h0,<-List.head?_filter] at hp;rw[e,a0d,za (by simp)] at hm;dsimp only at hm;rw[FD (q.bn hx.sh.sr) (q.bl hx.sh),a0d,hs] at hm;cases g:m.Pairs.filter λp=>p.Key==K8 m b with
   | nil=>
    rw[g] at hp hm;exact⟨0,9,hm,hp,λe=>absurd e (by decide)⟩
   | cons p l=>
    rw[g] at hp hm;have hin:p∈m.Pairs:=(zj.1 (g▸zg:p∈m.Pairs.filter λp=>p.Key==K8 m b)).1;obtain⟨k,v,hh,rfl⟩:=(q.p2 p).1 hin;refine⟨σ v,0,?_,hp,λ_=>⟨v,.inr (hx.sh.pr k v hh).2,rfl⟩⟩;rw[hm,zb (by simp)];rfl
end
theorem ET{m:a8}{o:g7}{e:Int}(h:Y6 m o=(m,0,e))(he:e≠0):Bj m o=(m,0,e):=by
 unfold Bj;rw[h,zb he]
theorem BQ{m mz:a8}{o:g7}{v:Int}(h:Y6 m o=(mz,v,0)):Bj m o=(lM mz,v,0):=by
 unfold Bj;rw[h,za (by simp)]
section
variable{σ:Int->Int}{x:Hp}{m:a8}(hx:K6 x)(q:p9 σ x m)
include hx q
theorem p9.Px(hz:Sh.zr x = []):lM m=m:=by
 have h1:sH m=m:=Cx (by rw[q.zr hx,hz];rfl);have:∀n,gx n m=m:=λn=>by
  induction n with
  | zero=>rfl
  | succ n ih=>rw[jG,ih,h1]
 exact this 100
theorem Dv{o:g7}(P:kM σ x m o){W:Option (a8 × Int)}{s:Int}
  (h:W=some ((Y6 m o).1,(Y6 m o).2.2))(hv:(Y6 m o).2.2=0->(Y6 m o).2.1=s) :
  (W.bind λv1=>if (v1.2 != 0) then some (m,(⟨0,v1.2⟩:g9)) else (H6 v1.1).bind λv2=>some (v2,(⟨s,0⟩:g9)))=some ((Bj m o).1,⟨(Bj m o).2.1,(Bj m o).2.2⟩):=by
 rw[h,a0d];rcases P.r with ⟨e,he,hp,_⟩ | ⟨σ',z,mz,v,hp,hz,_,S,_,_,_⟩;·rw[ET hp he,hp,zb (by simpa using he)]
 .rw[hp] at hv;rw[BQ hp,hp,za (by simp),mg hz S,a0d,<-hv rfl]
theorem Of{a b c:Int}(hc:y6 5 a b c=0):jl m (K8 m c) ⟨5,a,b,c⟩=some ((Y6 m ⟨5,a,b,c⟩).1,(Y6 m ⟨5,a,b,c⟩).2.2):=by
 obtain⟨ha,hb,hcc⟩:=UJ hc;have hp:Y6 m ⟨5,a,b,c⟩=if K8 m a=0 then (m,0,2) else Bp m (K8 m a) b (K8 m c):=rfl
 have B:=q.bn hx.sh.sr;have C:=q.bl hx.sh;have hv:=q.YS hx (eE hx.sh c);rw[<-q.said hx] at hv;unfold jl;dsimp only;rcases tY hx q (r:=a) (by omega) with ⟨h0,z,e⟩ | ⟨h0,hl,n,hn,hs,hf,e⟩;·rw[e,a0d,zb (by simp),hp,zb h0]
 .rw[e,a0d,za (by simp),hp,za h0];unfold Bp;rw[hn];dsimp only;have hfl:=B.fl n (lY hn).2;rw[Tu (by omega),a0d];by_cases g:0<=b/\b<n.Fields.length
  .rw[zb g,za (by simp),za (λd=>d g),Ds B C hv,a0d];have hn2:∃n',(fX m (K8 m c)).Nodes.find? (λk=>k.Serial==n.Serial)=some n':=by
    rw[hs];unfold fX;split
    .cases hh:(uP m (K8 m c)).Nodes.find? (λk=>k.Serial==K8 m a) with
     | some n'=>exact⟨n',rfl⟩
     | none=>
      exfalso;rw[zch] at hh;have hin:=(lY hn).2;have:(if n.Serial=K8 m c then Ee n else n)∈(uP m (K8 m c)).Nodes:=by
       show _∈fQ m.Nodes (K8 m c) Ee;exact zcc hin
      have hse:(if n.Serial=K8 m c then Ee n else n).Serial=K8 m a:=by
       split;·exact hs
       .exact hs
      exact hh _ this (pu.2 hse)
    .exact⟨n,hn⟩
   obtain⟨n',hn2⟩:=hn2;rw[VD (B.fX _) hn2,a0d,hs]
  .rw[za g,zb (by simp),zb g]
theorem VF{a b c:Int}(hc:y6 6 a b c=0):fz m (K8 m b) ⟨6,a,b,c⟩=some ((Y6 m ⟨6,a,b,c⟩).1,(Y6 m ⟨6,a,b,c⟩).2.2):=by
 obtain⟨ha,hb,hcc⟩:=Rm hc;have hp:Y6 m ⟨6,a,b,c⟩=if 0<=b/\K8 m b=0 then (m,0,2) else if Sh.wX ⟨m.Tasks,30⟩ a=true then (m,0,7) else (Mh m a.toNat (K8 m b) c,K8 m b,0):=rfl
 have B:=q.bn hx.sh.sr;have C:=q.bl hx.sh;have tl:=C.tl;have wl:=C.wl;have c6:m.b7.length=6:=by rw[q.ce,zl,hx.sh.c6]
 obtain⟨n,rfl⟩:∃n:Nat,a=n:=⟨a.toNat,by omega⟩;have hn:n<m.b7.length:=by omega
 unfold fz;dsimp only;by_cases g:0<=b/\K8 m b=0
 .rw[zb (by simp[g.1,g.2]),hp,zb g]
 .rw[za (by simpa using g),hp,za g,yZ,a0d,show aN (⟨m.Tasks,30⟩:j5) (n:Int)=some (Sh.wX ⟨m.Tasks,30⟩ n) from xP (q:=⟨m.Tasks,30⟩) (by show m.Tasks.length<=1000;omega),a0d];cases hw:Sh.wX ⟨m.Tasks,30⟩ (n:Int)
  .rw[za (by simp),za (by simp),GC (by omega) hn,a0d,za (by simp)];dsimp only;have hg:m.b7.getD n cz=m.b7[n]:=by rw[zd,zc hn];rfl
   rw[yW (m:=Tt m (m.b7.set n (fP (K8 m b) c))) ⟨B.nl,B.up,B.fl,B.sg,B.gg,B.gl⟩ ⟨C.rl,by show (m.b7.set n _).length<=30;rw[zal];exact C.wl,C.pa,C.tl⟩,a0d,zN];unfold Mh;rw[hg]
  .rw[zb rfl,zb rfl]
theorem Oe{a b c:Int}(hc:y6 8 a b c=0):jk m (K8 m b) ⟨8,a,b,c⟩=some ((Y6 m ⟨8,a,b,c⟩).1,(Y6 m ⟨8,a,b,c⟩).2.2):=by
 obtain⟨ha,hb⟩:=UL hc;have hp:Y6 m ⟨8,a,b,c⟩=if K8 m a=0 then (m,0,2) else xj m (K8 m a) (K8 m b):=rfl
 have B:=q.bn hx.sh.sr;have C:=q.bl hx.sh;have pa:=C.pa;have hv:=q.YS hx (eE hx.sh b);rw[<-q.said hx] at hv;unfold jk;dsimp only;rcases tY hx q (r:=a) (by omega) with ⟨h0,z,e⟩ | ⟨h0,hl,n,hn,hs,hf,e⟩;·rw[e,a0d,zb (by simp),hp,zb h0]
 .rw[e,a0d,za (by simp),hp,za h0];have hpk:D4 m.Pairs n=some (m.Pairs.filter λp=>p.Key != n.Serial):=by
   unfold D4;exact ll (P:=λp=>fw p n) (λp _=>rfl) (by omega) (by omega) (by omega)
  rw[hpk,a0d,hs];unfold xj;have hfl:=zE (λp:g8=>p.Key != K8 m a) m.Pairs;by_cases v0:K8 m b=0
  .rw[zb (by simpa using v0),za (λd=>d.1 v0),zb v0,zap];unfold fX;rw[za (λd=>d.1 v0)]
  .rw[za (by simpa using v0)];by_cases g:m.Places<=((m.Pairs.filter λp=>p.Key != K8 m a).length:Int)
   .rw[zb (by simpa using g),zb ⟨v0,g⟩]
   .rw[za (by simpa using g),za (λd=>g d.2),Ds B C hv,a0d,GU (by omega) (JC (m:=100) (by omega) (by omega) (by omega)),a0d,za v0]
theorem Lw(hS:SL x)(hb:x.S.Serial<9223372036854775807){a b c:Int}(hc:y6 1 a b c=0):dm m ⟨1,a,b,c⟩=some ((Bj m ⟨1,a,b,c⟩).1,⟨(Bj m ⟨1,a,b,c⟩).2.1,(Bj m ⟨1,a,b,c⟩).2.2⟩):=by
 obtain⟨ha,hbb,hcc⟩:=UH hc;have hR:=hx.sh.sr;have B:=q.bn hR;have hp:Y6 m ⟨1,a,b,c⟩=if m.Slots.findIdx (· == 0)<m.Slots.length then (dv (HD m (m.Slots.findIdx (· == 0)) b.toNat c) a.toNat (m.Serial+1),m.Serial+1,0) else (m,0,4):=rfl
 obtain⟨n,rfl⟩:∃n:Nat,b=n:=⟨b.toNat,by omega⟩;have gl:=B.gl;have nl:=B.nl;unfold dm;have hv:qM (⟨1,a,(n:Int),c⟩:g7).B=some (List.replicate n 0,0):=by
  unfold qM;rw[za (by simp;omega)];show ((mk 8 (n:Int) (0:Int)).bind _)=_;rw[lf (by omega) (by omega),a0d]
 rw[hv,a0d,za (by simp),Vq (by omega),a0d];rcases Og hR hb n c with ⟨h,_⟩ | ⟨_,h,_⟩ | ⟨_,_,h,g⟩ | ⟨_,_,i,hF,g⟩;·exact absurd hbb h
 .exact absurd hcc h
 .have:=q.TV hx h;rw[za this] at hp |-;rw[zb (by simp),ET hp (by decide)]
 .obtain⟨hi,h0,_⟩:=id hF;have hsi:i<m.Slots.length:=by rw[q.YX hx];exact hi
  have hn:n<=4:=by omega
  rw[q.fst hx hF,zb hsi] at hp |-;rw[zN] at hp;rw[BQ hp,za (by simp)];have hs':=hR.bw;have hw:u4 (m.Serial+1)=m.Serial+1:=by rw[q.se];exact O1 (by omega) (by omega)
  have hc1:y8 m.Slots=some m.Slots:=cq (by omega) (JC (m:=30) (by omega) (by omega) (by omega));have hc2:p8 m.Nodes=some m.Nodes:=cq (by omega) (JC (m:=30) (by omega) (by omega) (by omega));rw[hc1,a0d,r9 hsi,a0d,hc2,a0d,hw,GU (by omega) (JC (m:=100) (by omega) (by omega) (by omega)),a0d,zN];obtain⟨σ',S,e1⟩:=q.mk' hx hi h0 hn hcc;have hy:=Ac hx hi h0 hn hcc;have hh:cu x.S i=0\/cu x.S i∈lv (wS x (dA x.S i n c)).S:=.inr (by
   show _∈lv (dA x.S i n c);rw[Cj hR hi h0 hn hcc];exact t8 _ (zp.2 rfl))
  have T:=FC hy S ha hh;rw[e1,<-q.se] at T;dsimp only;rw[show aI ⟨m.Nodes ++ [⟨m.Serial+1,i,c,false,true,false,List.replicate n 0⟩],m.Slots.set i (m.Serial+1),m.Gens,m.Last,m.Places,m.Serial+1,m.Roots,m.b7,m.Pairs,m.Tasks,m.Progs⟩ a (m.Serial+1)=_ from T,a0d]
theorem VC(hS:SL x)(hz:zr x = [])(hb:x.S.Serial<9223372036854775807){o:g7}(hc:y6 o.Kind o.A o.B o.C=0)(hk:o.Kind<=10):bS m o=some ((Bj m o).1,⟨(Bj m o).2.1,(Bj m o).2.2⟩):=by
 have P:=vO hx q hS hz hb hc hk;obtain⟨k,a,b,c⟩:=o;dsimp only at hc hk;have:=tT hc;have asks:(k=2\/k=3\/k=4\/k=7\/k=9)->(0<=a/\a<=5)->bS m ⟨k,a,b,c⟩=((bR m ⟨k,a,b,c⟩).bind λv10=>if (v10.2 != 0) then some (m,(⟨0,v10.2⟩:g9)) else (aI m a v10.1).bind λv11=>some (v11.1,v11.2))->bS m ⟨k,a,b,c⟩=some ((Bj m ⟨k,a,b,c⟩).1,⟨(Bj m ⟨k,a,b,c⟩).2.1,(Bj m ⟨k,a,b,c⟩).2.2⟩):=λhk ha e=>by
  obtain⟨v,er,h1,h2,h3⟩:=RT hx q hc hk;rw[e,h1,a0d];by_cases g:er=0
  .obtain⟨h,hh,rfl⟩:=h3 g;rw[za (by simp[g])] at h2 |-;dsimp only;rw[FC hx q ha hh,a0d,BQ h2]
  .rw[zb g] at h2;rw[zb (by simpa using g),ET h2 g]
 have hk:k=1\/k=2\/k=3\/k=4\/k=5\/k=6\/k=7\/k=8\/k=9\/k=10:=by omega
 rcases hk with rfl | rfl | rfl | rfl | rfl | rfl | rfl | rfl | rfl | rfl
 .show ((dm m ⟨1,a,b,c⟩).bind λv9=>some (v9.1,v9.2))=_;rw[Lw hx q hS hb hc];rfl
 .exact asks (by simp) (MZ hc).1 rfl
 .exact asks (by simp) (Xo hc) rfl
 .exact asks (by simp) (UI hc).1 rfl
 .show ((T8 m c).bind λv3=>(K3 m v3 ⟨5,a,b,c⟩).bind λv4=>some (v4.1,v4.2))=_;rw[yY hx q (by have:=UJ hc;omega),a0d];unfold K3;rw[Dv hx q P (Of hx q hc)];·rfl
  .show (if K8 m a=0 then (m,0,2) else Bp m (K8 m a) b (K8 m c)).2.2=0->(if K8 m a=0 then (m,0,2) else Bp m (K8 m a) b (K8 m c)).2.1=K8 m c;unfold Bp;split;·exact λe=>absurd (show (2:Int)=0 from e) (by decide)
   .split;·exact λe=>absurd (show (2:Int)=0 from e) (by decide)
    .split;·exact λe=>absurd (show (5:Int)=0 from e) (by decide)
     .exact λ_=>rfl
 .show ((T8 m b).bind λv3=>(I7 m v3 ⟨6,a,b,c⟩).bind λv4=>some (v4.1,v4.2))=_;rw[yY hx q (by have:=Rm hc;omega),a0d];unfold I7;rw[Dv hx q P (VF hx q hc)];·rfl
  .show (if 0<=b/\K8 m b=0 then (m,0,2) else if Sh.wX ⟨m.Tasks,30⟩ a=true then (m,0,7) else (Mh m a.toNat (K8 m b) c,K8 m b,0)).2.2=0->(if 0<=b/\K8 m b=0 then (m,0,2) else if Sh.wX ⟨m.Tasks,30⟩ a=true then (m,0,7) else (Mh m a.toNat (K8 m b) c,K8 m b,0)).2.1=K8 m b;split;·exact λe=>absurd (show (2:Int)=0 from e) (by decide)
   .split;·exact λe=>absurd (show (7:Int)=0 from e) (by decide)
    .exact λ_=>rfl
 .exact asks (by simp) (UK hc).1 rfl
 .show ((T8 m b).bind λv3=>(K2 m v3 ⟨8,a,b,c⟩).bind λv4=>some (v4.1,v4.2))=_;rw[yY hx q (by have:=UL hc;omega),a0d];unfold K2;rw[Dv hx q P (Oe hx q hc)];·rfl
  .show (if K8 m a=0 then (m,0,2) else xj m (K8 m a) (K8 m b)).2.2=0->(if K8 m a=0 then (m,0,2) else xj m (K8 m a) (K8 m b)).2.1=K8 m b;unfold xj;split;·exact λe=>absurd (show (2:Int)=0 from e) (by decide)
   .split;·exact λe=>absurd (show (8:Int)=0 from e) (by decide)
    .exact λ_=>rfl
 .exact asks (by simp) (UM hc).1 rfl
 .obtain⟨ha,hb⟩:=TE hc;have hp:Y6 m ⟨10,a,b,c⟩=(m,if K8 m a=K8 m b then 1 else 0,0):=rfl;show ((ix m.Roots a).bind λv1=>(ix m.Roots b).bind λv2=>if (v1==v2) then some (m,(⟨1,0⟩:g9)) else some (m,(⟨0,0⟩:g9)))=_;rw[Hz hx q ha.1 ha.2,a0d,Hz hx q hb.1 hb.2,a0d,BQ hp,q.Px hx hz];by_cases g:K8 m a=K8 m b
  .rw[zb (by simpa using g),zb g]
  .rw[za (by simpa using g),za g]
theorem p9.jz(hS:SL x)(hz:Sh.zr x = [])(hb:x.S.Serial<9223372036854775807){o:g7}(hc:y6 o.Kind o.A o.B o.C=0)(hk:o.Kind<=10):(∃σ',p9 σ' (Sh.jz x o).1 (Bj m o).1)/\(Bj m o).2=(Sh.jz x o).2:=by
 rcases (vO hx q hS hz hb hc hk).r with ⟨e,he,hp,hd⟩ | ⟨σ',z,mz,v,hp,hzr,_,S,hd,_,_⟩;·rw[ET hp he,hd];exact⟨⟨σ,q⟩,rfl⟩
 .rw[BQ hp,hd];have S2:=S.bJ hzr;generalize Sh.bJ z=y at S2 |-;generalize lM mz=my at S2 |-;exact⟨⟨σ',S2⟩,rfl⟩
end
def Um(m:a8):Prop:=∀c∈m.b7,∀n∈m.Nodes,n.Alive=true->n.Serial=c.Target->c.Intact=true
def NS(l l':List b8):Prop:=∀n'∈l',n'.Alive=true->∃n∈l,n.Alive=true/\n.Serial=n'.Serial
theorem NS.refl(l:List b8):NS l l:=λn h a=>⟨n,h,a,rfl⟩
theorem NS.trans{a b c:List b8}(h:NS a b)(k:NS b c):NS a c:=λn hn ha=>by
 obtain⟨n1,h1,a1,e1'⟩:=k n hn ha;obtain⟨n2,h2,a2,e2'⟩:=h n1 h1 a1;exact⟨n2,h2,a2,e2'.trans e1'⟩
theorem NS.fQ(l:List b8)(s:Int){f:b8->b8}(hf:∀n,(f n).Serial=n.Serial/\((f n).Alive=true->n.Alive=true)):NS l (Sh.fQ l s f):=λn' hn ha=>by
 obtain⟨n,h,rfl⟩:=zq.1 hn;by_cases c:n.Serial=s
 .rw[zb c] at ha |-;exact⟨n,h,(hf n).2 ha,(hf n).1.symm⟩
 .rw[za c] at ha |-;exact⟨n,h,ha,rfl⟩
theorem NS.fX(m:a8)(s:Int):NS m.Nodes (Sh.fX m s).Nodes:=by
 unfold Sh.fX;split;·exact NS.fQ _ _ λn=>⟨rfl,id⟩
 .exact NS.refl _
theorem NS.EJ(m:a8)(s:Int):NS m.Nodes (Sh.EJ m s).Nodes:=by
 unfold Sh.EJ;split;·exact NS.refl _
 .split;·exact NS.refl _
  .exact λn hn ha=>⟨n,(zj.1 hn).1,ha,rfl⟩
theorem KW(m:a8)(s:Int):(EJ m s).b7=m.b7:=by
 unfold EJ;split;·rfl
 .split <;> rfl
theorem Um.of{m m':a8}(h:Um m)(hc:m'.b7=m.b7)(hn:NS m.Nodes m'.Nodes):Um m':=λc hcm n' hn' ha e=>by
 obtain⟨n,h1,h2,h3⟩:=hn n' hn' ha;rw[hc] at hcm;exact h c hcm n h1 h2 (h3.trans e)
theorem qp(m:a8)(s:Int):(fX m s).b7=m.b7:=by rw[aP]
theorem Um.YW{m:a8}(h:Um m)(r:Nat)(s:Int):Um (dv m r s):=h.of (show (fX m s).b7=_ from qp m s) (NS.fX m s)
theorem Um.ZO{m:a8}(h:Um m)(s:Int):Um (qZ m s):=h.of (show (fX m s).b7=_ from qp m s) ((NS.fX m s).trans (NS.fQ _ _ λn=>⟨rfl,id⟩))
theorem Um.ZG{l:List Int}:∀ {m:a8},Um m->Um (l.foldl qZ m):=by
 induction l with
 | nil=>exact λh=>h
 | cons s l ih=>exact λh=>ih (h.ZO s)
theorem Vw(m:a8)(s:Int):NS m.Nodes (rz m s).Nodes/\∀n∈(rz m s).Nodes,n.Alive=true->n.Serial≠s:=by
 refine⟨(NS.fQ m.Nodes s (f:=lV) λn=>⟨rfl,λh=>by cases h⟩).trans (NS.EJ (xY m (fQ m.Nodes s lV)) s),λn hn ha e=>?_⟩;have:NS (fQ m.Nodes s lV) (rz m s).Nodes:=NS.EJ (xY m (fQ m.Nodes s lV)) s;obtain⟨n1,h1,a1,e1'⟩:=this n hn ha;obtain⟨n2,h2,rfl⟩:=zq.1 h1;by_cases c:n2.Serial=s
 .rw[zb c] at a1;cases a1
 .rw[za c] at e1';exact c (e1'.trans e)
theorem JA:∀(S:List Int) (m:a8),NS m.Nodes (S.foldl rz m).Nodes/\(∀n∈(S.foldl rz m).Nodes,n.Alive=true->n.Serial∉S)/\(S.foldl rz m).b7=m.b7
 | [],m=>⟨NS.refl _,λ_ _ _=>by simp,rfl⟩
 | s::S,m=>by
  obtain⟨a,b,c⟩:=JA S (rz m s);obtain⟨k1,k2⟩:=Vw m s;rw[zaj];refine⟨k1.trans a,λn hn ha h=>?_,c.trans (yR m s).2.1⟩;rcases zM.1 h with e | e
  .obtain⟨n1,h1,a1,e1'⟩:=a n hn ha;exact k2 n1 h1 a1 (e1'.trans e)
  .exact b n hn ha e
theorem Um.ZL{m:a8}(h:Um m)(S:List Int):Um (Bg m S):=λc hc n hn ha e=>by
 obtain⟨a,b,c'⟩:=JA S (WS (Gy (Tt m (lS m.b7 S)) (m.Tasks++jN m.b7 S)) (m.Pairs.filter λp=>decide (p.Key∉S)));have hc:c∈lS m.b7 S:=by rw[<-show (Bg m S).b7=lS m.b7 S from c'];exact hc
 obtain⟨d,hd,rfl⟩:=zq.1 hc;rw[(pc S d).1] at e;obtain⟨n1,h1,a1,e1'⟩:=a n hn ha;have hi:=h d hd n1 h1 a1 (e1'.trans e);refine (pc S d).2.2.2 ⟨hi,?_⟩;unfold ji;have:d.Target∉S:=λk=>b n hn ha (e▸k);simp[this]
theorem Um.lM{m:a8}(h:Um m):Um (lM m):=by
 have h1:∀m:a8,Um m->Um (sH m):=λm h=>by
  unfold sH;split;·exact h
  .split;·exact h.ZO _
   .exact h.ZL _
 have:∀n,Um (gx n m):=λn=>by
  induction n with
  | zero=>exact h
  | succ n ih=>rw[jG];exact h1 _ ih
 exact this 100
section
variable{σ:Int->Int}{x:Hp}{m:a8}(hx:K6 x)(q:p9 σ x m)
include hx q
theorem Um.wk(h:Um m)(w:Nat)(s call:Int):Um (Mh m w s call):=by
 unfold Mh;have h1:Um (Tt m (m.b7.set w (fP s call))):=λc hc n hn ha e=>by
  rcases zau hc with k | k
  .exact h c k n hn ha e
  .subst k;have:=(q.nd.pos hx.sh.sr hn).1;have e:n.Serial=s:=e;show (s != 0)=true;have:s≠0:=by omega
   simpa using this
 exact h1.of (KW _ _) (NS.EJ _ _)
theorem Um.new(h:Um m)(i n:Nat)(p:Int):Um (HD m i n p):=λc hc k hk ha e=>by
 rcases zu.1 hk with k1 | k1
 .exact h c hc k k1 ha e
 .exfalso;rw[zp] at k1;subst k1;have e:m.Serial+1=c.Target:=e;have hc:c∈x.b7.map (wx σ):=by rw[<-q.ce];exact hc
  obtain⟨d,hd,rfl⟩:=zq.1 hc;have e:m.Serial+1=σ d.Target:=e;have hs:=hx.sh.sr.bw;have hse:=q.se;rcases lR hx.sh hd with z | ⟨j,a⟩
  .rw[z,q.gd.z] at e;omega
  .rw[q.gd.f _ j a] at e;have:=(hx.sh.sr.ok j a.1 a.2.1).s2;omega
theorem Um.trn(h:Um m)(a s e:Int):Um (ra m a s e).1:=by
 unfold ra;split;·exact h
 .exact h.YW _ _
omit hx q in
theorem eH {c:Prop} [Decidable c] {a b:a8 × Int × Int} (ha:Um a.1) (hb:Um b.1):Um (if c then a else b).1:=by
 by_cases k:c
 .rw[zb k];exact ha
 .rw[za k];exact hb
theorem Um.Xa(h:Um m)(s k v:Int):Um (Bp m s k v).1:=by
 unfold Bp;split;·exact h
 .exact eH h (h.of (show (fX m v).b7=_ from qp m v) ((NS.fX m v).trans (NS.fQ _ _ λn=>⟨rfl,id⟩)))
theorem Um.Xe(h:Um m)(s v:Int):Um (xj m s v).1:=eH h (h.of (show (fX m v).b7=_ from qp m v) (NS.fX m v))
theorem Um.pre(h:Um m)(o:g7):Um (Y6 m o).1:=by
 have t:=λa s e=>h.trn hx q a s e;refine eH h (eH (eH h (h.Xa hx q _ _ _)) (eH (eH h (eH h (h.wk hx q _ _ _))) (eH (eH h (h.Xe hx q _ _)) (eH (eH ((h.new hx q _ _ _).YW _ _) h) (eH (t _ _ _) (eH (eH h ?_) (eH (eH h (t _ _ _)) (eH (eH h ?_) (t _ _ _)))))))))
 .split;·exact h
  .exact eH h (t _ _ _)
 .split;·exact h
  .exact t _ _ _
theorem Um.do(h:Um m)(o:g7):Um (Bj m o).1:=by
 have hp:=h.pre hx q o;unfold Bj;generalize Y6 m o=r at hp |-;by_cases k:r.2.2≠0
 .rw[zb k];exact h
 .rw[za k];have h2:=hp.lM;generalize Sh.lM r.1=M at h2 |-;exact h2
end
theorem FA{σ:Int->Int}{x:Hp}{m:a8}(hx:K6 x)(hS:SL x)(hz:Sh.zr x = [])(q:p9 σ x m):∃m',dB m=some (m',⟨MX x-((kE x).length:Int),0⟩)/\p9 σ (Bb x) m'/\m'.Progs=m.Progs/\(Um m->Um m'):=by
 have hR:=hx.sh.sr;have B:=q.bn hR;have C:=q.bl hx.sh;obtain⟨mp,h1,h2⟩:=Ly (λs r=>SM hx q r) B C (λn hn=>by have:=q.nd.pos hR hn;omega) (λp hp=>by
  obtain⟨k,v,hh,rfl⟩:=(q.p2 p).1 hp;have:=q.gd.ps hR (hx.sh.pr k v hh).1;show σ k≠0;omega)
 have hgl:(dJ x).length<=24:=zP (ab (eR hx) (cX hx)) (L4 (z8.2 hR));have hbl:(kE x).length<=24:=zP (zE ..) hgl;have hbs:J2 ((kE x).map λh=>Sh.nd σ x.S (D7 h))=some ((kE x).map σ):=by
  rw[vA (by rw[zl];omega),JH hx q λh hh=>(nh h hh).1]
 have hgs:J2 ((dJ x).map λh=>Sh.nd σ x.S (D7 h))=some ((dJ x).map σ):=by
  rw[vA (by rw[zl];omega),JH hx q (cX hx)]
 have hpo:D6 ((dJ x).map λh=>Sh.nd σ x.S (D7 h))=some ((kE x).map λh=>Sh.nd σ x.S (D7 h)):=by
  unfold D6;rw[<-KY hx q];exact ll (λn _=>rfl) (by omega) (by omega) (by rw[zl];omega)
 have QL:=p9.ZD hx hS hz q (yl hx) nh (kE x).length (zF _);rw[zV] at QL;unfold dB;rw[h1,a0d,Lx hx q h2,a0d,hpo,a0d,hbs,a0d];by_cases hb:kE x = []
 .have hcol:Bb x=gV x (dJ x):=by unfold Bb;rw[zb hb]
  have Qb:=q.gV hx (eR hx) (cX hx) (Fe hx q);have hrb:=dZ hx;have Qs:=Qb.bJ hrb;rw[yF hx,<-hcol] at Qs;refine⟨_,?_,Qs,by rw[xN,Ja],λh=>(h.ZL _).lM⟩;refine (AG hx hS hz q hbl (yl hx) nh).trans ?_;simp only[];have hv:MX x-((kE x).length:Int)=u4 (((Qf x).length:Int)-((Qf (Bb x)).length:Int)):=by
   have l1:(lv x.S).length<=24:=L4 (z8.2 hR);have l2:(lv (Bb x).S).length<=24:=by rw[hcol];exact L4 (z8.2 hrb.sh.sr)
   unfold MX;rw[zb hb,hb,Ih,Ih,wi (by omega) (by omega)];simp
  rw[hb,List.map_nil,List.foldl_nil,za (by simp),hgs,a0d,Fz hx q (eR hx) (cX hx) (Fe hx q),a0d,mg hrb Qb,a0d,Dt hR q,a0d,Dt (by rw[hcol];exact hrb.sh.sr) Qs,a0d];rw[hb] at hv;rw[<-hv]
 .have hcol:Bb x=(kE x).foldl gQ x:=by unfold Bb;rw[za hb]
  refine⟨_,?_,by rw[hcol];exact QL,Te _ _,λh=>h.ZG⟩;refine (AG hx hS hz q hbl (yl hx) nh).trans ?_;have hpos:0<(kE x).length:=List.length_pos_iff.2 hb;simp only[];rw[zb (by rw[zl];simpa using hpos),zl,wi (by omega) (by omega)];unfold MX;rw[za hb]
def Pg(ps:List (List g7)):Prop:=Mp ps/\∀p∈ps,∀o∈p,y6 o.Kind o.A o.B o.C=0/\o.Kind<=10
theorem Yl{l:List (List g7)}(h:fC l=true):Pg l:=by
 unfold fC at h;rw[zy,zf] at h;have key:∀p∈l,p.length<=6/\∀o∈p,pL o=true:=λp hp=>by
  have:=h.2 p hp;unfold uv at this;rw[zy,zG,zf] at this;exact this
 refine⟨λp hp=>(key p hp).1,λp hp o ho=>?_⟩;have:=(key p hp).2 o ho;unfold pL at this;simp only[zy,zG,pu] at this;exact⟨this.2,this.1.2⟩
theorem Pg.FQ{ps:List (List g7)}(h:Pg ps)(n:Int):∀o∈Sh.FQ ps n,y6 o.Kind o.A o.B o.C=0/\o.Kind<=10:=by
 intro o ho;unfold Sh.FQ at ho;split at ho;·cases ho
 .rename_i c;have hk:n.toNat<ps.length:=by omega
  rw[zd,zc hk] at ho;exact h.2 _ (zh hk) o ho
theorem p9.vd{σ:Int->Int}{x:Hp}{m:a8}(q:p9 σ x m)(ts:List g6):p9 σ (Sh.vd x ts) (Gy m (ts.map (tx σ))):=
 ⟨q.gd,q.nd,q.sl,q.ge,q.la,q.npl,q.se,q.ro,q.ce,q.p1,q.p2,rfl⟩
def wm(ps:List (List g7))(x:Hp)(m:a8):Prop:=(∃σ,p9 σ x m)/\m.Progs=ps/\Um m
section
variable{ps:List (List g7)}{x:Hp}{m:a8}(hx:Oh x)(g:wm ps x m)
include hx g
theorem Js(hb:x.S.Serial<9223372036854775807){o:g7}(hc:y6 o.Kind o.A o.B o.C=0)(hk:o.Kind<=10):∃m',bS m o=some (m',⟨(jz x o).2.1,(jz x o).2.2⟩)/\wm ps (jz x o).1 m':=by
 obtain⟨⟨σ,q⟩,hp,hu⟩:=g;obtain⟨S,e⟩:=q.jz hx.rt hx.sl hx.zr hb hc hk;refine⟨(Bj m o).1,?_,S,?_,hu.do hx.rt q o⟩;·rw[VC hx.rt q hx.sl hx.zr hb hc hk,e]
 .rcases (vO hx.rt q hx.sl hx.zr hb hc hk).r with ⟨e,he,hp',_⟩ | ⟨σ',z,mz,v,hp',_,_,_,_,hpr,_⟩;·rw[ET hp' he];exact hp
  .rw[BQ hp'];show (lM mz).Progs=ps;rw[xN,hpr,hp]
theorem Vf{l:List g7}(hl:∀o∈l,y6 o.Kind o.A o.B o.C=0/\o.Kind<=10)(hl2:l.length<=1000)(hb:x.S.Serial+l.length<9223372036854775807):∃m',jB m l=some m'/\wm ps (runs x l).1 m':=by
 have all:=Ay hx.rt hx.sl hx.zr l hb (λ_=>True) trivial (λ_ _ _ _ _ _=>trivial);unfold jB;simp only[jn];obtain⟨e,h1,h2⟩:∃e,lp (S:=Int × a8) (E:=a8) (λ((s11,s12):Int × a8)=>
   if (decide (s11<(l.length:Int))) then
    (ix l s11).bind λv15=>
    (bS s12 v15).bind λv16=>
    some (.inl (u4 (s11+1),v16.1))
   else
   some (.inr s12)) (0,m)=some e/\wm ps (runs x l).1 e:=by
  refine gi l.length (λk t=>wm ps (runs x (l.take k)).1 t) (λe=>wm ps (runs x l).1 e) (by omega) g (λk t hk hP=>?_) (λt hP=>⟨t,?_,?_⟩)
  .obtain⟨a1,a2,a3,a4,a5,_⟩:=all k (by omega);obtain⟨hc,hk'⟩:=hl _ (zh hk);obtain⟨m',e1',e2'⟩:=Js ⟨a1,a2,a3⟩ hP (by omega) hc hk';refine .inl ⟨m',?_,?_⟩
   .dsimp only;rw[zb (by simpa using hk),r9 hk,a0d,e1',a0d,n9 (n:=k) (by omega)]
   .rw[V2 hk,qH];exact e2'
  .dsimp only;rw[za (by simp)]
  .rw[zV] at hP;exact hP
 exact⟨e,by rw[h1];rfl,h2⟩
theorem RB(hg:Pg ps){t:g6}{ts:List g6}(hq:x.Q.L=t::ts)(hb:x.S.Serial<8000000000000000000):∃u us,m.Tasks=u::us/\u.Prog=t.Prog/\∃m',dt m u=some m'/\wm ps (Le ps x t ts) m':=by
 obtain⟨⟨σ,q⟩,hp,hu⟩:=g;have hR:=hx.rt.sh.sr;have htk:m.Tasks=tx σ t::ts.map (tx σ):=by rw[q.tk,hq,zT]
 have hl6:=DH hg.1 t.Prog;have hpr:(tx σ t).Prog=t.Prog:=by unfold tx;split <;> rfl
 have hkd:(tx σ t).Kind=t.Kind:=by
  unfold tx;split;·rename_i h;exact h.symm
  .rfl
 refine⟨_,_,htk,hpr,?_⟩;have pok:=HM hx hq;have pse:=DG hx hq;obtain⟨rok,_,rse⟩:=DP hx hq ps (by omega);have hnx:∀M:a8,M.Tasks=tx σ t::ts.map (tx σ)->bg (⟨M.Tasks,30⟩:j5)=some (⟨ts.map (tx σ),30⟩,tx σ t,0):=λM h=>by
  rw[AH,h];rfl
 have run:∀M,wm ps (pre x t ts) M->∃M',((dH M.Progs (tx σ t).Prog).bind λv9=>jB M v9)=some M'/\wm ps (Wp ps x t ts) M':=λM hM=>by
  rw[vP,a0d,hM.2.1,hpr];exact Vf pok hM (hg.FQ t.Prog) (by omega) (by omega)
 unfold dt;simp only[jn];by_cases hk:t.Kind=1
 .have hk':(tx σ t).Kind=1:=by rw[hkd];exact hk
  have hat:(tx σ t).At=σ t.At:=by unfold tx;rw[zb hk]
  obtain⟨hl,_⟩:=Hq hx.rt hq hk;have hfr:=lX hx.rt hq hk;have r6:=q.r6 hx.rt;have kb:((tx σ t).Kind==1)=true:=by simp[hk']
  simp only[kb,zY];rw[hat,show V9 m 5 (σ t.At)=some (dv m 5 (σ t.At)) from yX (q.bn hR) (q.bl hx.rt.sh) (q.YS hx.rt (.inr hl)) (r:=5) (by omega),a0d,yZ,a0d,hnx (dv m 5 (σ t.At)) (by
   show (fX m (σ t.At)).Tasks=_;rw[aP];exact htk),a0d]
  dsimp only;have S0:=(q.vd ts).Ub (Ek hx.rt hq) (r:=5) (h:=t.At) (k:=Ey m (σ t.At)) (.inr hl) λhl' hs=>by
   have:=hx.rt.fair t.At hl hs;rw[I2] at this;rw[q.lk hx.rt.sh hl];exact this
  have S1:p9 σ (G6 (Sh.vd x ts) 5 t.At) (Gy (dv m 5 (σ t.At)) (ts.map (tx σ))):=by
   have e:Gy (dv m 5 (σ t.At)) (ts.map (tx σ))=YY (if σ t.At≠0/\11<=Ey m (σ t.At) then uP (Gy m (ts.map (tx σ))) (σ t.At) else Gy m (ts.map (tx σ))) (m.Roots.set 5 (σ t.At)):=by
    unfold dv fX;split <;> rfl
   rw[e];exact S0
  have S2:p9 σ (xc x ts t.At) (Gy (dv m 5 (σ t.At)) (ts.map (tx σ))):=S1.Qe (du (x:=Sh.vd x ts) hx.rt.sh.sr 5 t.At).sr t.At;rw[show H6 ⟨(dv m 5 (σ t.At)).Nodes,(dv m 5 (σ t.At)).Slots,(dv m 5 (σ t.At)).Gens,(dv m 5 (σ t.At)).Last,(dv m 5 (σ t.At)).Places,(dv m 5 (σ t.At)).Serial,(dv m 5 (σ t.At)).Roots,(dv m 5 (σ t.At)).b7,(dv m 5 (σ t.At)).Pairs,ts.map (tx σ),(dv m 5 (σ t.At)).Progs⟩=_ from mg hfr S2,a0d];have G1:wm ps (pre x t ts) (lM (Gy (dv m 5 (σ t.At)) (ts.map (tx σ)))):=by
   have hu2:Um (Gy (dv m 5 (σ t.At)) (ts.map (tx σ))):=(hu.YW 5 (σ t.At)).of rfl (NS.refl _);refine⟨⟨σ,?_⟩,?_,hu2.lM⟩;·unfold pre;rw[zb hk];exact S2.bJ hfr
   .rw[xN];show (fX m (σ t.At)).Progs=ps;rw[aP];exact hp
  obtain⟨M',h1,⟨σ',S3⟩,h3,hu3⟩:=run _ G1;rw[vP,a0d] at h1 |-;rw[h1,a0d];have rr:=bX rok.rt (r:=5) (by decide) (h:=0) (.inl rfl);have S4:=S3.G6 (r:=5) rok.rt.sh rok.rt.fair (.inl rfl);rw[S3.gd.z] at S4;have r6':=S3.r6 rok.rt;rw[show V9 M' 5 0=some (dv M' 5 0) from yX (S3.bn rok.rt.sh.sr) (S3.bl rok.rt.sh) (.inl rfl) (r:=5) (by omega),a0d,mg rr S4,a0d];refine⟨_,rfl,⟨σ',?_⟩,?_,(hu3.YW 5 0).lM⟩;·unfold Le;rw[zb hk];exact S4.bJ rr
  .rw[xN];show (fX M' 0).Progs=ps;rw[aP];exact h3
 .have kb:((tx σ t).Kind==1)=false:=by rw[hkd];simp[hk]
  simp only[kb,zA,un];rw[yZ,a0d,hnx m htk,a0d];dsimp only;have G1:wm ps (pre x t ts) (Gy m (ts.map (tx σ))):=by
   refine⟨⟨σ,?_⟩,hp,hu.of rfl (NS.refl _)⟩;unfold pre;rw[za hk];exact q.vd ts
  obtain⟨M',h1,h2⟩:=run _ G1;rw[vP,a0d] at h1 |-;rw[show jB ⟨m.Nodes,m.Slots,m.Gens,m.Last,m.Places,m.Serial,m.Roots,m.b7,m.Pairs,ts.map (tx σ),m.Progs⟩ _=_ from h1,a0d];refine⟨_,rfl,?_⟩;unfold Le;rw[za hk];exact h2
end
section
variable{ps:List (List g7)}{x:Hp}{m:a8}(hx:Oh x)(g:wm ps x m)(hg:Pg ps)
include hx g hg
theorem Hv{f:Int}(hf:0<=f)(hf2:f<=1000000)(hb:x.S.Serial<7900000000000000000):∃m',gO m f=some (m',⟨(dn ps (x,f):Int),TJ (dr ps (x,f))⟩)/\wm ps (dr ps (x,f)).1 m':=by
 obtain⟨a1,a2,a3⟩:=Ji ps (p:=(x,f)) hf;have all:=CR ps (p:=(x,f)) hx hf (by show x.S.Serial+f<_;omega);dsimp only at a1;unfold gO;simp only[jn];obtain⟨e,h1,h2⟩:∃e,lp (S:=Int × Int × a8) (E:=(a8 × g9) ⊕ (Int × a8)) (λ((s15,s16,s17):Int × Int × a8)=>
   if (decide ((s17.Tasks.length:Int) > 0)) then
    (ix s17.Tasks 0).bind λv20=>
    (bO s17.Progs v20).bind λv21=>
    if (decide (v21 > s15)) then
     some (.inr (.inl (s17,(⟨s16,12⟩:g9))))
    else
    (dt s17 v20).bind λv22=>
    some (.inl (u4 (s15-v21),u4 (s16+1),v22))
   else
   some (.inr (.inr (s16,s17)))) (f,0,m)=some e/\∃m',wm ps (dr ps (x,f)).1 m'/\((e = .inl (m',⟨(dn ps (x,f):Int),12⟩)/\TJ (dr ps (x,f))=12)\/(e = .inr ((dn ps (x,f):Int),m')/\TJ (dr ps (x,f))=0)):=by
  refine pF (λs=>∃k:Nat,k<=dn ps (x,f)/\s.1=(dN ps k (x,f)).2/\s.2.1=(k:Int)/\wm ps (dN ps k (x,f)).1 s.2.2) _ (λs=>dn ps (x,f)-s.2.1.toNat) ⟨0,zW _,rfl,rfl,g⟩ (by show dn ps (x,f)-_<_;omega) ?_;rintro⟨s1,s2,M⟩ ⟨k,hk,e1',e2',G⟩;dsimp only at e1' e2' G;subst e1' e2';obtain⟨b1,b2,b3,b4⟩:=all k;dsimp only at b2 b3 b4;obtain⟨⟨σ,q⟩,hp,_⟩:=id G;have hlen:M.Tasks.length=(dN ps k (x,f)).1.Q.L.length:=by rw[q.tk,zl]
  rcases zD k (dn ps (x,f)) with c | c
  .obtain⟨t,ts,e,cc⟩:=a3 k c;left;obtain⟨u,us,hu,hup,M',h3,h4⟩:=RB b1 G hg e (by omega);have hc:=th ps t;have hcs:BP ps u=BP ps t:=by unfold BP;rw[hup]
   refine⟨((dN ps (k+1) (x,f)).2,((k+1:Nat):Int),M'),?_,⟨k+1,c,rfl,rfl,?_⟩,by show _-_<_-_;dsimp only;omega⟩
   .dsimp only;rw[zb (by rw[hlen,e];simp),hu];show ((bO M.Progs u).bind _)=_;rw[hp,xB hg.1,a0d,hcs,za (by simp;omega),h3,a0d,O1 (by omega) (by omega),n9,tp,pK ps e,zb cc]
   .dsimp only;rw[tp,pK ps e,zb cc];exact h4
  .have hkk:k=dn ps (x,f):=by omega
   subst hkk;right;cases e:(dN ps (dn ps (x,f)) (x,f)).1.Q.L with
   | nil=>
    refine⟨_,?_,M,G,.inr ⟨rfl,?_⟩⟩
    .dsimp only;rw[za (by rw[hlen,e];simp)]
    .unfold TJ dr;rw[e];rfl
   | cons t ts=>
    have hc:¬BP ps t<=(dN ps (dn ps (x,f)) (x,f)).2:=λq=>a2 ((EL ps e).2 q);have htk:M.Tasks=tx σ t::ts.map (tx σ):=by rw[q.tk,e,zT]
    have hpr:(tx σ t).Prog=t.Prog:=by unfold tx;split <;> rfl
    have hcs:BP ps (tx σ t)=BP ps t:=by unfold BP;rw[hpr]
    refine⟨_,?_,M,G,.inl ⟨rfl,?_⟩⟩
    .dsimp only;rw[zb (by rw[hlen,e];simp),htk];show ((bO M.Progs (tx σ t)).bind _)=_;rw[hp,xB hg.1,a0d,hcs,zb (by simp;omega)]
    .unfold TJ dr;rw[e];rfl
 obtain⟨m',h3,⟨rfl,h5⟩ | ⟨rfl,h5⟩⟩:=h2;·exact⟨m',by rw[h1,h5];rfl,h3⟩
 .exact⟨m',by rw[h1,h5];rfl,h3⟩
theorem XF(hb:x.S.Serial<7000000000000000000)(row:List Int):∃m',pH m row=some (m',⟨(er ps x row).2.1,(er ps x row).2.2⟩)/\wm ps (er ps x row).1 m':=by
 unfold pH;rw[(ES row).1,a0d];by_cases h:(bN row).2=0
 .have hc:=CS h;have he:er ps x row=eo ps x (bN row).1:=by unfold er;rw[za (λc=>c h)]
  rw[za (by simpa using h),he];unfold eo;by_cases h11:(bN row).1.Kind=11
  .rw[zb (by simpa using h11),zb h11];obtain⟨⟨σ,q⟩,hp,hu⟩:=g;obtain⟨m',k1,k2,k3,k4⟩:=FA hx.rt hx.sl hx.zr q;rw[k1,a0d];exact⟨m',rfl,⟨σ,k2⟩,by rw[k3,hp],k4 hu⟩
  .rw[za (by simpa using h11),za h11];by_cases h12:(bN row).1.Kind=12
   .rw[zb (by simpa using h12),zb h12];rw[h12] at hc;have:=MY hc;obtain⟨m',k1,k2⟩:=Hv hx g hg (f:=(bN row).1.A) (by omega) (by omega) (by omega);rw[k1,a0d];exact⟨m',rfl,k2⟩
   .rw[za (by simpa using h12),za h12];have:=tT hc;obtain⟨m',k1,k2⟩:=Js hx g (by omega) hc (by omega);rw[k1,a0d];exact⟨m',rfl,k2⟩
 .have he:er ps x row=(x,0,(bN row).2):=by unfold er;rw[zb h]
  rw[zb (by simpa using h),he];exact⟨m,rfl,g⟩
def YI(p:Int × Int):g9:=⟨p.1,p.2⟩
theorem NJ{rows:List (List Int)}(hl:rows.length<=1000)(hb:x.S.Serial<1000000000000):∃m',ba m rows=some (m',(kD ps x rows).2.map YI)/\wm ps (kD ps x rows).1 m':=by
 unfold ba;simp only[jn];obtain⟨e,h1,h2⟩:∃e,lp (S:=Int × a8 × (List g9)) (E:=(a8 × (List g9))) (λ((s15,s16,s17):Int × a8 × (List g9))=>
   if (decide (s15<(rows.length:Int))) then
    (ix rows s15).bind λv20=>
    (pH s16 v20).bind λv21=>
    (app 16 s17 [v21.2]).bind λv22=>
    some (.inl (u4 (s15+1),v21.1,v22))
   else
   some (.inr (s16,s17))) (0,m,[])=some e/\(e.2=(kD ps x rows).2.map YI/\wm ps (kD ps x rows).1 e.1):=by
  refine gi (T:=a8 × List g9) rows.length (λk t=>t.2=(kD ps x (rows.take k)).2.map YI/\wm ps (kD ps x (rows.take k)).1 t.1) _ (by omega) ⟨rfl,g⟩ (λk t hk hP=>?_) (λt hP=>⟨t,?_,?_⟩)
  .obtain⟨M,acc⟩:=t;obtain⟨hacc,hM⟩:=hP;dsimp only at hacc hM;obtain⟨a1,a2⟩:=Hk hg.1 hx (rows.take k) (by rw[zar];omega);rw[zar] at a2;obtain⟨m',e1',e2'⟩:=XF a1 hM hg (by omega) rows[k];have hla:acc.length=k:=by rw[hacc,zl,Jl,zar];omega
   refine .inl ⟨(m',acc ++ [⟨(er ps (kD ps x (rows.take k)).1 rows[k]).2.1,(er ps (kD ps x (rows.take k)).1 rows[k]).2.2⟩]),?_,?_,?_⟩
   .dsimp only;rw[zb (by simpa using hk),r9 hk,a0d,e1',a0d,GU (by omega) (by omega),a0d,n9 (n:=k) (by omega)]
   .dsimp only;rw[V2 hk,yt,ms,hacc];rfl
   .rw[V2 hk,yt];exact e2'
  .dsimp only;rw[za (by simp)]
  .rw[zV] at hP;exact hP
 exact⟨e.1,by rw[h1];show some _=_;rw[<-h2.1],h2.2⟩
end
theorem WQ(l:List (List g7)):∃b,iA l=some b/\(b=true->l.length<=10/\∀p∈l,p.length<=10):=by
 unfold iA;simp only[jn];refine Xs (Q:=λb=>b=true->l.length<=10/\(∀p∈l,p.length<=10)) (min l.length 10) (λk=>∀h:k<l.length,(l[k]).length<=10) (by have:min l.length 10<=10:=Nat.min_le_right ..;omega) (λk hk=>?_) ?_ (λhP=>?_) (λhP=>?_)
 .have hkl:k<l.length:=by omega
  have hk10:k<10:=by omega
  have c:((decide (((k:Nat):Int)<(l.length:Int)))&&(decide (((k:Nat):Int)<10)))=true:=by simp;omega
  by_cases q:(l[k]).length<=10
  .refine⟨_,?_,.inl ⟨λ_=>q,rfl⟩⟩;rw[zb c,r9 hkl,a0d,za (by simp;omega),n9]
  .refine⟨_,?_,.inr ⟨λh=>q (h hkl),rfl⟩⟩;rw[zb c,r9 hkl,a0d,zb (by simp;omega)]
 .rw[za (by simp;omega)]
 .refine⟨_,rfl,λh=>?_⟩;have h10:l.length<=10:=by have:=zbj h;omega
  refine⟨h10,λp hp=>?_⟩;obtain⟨k,hk,rfl⟩:=wt hp;exact hP k (by omega) hk
 .exact⟨false,rfl,λh=>by cases h⟩
theorem SZ(l:List (List Int))(m:Int):∃b,gz l m=some b/\(b=true->(l.length:Int)<=m):=by
 unfold gz;simp only[jn];refine Xs (Q:=λb=>b=true->(l.length:Int)<=m) (min l.length 200) (λk=>∀h:k<l.length,(l[k]).length<=10) (by have:min l.length 200<=200:=Nat.min_le_right ..;omega) (λk hk=>?_) ?_ (λhP=>?_) (λhP=>?_)
 .have hkl:k<l.length:=by omega
  have hk10:k<200:=by omega
  have c:((decide (((k:Nat):Int)<(l.length:Int)))&&(decide (((k:Nat):Int)<200)))=true:=by simp;omega
  by_cases q:(l[k]).length<=10
  .refine⟨_,?_,.inl ⟨λ_=>q,rfl⟩⟩;rw[zb c,r9 hkl,a0d,za (by simp;omega),n9]
  .refine⟨_,?_,.inr ⟨λh=>q (h hkl),rfl⟩⟩;rw[zb c,r9 hkl,a0d,zb (by simp;omega)]
 .rw[za (by simp;omega)]
 .exact⟨_,rfl,λh=>zbj h⟩
 .exact⟨false,rfl,λh=>by cases h⟩
def DI:List (List g7):=[[(⟨2,2,5,0⟩:g7)]]
def nP:List (List Int):=[[1,0,1,0],[5,0,0,0],[3,0,0,0],[11,0,0,0],[12,9,0,0],[3,2,0,0],[11,0,0,0],[2,9,0,0]]
def Dx:a8:=⟨[],[0,0,0],[0,0,0],5,8,0,List.replicate 6 0,List.replicate 6 ⟨0,false,-1⟩,[],[],DI⟩
def ZN:a8:=⟨[],[],[],0,0,0,[],[],[],[],[]⟩
def VL(k:Nat)(l:Int)(p:Nat)(ps:List (List g7)):a8:=⟨[],List.replicate k 0,List.replicate k 0,l,p,0,List.replicate 6 0,List.replicate 6 ⟨0,false,-1⟩,[],[],ps⟩
theorem Ox(k:Nat)(l:Int)(p i:Nat):ce (qW k l p).S i=⟨0,0,z0⟩:=by
 unfold ce qW;dsimp only;rw[zd,List.getElem?_replicate];split <;> rfl
theorem VM(k:Nat)(l:Int)(p:Nat)(ps:List (List g7)):p9 (λ_=>0) (qW k l p) (VL k l p ps):=by
 have nt:∀i,¬Th (ce (qW k l p).S i):=λi=>by rw[Ox];unfold Th;decide
 have rep:∀(f:Nat->Int),(∀i,f i=0)->List.replicate k (0:Int)=(List.range (qW k l p).S.S.b7.length).map f:=λf hf=>by
  symm
  rw[List.eq_replicate_iff];refine⟨by rw[zl,zcb];exact List.length_replicate ..,λb hb=>?_⟩;obtain⟨i,_,rfl⟩:=zq.1 hb;exact hf i
 refine⟨⟨rfl,λh i a=>absurd a.2.1 (nt i)⟩,⟨List.Pairwise.nil,λn=>⟨λh=>(nomatch h),λ⟨i,_,t,_⟩=>absurd t (nt i)⟩⟩,rep _ λi=>?_,rep _ λi=>by rw[Ox],rfl,?_,rfl,rfl,rfl,List.Pairwise.nil,λq=>⟨λh=>(nomatch h),λ⟨a,v,h,_⟩=>?_⟩,rfl⟩
 .unfold PB;rw[za (nt i),Ox];rfl
 .show (p:Int)=((List.replicate p _).length:Nat);rw[List.length_replicate]
 .obtain⟨i,hi,_⟩:=h;have:=hi.2.1;rw[show (qW k l p).T=List.replicate p ⟨0,0,0⟩ from rfl,vQ] at this;cases this
theorem TU{n last places:Int}{ps:List (List g7)}(hl:ps.length<=12)(hp:∀p∈ps,p.length<=12) :
  (∃e E,e≠0/\Q3 n last places ps=some (E,e)/\aZ n last places ps=some (ZN,e)/\(e=13\/e=1/\¬((1<=n/\n<=24)/\(0<=last/\last<=9)/\1<=places/\places<=8))) \/
  (∃k p:Nat,n=k/\places=p/\(1<=k/\k<=24)/\Pg ps/\Rs (qW k last p) 0/\Q3 n last places ps=some (⟨qW k last p,ps⟩,0)/\aZ n last places ps=some (VL k last p ps,0)/\wm ps (qW k last p) (VL k last p ps)):=by
 rcases Yg (n:=n) (last:=last) (places:=places) hl hp with ⟨e,e1,_,e3⟩ | ⟨k,p,rfl,rfl,hk,hm,hr,e1,_⟩
 .left;have he:e≠0:=by omega
  refine⟨e,_,he,e1,?_,e3⟩;unfold aZ;rw[e1,a0d,zb (by simpa using he)];rfl
 .right;have hpg:fC ps=true:=by
   cases hq:fC ps with
   | true=>rfl
   | false=>
    have e2:fZ ps=some (fC ps):=FR (by omega) hp;unfold Q3 at e1;rw[e2,a0d,hq,zb (show (!false)=true from rfl)] at e1;exact absurd (zX (λp=>p.2) (zJ e1)) (by simp)
  refine⟨k,p,rfl,rfl,hk,Yl hpg,hr,e1,?_,⟨_,VM k last p ps⟩,rfl,λc _ n hn=>(nomatch hn)⟩;unfold aZ;rw[e1,a0d,za (by simp),lf (by omega) (by omega),a0d,show mk 8 6 (0:Int)=some (List.replicate 6 0) from rfl,a0d];refine sN (a:=List.replicate 6 ⟨0,false,-1⟩) (by kernel_rfl) ?_;rfl
theorem Ta:gA=some true:=by
 have hp:∀p∈DI,p.length<=12:=λp h=>by
  have:p = [⟨2,2,5,0⟩]:=zp.1 h;subst this;decide
 rcases TU (n:=3) (last:=5) (places:=8) (ps:=DI) (by decide) hp with ⟨e,E,he,e1,e2,_⟩ | ⟨k,p,hk,hpp,_,hg,hr0,e1,e2,G⟩
 .have h3:aZ 3 5 8 DI=some (Dx,0):=by kernel_rfl
  rw[e2] at h3;exact absurd (zX (λp=>p.2) (zJ h3)) he
 .obtain rfl:k=3:=by omega
  obtain rfl:p=8:=by omega
  have h3:ba (VL 3 5 8 DI) nP=some ((ba Dx nP).getD (Dx,[])):=by kernel_rfl
  obtain⟨m',k1,_⟩:=NJ hr0.oh G hg (rows:=nP) (by decide) (by have:=hr0.bw;omega);rw[h3] at k1;have k2:(kD DI (qW 3 5 8) nP).2.map YI=((ba Dx nP).getD (Dx,[])).2:=(zX (λp=>p.2) (zJ k1)).symm;have k3:(kD DI (qW 3 5 8) nP).2.map YJ=((ba Dx nP).getD (Dx,[])).2:=k2;have b1:=Xy hg.1 hr0.oh nP (by decide) (by have:=hr0.bw;omega);rw[k3] at b1;unfold gA;refine sN (a:=(VL 3 5 8 DI,(0:Int))) e2 ?_;refine sN (a:=((⟨qW 3 5 8,DI⟩:s7),(0:Int))) e1 ?_;refine sN (a:=(ba Dx nP).getD (Dx,[])) h3 ?_;refine sN b1 ?_;kernel_rfl
theorem XG{l:List (List g7)}{rows:List (List Int)}{m:Int}{K:Option Bool}(h:iA l=some true->l.length<=10->(∀p∈l,p.length<=10)->(rows.length:Int)<=m->K=some true) :
  ((iA l).bind λv1=>(B9 ((!v1)==false) false (gz rows m)).bind λv2=>(B9 (((!v1)||(!v2))==false) false gA).bind λv3=>if (((!v1)||(!v2))||(!v3)) then (gA).bind λv4=>some v4 else K)=some true:=by
 obtain⟨b,h1,h2⟩:=WQ l;obtain⟨c,h3,h4⟩:=SZ rows m;rw[h1,a0d,Ta];cases b;·rfl
 .rw[show B9 ((!true)==false) false (gz rows m)=gz rows m from rfl,h3,a0d];cases c;·rfl
  .exact h h1 (h2 rfl).1 (h2 rfl).2 (h4 rfl)
theorem WI{ps:List (List g7)}{x:Hp}{m:a8}(hx:Oh x)(g:wm ps x m)(ht:iA ps=some true):uY m=some true:=by
 obtain⟨⟨σ,q⟩,hp,_⟩:=g;have B:=q.bn hx.rt.sh.sr;have C:=q.bl hx.rt.sh;have nl:=B.nl;have hR:=hx.rt.sh;have r6:=q.r6 hx.rt;have c6:m.b7.length=6:=by rw[q.ce,zl,hR.c6]
 have tl:m.Tasks.length<=30:=by rw[q.tk,zl];exact hR.q30
 have pl8:m.Pairs.length<=8:=by
  rw[(q.perm hR).length_eq,zl];unfold kc;rw[zl];exact zP (zE ..) hR.hr.l8
 have gl:=B.gl;unfold uY;simp only[jn];refine dO m.Nodes.length (λ_=>True) (by omega) trivial (λk hk _=>.inl ⟨?_,trivial⟩) (λ_=>⟨.inr (),?_,?_⟩)
 .have c:((decide (((k:Nat):Int)<(m.Nodes.length:Int)))&&(decide (((k:Nat):Int)<60)))=true:=by simp;omega
  have:=B.fl _ (zh hk);rw[zb c,r9 hk,a0d,za (by simp;omega),n9]
 .rw[za (by simp)]
 .have e:((((((((decide ((m.Nodes.length:Int)<=50))&&(decide ((m.Pairs.length:Int)<=20)))&&(decide ((m.Tasks.length:Int)<=100)))&&(decide ((m.b7.length:Int)<=20)))&&(decide ((m.Roots.length:Int)<=20)))&&(decide ((m.Slots.length:Int)<=30)))&&(decide ((m.Gens.length:Int)<=30))))=true:=by
   simp;omega
  dsimp only;rw[e,hp];simp only[q9,iu];rw[ht];rfl
theorem wm.r6{ps:List (List g7)}{x:Hp}{m:a8}(hx:Oh x)(g:wm ps x m):m.Roots.length=6:=by
 obtain⟨⟨σ,q⟩,_⟩:=g;exact q.r6 hx.rt
theorem wm.XR{ps:List (List g7)}{x:Hp}{m:a8}(hx:Oh x)(g:wm ps x m):aw m=some (Qf x):=by
 obtain⟨⟨σ,q⟩,_⟩:=g;exact Dt hx.rt.sh.sr q
theorem Yt{n:Int}(h0:0<=n)(h1:n<=255){b:Int}(hb:0<b):rem (u4 n) b=some (n % b):=by rw[O1 (by omega) (by omega),uC h0 hb]
theorem VJ{n last:Int}(h0:0<=n)(h1:n<=255){ps:List (List g7)}(hl:ps.length<=12)(hp:∀p∈ps,p.length<=12)(hL:0<=last/\last<=9) :
  (∃E,Q3 (u4 (1+n % 24)) last 8 ps=some (E,13)/\aZ (u4 (1+n % 24)) last 8 ps=some (ZN,13)) \/
  (∃k:Nat,1+n % 24=k/\(1<=k/\k<=24)/\Pg ps/\Rs (qW k last 8) 0/\Q3 (u4 (1+n % 24)) last 8 ps=some (⟨qW k last 8,ps⟩,0)/\aZ (u4 (1+n % 24)) last 8 ps=some (VL k last 8 ps,0)/\wm ps (qW k last 8) (VL k last 8 ps)):=by
 have hw:u4 (1+n % 24)=1+n % 24:=O1 (by omega) (by omega);rw[hw];rcases TU (n:=1+n % 24) (last:=last) (places:=8) (ps:=ps) hl hp with ⟨e,E,he,e1,e2,e3⟩ | ⟨k,p,hk,hpp,hk2,hg,hr,e1,e2,G⟩
 .rcases e3 with rfl | ⟨_,h⟩
  .exact .inl ⟨E,e1,e2⟩
  .exact absurd ⟨by omega,hL,by omega,by omega⟩ h
 .obtain rfl:p=8:=by omega
  exact .inr ⟨k,hk,hk2,hg,hr,e1,e2,G⟩
section
variable{σ:Int->Int}{x:Hp}{m:a8}(hx:Oh x)(q:p9 σ x m)
include hx q
theorem p9.node{h:Int}(hh:h∈lv x.S){n:b8}(hn:n∈m.Nodes)(e:(ob x.S h).Serial=n.Serial):n=Sh.nd σ x.S (D7 h)/\(Sh.ce x.S (D7 h)).Val=ob x.S h:=by
 have hR:=hx.rt.sh.sr;have p:=o6 hR hh;exact⟨q.nd.one hR hn (q.nd.at hR p.1 p.d.2.1) (by rw[<-e];show _=(Sh.ce x.S (D7 h)).Val.Serial;rw[E9 hR p]),(E9 hR p).symm⟩
theorem p9.MO{n:b8}(hn:n∈m.Nodes)(ha:n.Alive=true):∃h∈lv x.S,n=Sh.nd σ x.S (D7 h)/\n.Serial=(ob x.S h).Serial:=by
 have hR:=hx.rt.sh.sr;have:n∈m.Nodes.filter (·.Alive):=zj.2 ⟨hn,ha⟩;rw[q.nd.alive hR] at this;obtain⟨h,hh,rfl⟩:=zq.1 this;exact⟨h,hh,rfl,(zX n0.Serial (E9 hR (o6 hR hh)).symm)⟩
end
theorem modelCounts{n last:Int}{l:List (List g7)}{rows:List (List Int)}(h0:0<=n)(h1:n<=255)(g0:0<=last)(g1:last<=255):iX n last l rows=some true:=by
 unfold iX;refine XG λht hl hp hr=>?_;have hp12:∀p∈l,p.length<=12:=λp q=>by have:=hp p q;omega
 rw[Yt h0 h1 (by decide),a0d,Yt g0 g1 (by decide),a0d];rcases VJ (last:=last % 10) h0 h1 (ps:=l) (by omega) hp12 (by omega) with ⟨E,e1,e2⟩ | ⟨k,hk,hk2,hg,hr0,e1,e2,G⟩
 .rw[e2,a0d,e1,a0d];rfl
 .have hs:=hr0.bw;obtain⟨m',k1,k2⟩:=NJ hr0.oh G hg (rows:=rows) (by omega) (by omega);obtain⟨o1,_⟩:=Hk hg.1 hr0.oh rows (by omega);rw[e2,a0d,e1,a0d];dsimp only;rw[za (by simp),k1,a0d,Xy hg.1 hr0.oh rows (by omega) (by omega),a0d];dsimp only;rw[WI o1 k2 ht,a0d];simp only[zbz,q9,iu];rw[XB o1.rt.sh,a0d];simp only[zbz,Bool.or_self,zA,un];generalize (kD l (qW k (last % 10) 8) rows).1=x at *;have hR:=o1.rt.sh.sr;have hlv:(lv x.S).length<=24:=L4 (z8.2 hR);rw[XL x.S (by have:=hR.len;omega),a0d,Vx (z8.2 hR),a0d];have klv:=k2.XR o1;obtain⟨⟨σ,q⟩,hpr,hum⟩:=k2;have B:=q.bn hR;have C:=q.bl o1.rt.sh;have nl:=B.nl;simp only[jn];refine dO m'.Nodes.length (λ_=>True) (by omega) trivial (λi hi _=>.inl ⟨?_,trivial⟩) (λ_=>⟨.inr (),by simp,?_⟩)
  .rw[zb (by simpa using hi),r9 hi,a0d];have hin:=zh hi;cases ha:m'.Nodes[i].Alive with
   | false=>rw[zb (by simp),n9 (n:=i) (by omega)]
   | true=>
    rw[za (by simp)];obtain⟨h₀,hh0,hn0,hs0⟩:=q.MO o1 hin ha;obtain⟨j0,hj0,hj1⟩:=wt hh0;refine JE (T:=Bool) (lv x.S).length (λj t=>j0<j->t=true) (by omega) (λh=>by omega) (λj t hj hP=>?_) (λt hP=>⟨.inr t,by simp,?_⟩)
    .dsimp only;rw[zb (by simpa using hj),r9 hj,a0d];have hjl:=zh hj;have hrng:=H2 hR hjl;rw[XE x.S (by have:=hR.len;omega) (by omega),sf (z8.2 hR) hjl,ww,a0d];dsimp only;by_cases c:(ob x.S (lv x.S)[j]).Serial=m'.Nodes[i].Serial
     .obtain⟨hnn,hcb⟩:=q.node o1 hjl hin c;have hst:m'.Nodes[i].Stuck=decide (12<=(ob x.S (lv x.S)[j]).Strong):=by rw[hnn,<-hcb];rfl
      have hsd:m'.Nodes[i].Started=(ob x.S (lv x.S)[j]).Started:=by rw[hnn,<-hcb];rfl
      have hfl:m'.Nodes[i].Fields.length=(ob x.S (lv x.S)[j]).Fields.length:=by rw[hnn,<-hcb];exact zl ..
      have hser:m'.Nodes[i].Serial=σ (lv x.S)[j]:=by rw[<-c];exact (q.gd.lv hR hjl).symm
      have hnm:ax m' m'.Nodes[i].Serial=some (lk x (lv x.S)[j]:Int):=by rw[Du B C,hser,q.lk o1.rt.sh hjl]
      have hfair:=o1.rt.fair _ hjl;rw[I2] at hfair;refine⟨true,?_,λ_=>rfl⟩;rw[za (show ¬(((oo (ob x.S (lv x.S)[j])).Serial != m'.Nodes[i].Serial)=true) by show ¬(((ob x.S (lv x.S)[j]).Serial != _)=true);simp[c])];have oS:∀o:n0,(oo o).Strong=o.Strong:=λ_=>rfl;have oT:∀o:n0,(oo o).Started=o.Started:=λ_=>rfl;have oF:∀o:n0,(oo o).Fields=o.Fields:=λ_=>rfl;simp only[oS,oT,oF];rw[hnm,hst,hsd,hfl];have hwj:u4 ((j:Int)+1)=(j:Int)+1:=O1 (by omega) (by omega);by_cases c12:12<=(ob x.S (lv x.S)[j]).Strong
      .rw[zB c12];simp[B9,hwj]
      .have e2:=hfair (by omega);rw[zQ c12];have e3:(ob x.S (lv x.S)[j]).Strong=(lk x (lv x.S)[j]:Int):=by rw[e2];simp
       simp[B9,e3,hwj]
     .refine⟨t,?_,λhlt=>?_⟩;·rw[zb (show (((oo (ob x.S (lv x.S)[j])).Serial != m'.Nodes[i].Serial)=true) by show (((ob x.S (lv x.S)[j]).Serial != _)=true);simp[c]),n9 (n:=j) (by omega)]
      .rcases zD j0 j with c2 | c2
       .exact hP c2
       .exfalso;have:j0=j:=by omega
        subst this;exact c (by rw[hj1,hs0])
    .rw[hP (by omega)];dsimp only;rw[za (by simp),n9 (n:=i) (by omega)]
  .dsimp only;rw[klv,a0d,Ih];simp
section
variable{σ:Int->Int}{x:Hp}{m:a8}(hx:Oh x)(q:p9 σ x m)
include hx q
end
section
variable{σ:Int->Int}{x:Hp}{m:a8}(hx:Oh x)(q:p9 σ x m)
include hx q
end
end Go.Sh
