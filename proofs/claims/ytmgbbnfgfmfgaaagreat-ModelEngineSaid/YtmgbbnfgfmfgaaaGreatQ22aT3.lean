/- A part. -/
import Derived.Test.YtmgbbnfgfmfgaaaGreatQ22aT2
set_option linter.unusedVariables false
set_option linter.unusedSimpArgs false
set_option linter.unusedSectionVars false
namespace Go.Sh
abbrev XT(n:b8)(l:List Int):b8:=⟨n.Serial,n.Slot,n.Prog,n.Started,n.Alive,n.Stuck,l⟩
section
variable{σ:Int->Int}{x:Hp}{m:a8}(hS:jt x)(q:r8 σ x m)
include hS q
theorem r8.bQ{h:Int}(hf:aS x [])(hh:h∈lv x.S){k:Nat}{v:Int}(hv:v=0\/v∈lv x.S):r8 σ (bQ x h k v) (AW (lk m (σ v)) (ja (lk m (σ v)).Nodes (σ h) λn=>XT n (((ob x.S h).Fields.map σ).set k (σ v)))):=by
 have hR:=hS.sr;have Q:=q.F0 hS hf hv;have wW:vY x.S (Sh.F0 x v).S:=I4 hR v λc=>E9;have hh':h∈lv (Sh.F0 x v).S:=by rw[wW.lv];exact hh
 have hR':=wW.sr;have ho:=K9 hR' hh';have p:=o7 hR' hh';have hfl:(ob (Sh.F0 x v).S h).Fields=(ob x.S h).Fields:=by
  obtain⟨n,e⟩:=wW.ob h (by have:=H5 hR hh;omega);rw[e]
 have P:=Q.put (o:=rF (ob (Sh.F0 x v).S h) ((ob x.S h).Fields.set k v)) hR' hh' rfl ⟨ho.s1,ho.s2,ho.st,ho.wk,ho.p1,ho.p2,by
  show ((ob x.S h).Fields.set k v).length<=4;rw[zap,<-hfl];exact ho.fl⟩ (f:=λn=>XT n (((ob x.S h).Fields.map σ).set k (σ v))) (by
  unfold Sh.nd;rw[F7 hR' p,zC p.2.1,zcp])
 unfold Sh.bQ;refine r8.Qi (x:=wS (Sh.F0 x v) _) ?_ P _;exact bZ hR' hh' rfl ⟨ho.s1,ho.s2,ho.st,ho.wk,ho.p1,ho.p2,by
  show ((ob x.S h).Fields.set k v).length<=4;rw[zap,<-hfl];exact ho.fl⟩
end
theorem DZ{t:Tb}(hT:HR t){k v:Int}{r:Tb × Int × Int}(h:V3 t k v=some r)(h0:r.2.2=0)(k' v':Int):Has r.1 k' v'↔(k'≠k/\Has t k' v')\/(v≠0/\k'=k/\v'=v):=by
 obtain⟨u,hu,_,_,c⟩:=dZ hT k v;rw[hu] at h;obtain rfl:=zJ h;rcases c with ⟨_,rfl⟩ | ⟨hk,hv,c⟩ | ⟨hk,hv,c⟩;·exact absurd (show (2:Int)=0 from h0) (by decide)
 .subst hv;rcases c with ⟨i,hi,rfl⟩ | ⟨hn,rfl⟩;·rw[sN hT hi];simp
  .constructor
   .intro hh;refine .inl ⟨λe=>?_,hh⟩;subst e;obtain⟨i,hi,_⟩:=hh;exact hn i hi
   .rintro (⟨_,hh⟩ | ⟨c,_⟩);·exact hh
    .exact absurd rfl c
 .have key:∀ {a:Tb},xS t k v (a,0)->(Has a k' v'↔(k'≠k/\Has t k' v')\/(v≠0/\k'=k/\v'=v)):=λP=>by
   rw[xz hT P rfl];constructor
   .rintro (⟨a,b⟩ | c);·exact .inr ⟨hv,a,b⟩
    .exact .inl c
   .rintro (c | ⟨_,a,b⟩);·exact .inr c
    .exact .inl ⟨a,b⟩
  rcases c with ⟨i,hi,rfl⟩ | ⟨d,_,_,_,hp,rfl⟩ | ⟨_,_,rfl⟩;·exact key (.old i hi)
  .exact key hp
  .exact absurd (show (8:Int)=0 from h0) (by decide)
theorem Tj{t:Tb}(hT:HR t){k v:Int}{r:Tb × Int × Int}(h:V3 t k v=some r):r.1.length=t.length:=by
 obtain⟨u,hu,_,hl,_⟩:=dZ hT k v;rw[hu] at h;obtain rfl:=zJ h;exact hl
section
variable{σ:Int->Int}{x:Hp}{m:a8}(hS:jt x)(q:r8 σ x m)
include hS q
theorem r8.iU{k v:Int}(hf:aS x [])(hk:k∈lv x.S)(hv:v=0\/v∈lv x.S){r:Tb × Int × Int}(h:V3 x.T k v=some r)(h0:r.2.2=0) :
  r8 σ (iU x v r.1 r.2.1) (XA (lk m (σ v)) ((m.Pairs.filter λp=>p.Key != σ k)++if v=0 then [] else [⟨σ k,σ v⟩])):=by
 have hR:=hS.sr;have Q:=q.F0 hS hf hv;unfold Sh.iU;refine r8.Qi (x:=wT (Sh.F0 x v) r.1) (ka hR v) ?_ _;refine⟨Q.gd,Q.nd,Q.sl,Q.ge,Q.la,?_,Q.se,Q.ro,Q.ce,?_,λp=>?_,Q.tk⟩
 .show _=((r.1.length:Nat):Int);rw[Tj hS.hr h];have:(Sh.F0 x v).T=x.T:=by rw[pB]
  rw[<-this];exact Q.npl
 .show List.Pairwise _ _;rw[zar];refine⟨q.p1.filter _,?_,λa ha b hb=>?_⟩
  .split;·exact List.Pairwise.nil
   .exact List.pairwise_singleton ..
  .split at hb;·cases hb
   .rw[zp] at hb;subst hb;have:=(zk.1 ha).2;simpa using this
 .show p∈_↔∃k' v',Has r.1 k' v'/\_;rw[zu,zk,q.p2];constructor
  .rintro (⟨⟨k',v',hh,rfl⟩,c⟩ | c)
   .refine⟨k',v',(DZ hS.hr h h0 _ _).2 (.inl ⟨λe=>?_,hh⟩),rfl⟩;subst e;simp at c
   .split at c;·cases c
    .rename_i c0;rw[zp] at c;exact⟨k,v,(DZ hS.hr h h0 _ _).2 (.inr ⟨c0,rfl,rfl⟩),c⟩
  .rintro⟨k',v',hh,rfl⟩;rcases (DZ hS.hr h h0 _ _).1 hh with ⟨c,hh⟩ | ⟨c0,rfl,rfl⟩
   .refine .inl ⟨⟨k',v',hh,rfl⟩,?_⟩;have:σ k'≠σ k:=λe=>c (q.gd.inl hR (hS.pr _ _ hh).1 hk e);simpa using this
   .right;rw[za c0];exact zp.2 rfl
end
def Fo(m:a8)(n:b8):a8:=
 ⟨m.Nodes.filter (λk=>k.Serial != n.Serial),m.Slots.set n.Slot.toNat (if m.Gens.getD n.Slot.toNat 0=m.Last then -1 else 0),
  if m.Gens.getD n.Slot.toNat 0=m.Last then m.Gens else m.Gens.set n.Slot.toNat (m.Gens.getD n.Slot.toNat 0+1),m.Last,m.Places,m.Serial,m.Roots,m.b7,m.Pairs,m.Tasks,m.Progs⟩
def Ro(m:a8)(s:Int):a8:=match m.Nodes.find? (λn=>n.Serial==s) with
 | none=>m
 | some n=>if n.Alive=true\/0<jy m.b7 s then m else Fo m n
theorem vI{n:Nat}(f:Nat->Int){i:Nat}(v:Int):((List.range n).map f).set i v=(List.range n).map λj=>if j=i then v else f j:=by
 refine zb1 (by simp) λj h1 h2=>?_;rw[zcq];simp only[ut,List.getElem_range];by_cases c:i=j
 .rw[zb c,zb c.symm]
 .rw[za c,za (zay c)]
def GN(s:b6)(i:Nat):c8:=if (ce s i).Gen=s.S.Last then ⟨3,(ce s i).Gen,z0⟩ else ⟨0,(ce s i).Gen+1,z0⟩
theorem VF(s:b6)(i:Nat):¬Th (GN s i):=by
 unfold GN Th;split <;> simp
section
variable{σ:Int->Int}{x:Hp}{m:a8}(hR:SR x.S)(q:r8 σ x m)
include hR q
theorem r8.Fo{i:Nat}(hi:i<x.S.S.b7.length)(ht:Th (Sh.ce x.S i)):r8 σ (wS x (I3 x.S i (GN x.S i))) (Fo m (Sh.nd σ x.S i)):=by
 have hc:=λj=>L4 hi (GN x.S i) j;have hl:=W6 x.S i (GN x.S i);have hno:=VF x.S i;have hg:m.Gens.getD i 0=(Sh.ce x.S i).Gen:=by
  rw[q.ge,zd,zB,List.getElem?_range hi];rfl
 have hsl:(Sh.nd σ x.S i).Slot.toNat=i:=by unfold Sh.nd;simp
 unfold Sh.Fo;rw[hsl,hg,q.la];refine⟨q.gd.up λk j a=>?_,?_,?_,?_,rfl,q.npl,q.se,q.ro,q.ce,q.p1,q.p2,q.tk⟩
 .have hne:j≠i:=λe=>by
   have:=a.2.1;change Th (Sh.ce (I3 x.S i (GN x.S i)) j) at this
   rw[hc,zb e] at this;exact hno this
  refine⟨(EL hi _ hne).1 a,?_⟩;change (Sh.ce (I3 x.S i (GN x.S i)) j).Val.Serial=_
  rw[hc,za hne]
 .exact q.nd.del (s':=I3 x.S i (GN x.S i)) hR hi hl (λj hj=>by rw[hc,za hj]) ht (by rw[hc,zb rfl];exact hno)
 .show _=List.map (λj=>PE (Sh.ce (I3 x.S i (GN x.S i)) j)) (List.range (I3 x.S i (GN x.S i)).S.b7.length);show m.Slots.set i _=_;rw[hl,q.sl,vI];refine U1 λj hj=>?_;rw[hc];by_cases c:j=i
  .rw[zb c,zb c];unfold PE;rw[za hno];unfold GN;split <;> rfl
  .rw[za c,za c]
 .show _=List.map (λj=>(Sh.ce (I3 x.S i (GN x.S i)) j).Gen) (List.range (I3 x.S i (GN x.S i)).S.b7.length);show (if (Sh.ce x.S i).Gen=x.S.S.Last then m.Gens else m.Gens.set i ((Sh.ce x.S i).Gen+1))=_;rw[hl,q.ge];unfold GN;split
  .rename_i c;refine U1 λj hj=>?_;rw[L4 hi];split;·rename_i e;rw[e]
   .rfl
  .rw[vI];refine U1 λj hj=>?_;rw[L4 hi];split <;> rfl
theorem r8.alike{s':b6}(hl:s'.S.b7.length=x.S.S.b7.length)(hla:s'.S.Last=x.S.S.Last)(hse:s'.Serial=x.S.Serial)
  (h:∀i,i<x.S.S.b7.length->(Sh.ce s' i).State=(Sh.ce x.S i).State/\(Sh.ce s' i).Gen=(Sh.ce x.S i).Gen/\(Sh.ce s' i).Val.Serial=(Sh.ce x.S i).Val.Serial/\(Sh.ce s' i).Val.Prog=(Sh.ce x.S i).Val.Prog/\(Sh.ce s' i).Val.Started=(Sh.ce x.S i).Val.Started/\(Sh.ce s' i).Val.Strong=(Sh.ce x.S i).Val.Strong/\(Sh.ce s' i).Val.Fields=(Sh.ce x.S i).Val.Fields):r8 σ (wS x s') m:=by
 have sT:∀i,i<x.S.S.b7.length->(Th (Sh.ce s' i)↔Th (Sh.ce x.S i)):=λi hi=>by unfold Th;rw[(h i hi).1]
 refine⟨q.gd.up λk i a=>?_,q.nd.same hR hl λi hi=>⟨sT i hi,λht=>?_⟩,?_,?_,by rw[q.la];exact hla.symm,q.npl,by rw[q.se];exact hse.symm,q.ro,q.ce,q.p1,q.p2,q.tk⟩
 .have hi:i<x.S.S.b7.length:=by have:=a.1;rw[<-hl];exact this
  refine⟨⟨hi,(sT i hi).1 a.2.1,?_⟩,(h i hi).2.2.1⟩;have:=a.2.2;change k=1+(i:Int)+32*(Sh.ce s' i).Gen at this
  rw[(h i hi).2.1] at this;exact this
 .obtain⟨a1,a2,a3,a4,a5,a6,a7⟩:=h i hi;unfold Sh.nd;rw[a1,a3,a4,a5,a6,a7]
 .show _=List.map _ (List.range s'.S.b7.length);rw[hl,q.sl];refine U1 λi hi=>?_;unfold PE;rw[(h i hi).2.2.1,(h i hi).1];by_cases c:Th (Sh.ce x.S i)
  .rw[zb c,zb ((sT i hi).2 c)]
  .rw[za c,za λd=>c ((sT i hi).1 d)]
 .show _=List.map _ (List.range s'.S.b7.length);rw[hl,q.ge];exact U1 λi hi=>(h i hi).2.1.symm
theorem r8.find{h:Int}{i:Nat}(p:U7 x.S h i):m.Nodes.find? (λn=>n.Serial==σ h)=some (Sh.nd σ x.S i):=by
 have hs:=q.gd.f h i p;rw[List.find?_eq_some_iff_getElem];obtain⟨j,hj,e⟩:=ww (q.nd.at hR p.1 p.2.1);refine⟨by rw[hs];exact t8 _,j,hj,e,λk hk=>?_⟩;have:=za5.1 q.nd.up k j (by omega) hj hk;rw[e] at this;have:m.Nodes[k].Serial≠σ h:=by
  rw[hs];have:m.Nodes[k].Serial<(Sh.ce x.S i).Val.Serial:=this;omega
 simpa using this
theorem r8.XV:m.Nodes.find? (λn=>n.Serial==0)=none:=by
 rw[zcg];intro n hn e;have:=(q.nd.pos hR hn).1;have:n.Serial=0:=by simpa using e
 omega
theorem r8.jy{l:List j5}{h:Int}(hl:∀c∈l,σ c.Target=σ h->c.Target=h)(h0:h≠0)(h1:σ h≠0):Sh.jy (l.map (wx σ)) (σ h)=Sh.jy l h:=by
 unfold Sh.jy;rw[List.countP_map];refine List.countP_congr λc hc=>?_;show ((σ h != 0)&&(σ c.Target==σ h))=true↔((h != 0)&&(c.Target==h))=true;have:σ c.Target=σ h↔c.Target=h:=⟨hl c hc,λe=>by rw[e]⟩;simp[h0,h1,this]
end
def PS(m:a8)(w:Nat)(s call:Int):a8:=Ro (Xm m (m.b7.set w (fR s call))) (m.b7.getD w cz).Target
theorem He{m:a8}{s:Int}{n:b8}(h:m.Nodes.find? (λn=>n.Serial==s)=some n):Ro m s=if n.Alive=true\/0<jy m.b7 s then m else Fo m n:=by
 unfold Ro;rw[h]
theorem MT{m:a8}{s:Int}(h:m.Nodes.find? (λn=>n.Serial==s)=none):Ro m s=m:=by
 unfold Ro;rw[h]
theorem JQ{σ:Int->Int}{x:Hp}{m:a8}(hR:SR x.S)(q:r8 σ x m){i:Nat}(hi:i<x.S.S.b7.length)(ht:Th (ce x.S i))(d:Int):r8 σ (wS x (lS x.S i d)) m:=by
 refine q.alike hR (K3 ..) rfl rfl λj hj=>?_;rw[fk hR hi ht];split;·rename_i e;subst e;exact⟨rfl,rfl,rfl,rfl,rfl,rfl,rfl⟩
 .exact⟨rfl,rfl,rfl,rfl,rfl,rfl,rfl⟩
theorem oK{x:Hp}(hS:jt x){c:j5}(hc:c∈x.b7):c.Target=0\/∃i,U7 x.S c.Target i:=by
 obtain⟨i,hi,rfl⟩:=ww hc;by_cases e:x.b7[i].Target=0
 .exact .inl e
 .exact .inr ((hS.cl i hi).2.2.2.1 e)
theorem r8.cV{σ:Int->Int}{x:Hp}{m:a8}(hx:L1 x)(q:r8 σ x m){w:Nat}(hw:w<6){h call:Int}(hh:h=0\/h∈lv x.S):r8 σ (cV x w h call) (PS m w (σ h) call):=by
 have hS:=hx.sh;have hR:=hS.sr;have hwl:w<x.b7.length:=by rw[hS.c6];exact hw
 have hz:(σ h != 0)=(h != 0):=by
  have:=q.gd.zero hR (Oe hR q.gd hh);rw[za9];simp[this]
 have q1:r8 σ (wC x (x.b7.set w (fR h call))) (Xm m (m.b7.set w (fR (σ h) call))):=by
  refine⟨q.gd,q.nd,q.sl,q.ge,q.la,q.npl,q.se,q.ro,?_,q.p1,q.p2,q.tk⟩;show m.b7.set w (fR (σ h) call)=(x.b7.set w (fR h call)).map (wx σ);rw[q.ce,zcp];congr 1;unfold wx fR;rw[hz]
 have hold:(m.b7.getD w cz).Target=σ (mw x w):=by
  unfold mw;rw[q.ce,zd,zB,zd,zc hwl];rfl
 have htg:mw x w=x.b7[w].Target:=by unfold mw;rw[zd,zc hwl];rfl
 unfold Sh.cV PS;rw[hold];generalize hy:iD (wC x (x.b7.set w (fR h call))) h 1=y;generalize hm:Xm m (m.b7.set w (fR (σ h) call))=m1 at q1;have k:∃s2,y=wS (wC x (x.b7.set w (fR h call))) s2/\SR s2/\r8 σ y m1/\s2.S.b7.length=x.S.S.b7.length/\∀i,i<x.S.S.b7.length->(Sh.ce s2 i).State=(Sh.ce x.S i).State/\(Sh.ce s2 i).Gen=(Sh.ce x.S i).Gen/\(Sh.ce s2 i).Val.Weak=(Sh.ce x.S i).Val.Weak+if h=cv x.S i/\Th (Sh.ce x.S i) then 1 else 0:=by
  subst hy;unfold iD;split
  .rename_i c;have c:U7 x.S h (E0 h):=c;refine⟨_,rfl,vp hR c.1 c.2.1 (by have:=(hR.ok _ c.1 c.2.1).wk;omega),JQ (x:=wC x (x.b7.set w (fR h call))) hR q1 c.1 c.2.1 1,K3 ..,λi hi=>?_⟩;show (Sh.ce (lS x.S (E0 h) 1) i).State=_/\(Sh.ce (lS x.S (E0 h) 1) i).Gen=_/\(Sh.ce (lS x.S (E0 h) 1) i).Val.Weak=_;rw[fk hR c.1 c.2.1];split
   .rename_i e;subst e;exact⟨rfl,rfl,by rw[zb ⟨c.2.2,c.2.1⟩]⟩
   .rename_i e;refine⟨rfl,rfl,?_⟩;rw[za λd=>?_];·omega
    .exact e (U7.one hR (d.1▸xp hi d.2) c)
  .rename_i c;refine⟨_,rfl,hR,q1,rfl,λi hi=>⟨rfl,rfl,?_⟩⟩;rw[za λd=>?_];·omega
   .refine c ?_;have:=xp hi d.2;show U7 x.S h (E0 h);rw[d.1,this.E0 hR];exact this
 obtain⟨s2,ey,hR2,q2,hl2,hc2⟩:=k;have hcf:∀c∈x.b7.set w (fR h call),c.Target=0\/∃i,U7 x.S c.Target i:=λc hc=>by
  rcases za3 hc with hc | rfl
  .exact oK hS hc
  .exact Oe hR q.gd hh
 rcases oK hS (zh hwl) with e0 | ⟨p,hp⟩
 .rw[<-htg] at e0;rw[e0,q.gd.z,MT (q2.XV (by rw[ey];exact hR2))];unfold pP;rw[za];·exact q2
  .intro c;have:=c.Ma (by rw[ey];exact hR2);omega
 .rw[<-htg] at hp;have hpp:=hp.E0 hR;obtain⟨s1',g1,w1⟩:=hc2 p hp.1;have hT2:Th (Sh.ce s2 p):=by unfold Th;rw[s1'];exact hp.2.1
  have hp2:U7 s2 (mw x w) p:=⟨by rw[hl2];exact hp.1,hT2,by rw[g1];exact hp.2.2⟩;have hp2y:U7 y.S (mw x w) p:=by rw[ey];exact hp2
  have hRy:SR y.S:=by rw[ey];exact hR2
  have h0:mw x w≠0:=by have:=hp.Ma hR;omega
  have s0:σ (mw x w)≠0:=by have:=q.gd.pos hR hp;omega
  have ehd:mw x w=cv x.S p:=hp.2.2;have hnm:(Sh.ce y.S p).Val.Weak=(Sh.jy (x.b7.set w (fR h call)) (mw x w):Int)+1:=by
   rw[ey];show (Sh.ce s2 p).Val.Weak=_;have a:=JS hwl (fR h call) h0;have b:(Sh.ce x.S p).Val.Weak=(Sh.jy x.b7 (mw x w):Int):=by rw[ehd];exact (hx.wk p hp.1 hp.2.1).1
   rw[w1,b];rw[htg] at a |-;rw[zb rfl] at a;by_cases c:h=x.b7[w].Target
   .rw[zb ⟨by rw[c,<-htg];exact ehd,hp.2.1⟩];rw[zb (show (fR h call).Target=_ from c)] at a;omega
   .rw[za λd=>c (by rw[d.1,<-htg];exact ehd.symm)];rw[za (show ¬(fR h call).Target=_ from c)] at a;omega
  have q3:r8 σ (wS y (lS y.S p (-1))) m1:=JQ hRy q2 hp2y.1 hp2y.2.1 (-1);have hR3:SR (lS y.S p (-1)):=vp hRy hp2y.1 hp2y.2.1 (by rw[hnm];omega);have hp3:U7 (wS y (lS y.S p (-1))).S (mw x w) p:=(xq hp2y.1 _).2 hp2y;have hf:=q3.find hR3 hp3;have hst:(Sh.ce (lS y.S p (-1)) p).State=(Sh.ce y.S p).State:=by rw[fk hRy hp2y.1 hp2y.2.1,zb rfl]
  have hcm:Sh.jy m1.b7 (σ (mw x w))=Sh.jy (x.b7.set w (fR h call)) (mw x w):=by
   have:m1.b7=(x.b7.set w (fR h call)).map (wx σ):=by
    have:=q2.ce;rw[ey] at this;exact this
   rw[this];exact q.jy hR (λc hc e=>q.gd.Xv hR (hcf c hc) (.inr ⟨p,hp⟩) e) h0 s0
  rw[He hf,hcm];unfold pP;rw[hpp,zb hp2y];by_cases c:(Sh.ce y.S p).State=2/\(Sh.ce y.S p).Val.Weak=1
  .rw[zb c,za];·exact q3.Fo hR3 hp3.1 hp3.2.1
   .rintro (d | d)
    .have:(Sh.ce (lS y.S p (-1)) p).State=1:=by simpa[Sh.nd] using d
     rw[hst,c.1] at this;exact absurd this (by decide)
    .have:=c.2;rw[hnm] at this;omega
  .rw[za c,zb];·exact q3
   .by_cases d:(Sh.ce y.S p).State=2
    .right;have:(Sh.ce y.S p).Val.Weak≠1:=λe=>c ⟨d,e⟩;rw[hnm] at this;omega
    .left;have:(Sh.ce y.S p).State=1:=hp2y.2.1.resolve_right d;unfold Sh.nd;exact zC (hst.trans this)
def qD(n:b8):b8:=⟨n.Serial,n.Slot,n.Prog,n.Started,false,n.Stuck,[]⟩
def wV(m:a8)(s:Int):a8:=Ro (AW m (ja m.Nodes s qD)) s
theorem yn(s:Int){f:b8->b8}(hf:∀n,(f n).Serial=n.Serial):∀l:List b8,(ja l s f).find? (λn=>n.Serial==s)=(l.find? λn=>n.Serial==s).map f
 | []=>rfl
 | n::l=>by
  unfold ja at *;rw[zU,List.find?_cons,List.find?_cons];by_cases e:n.Serial=s
  .rw[zb e];have:(f n).Serial=s:=(hf n).trans e;simp[e,this]
  .rw[za e];have:(n.Serial==s)=false:=by simpa using e
   rw[this];exact yn s hf l
theorem rD(s:Int){f:b8->b8}(hf:∀n,(f n).Serial=n.Serial):∀l:List b8,(ja l s f).filter (λn=>n.Serial != s)=l.filter λn=>n.Serial != s
 | []=>rfl
 | n::l=>by
  unfold ja at *;rw[zU,or,or];by_cases e:n.Serial=s
  .rw[zb e];have:(f n).Serial=s:=(hf n).trans e;simp only[this,e,zbt];exact rD s hf l
  .rw[za e];have:(n.Serial != s)=true:=by simpa using e
   simp only[this,zY];have ih:=rD s hf l;unfold ja at ih;rw[ih]
theorem r8.wV{σ:Int->Int}{x:Hp}{m:a8}(hR:SR x.S)(q:r8 σ x m){d:Int}(hd:d∈lv x.S)(hst:(ob x.S d).Strong<12)(hw:(ob x.S d).Weak=Sh.jy x.b7 d)
  (hinj:∀c∈x.b7,σ c.Target=σ d->c.Target=d):r8 σ (wS x (wU x.S d)) (wV m (σ d)):=by
 have p:=o7 hR hd;have h0:d≠0:=by have:=H5 hR hd;omega
 have s0:σ d≠0:=by have:=q.gd.ps hR hd;omega
 have hf:=q.find hR p.d;have hsd:(Sh.nd σ x.S (E0 d)).Serial=σ d:=(q.gd.f d _ p.d).symm;have hcm:Sh.jy m.b7 (σ d)=Sh.jy x.b7 d:=by rw[q.ce];exact q.jy hR hinj h0 s0
 have hf2:(AW m (ja m.Nodes (σ d) qD)).Nodes.find? (λn=>n.Serial==σ d)=some (qD (Sh.nd σ x.S (E0 d))):=by
  show (ja m.Nodes (σ d) qD).find? _=_;rw[yn _ (f:=qD) (λ_=>rfl),hf];rfl
 unfold Sh.wV;rw[He hf2];have hcm':Sh.jy (AW m (ja m.Nodes (σ d) qD)).b7 (σ d)=Sh.jy x.b7 d:=hcm;rw[hcm'];unfold wU;rw[F7 hR p] at hw hst;by_cases c:(Sh.ce x.S (E0 d)).Val.Weak=0
 .have e:GM x.S (E0 d)=GN x.S (E0 d):=by unfold GM GN;rw[zb c]
  rw[e,za]
  .have:Sh.Fo (AW m (ja m.Nodes (σ d) qD)) (qD (Sh.nd σ x.S (E0 d)))=Sh.Fo m (Sh.nd σ x.S (E0 d)):=by
    unfold Sh.Fo qD;dsimp only;rw[hsd];have:=rD (σ d) (f:=qD) (λ_=>rfl) m.Nodes;unfold qD at this;rw[this]
   rw[this];exact q.Fo hR p.1 p.d.2.1
  .rintro (a | a);·exact absurd a (by unfold qD;simp)
   .rw[c] at hw;omega
 .have e:GM x.S (E0 d)=⟨2,(Sh.ce x.S (E0 d)).Gen,Li (Sh.ce x.S (E0 d)).Val⟩:=by unfold GM;rw[za c]
  rw[e,zb (.inr (by have:=(hR.ok _ p.1 p.d.2.1).wk;omega))];have hc:=λj=>L4 p.1 ⟨2,(Sh.ce x.S (E0 d)).Gen,Li (Sh.ce x.S (E0 d)).Val⟩ j;have hl:=W6 x.S (E0 d) ⟨2,(Sh.ce x.S (E0 d)).Gen,Li (Sh.ce x.S (E0 d)).Val⟩;generalize hs':I3 x.S (E0 d) ⟨2,(Sh.ce x.S (E0 d)).Gen,Li (Sh.ce x.S (E0 d)).Val⟩=s' at hc hl;have hsl:s'.S.Last=x.S.S.Last/\s'.Serial=x.S.Serial:=by subst hs';exact⟨rfl,rfl⟩
  have same:∀i,(Th (Sh.ce s' i)↔Th (Sh.ce x.S i))/\(Sh.ce s' i).Gen=(Sh.ce x.S i).Gen/\(Sh.ce s' i).Val.Serial=(Sh.ce x.S i).Val.Serial:=λi=>by
   rw[hc i];split;·rename_i e2;subst e2;exact⟨⟨λ_=>p.d.2.1,λ_=>.inr rfl⟩,rfl,rfl⟩
   .exact⟨Iff.rfl,rfl,rfl⟩
  refine⟨q.gd.up λk i a=>⟨⟨by have:=a.1;rw[<-hl];exact this,(same i).1.1 a.2.1,?_⟩,(same i).2.2⟩,?_,?_,?_,by rw[q.la];exact hsl.1.symm,q.npl,by rw[q.se];exact hsl.2.symm,q.ro,q.ce,q.p1,q.p2,q.tk⟩
  .have:=a.2.2;change k=1+(i:Int)+32*(Sh.ce s' i).Gen at this
   rw[(same i).2.1] at this;exact this
  .have:=q.nd.x8 (s':=s') hR p.1 hl (λj hj=>by rw[hc j,za hj]) p.d.2.1 ((same _).1.2 p.d.2.1) (same _).2.2 (f:=qD) (by
    unfold Sh.nd qD;rw[hc,zb rfl];dsimp only;rw[zQ (show ¬(12:Int)<=(Sh.ce x.S (E0 d)).Val.Strong by omega)];rfl)
   rw[q.gd.f d _ p.d];exact this
  .show m.Slots=List.map _ (List.range s'.S.b7.length);rw[hl,q.sl];refine U1 λi hi=>?_;unfold PE;by_cases c2:Th (Sh.ce x.S i)
   .rw[zb c2,zb ((same i).1.2 c2),(same i).2.2]
   .rw[za c2,za λd=>c2 ((same i).1.1 d),hc i,za (show i≠E0 d from λe2=>c2 (e2▸p.d.2.1))]
  .show m.Gens=List.map _ (List.range s'.S.b7.length);rw[hl,q.ge];exact U1 λi hi=>(same i).2.1.symm
theorem r8.VS{σ:Int->Int}:∀(ds:List Int) {x:Hp} {m:a8},SR x.S->r8 σ x m->ds.Nodup->(∀d∈ds,d∈lv x.S/\(ob x.S d).Strong<12/\(ob x.S d).Weak=Sh.jy x.b7 d)->(∀d∈ds,∀c∈x.b7,σ c.Target=σ d->c.Target=d) ->
  r8 σ (wS x (oG x.S ds)) ((ds.map σ).foldl Sh.wV m)
 | [],x,m,hR,q,_,_,_=>q
 | d::ds,x,m,hR,q,hn,hm,hi=>by
  rw[me] at hn;obtain⟨a1,a2,a3⟩:=hm d zg;have Q:=q.wV hR a1 a2 a3 (hi d zg);show r8 σ (wS x (oG (wU x.S d) ds)) ((ds.map σ).foldl Sh.wV (Sh.wV m (σ d)));refine r8.VS ds (x:=wS x (wU x.S d)) (CW hR a1) Q hn.2 (λk hk=>?_) λk hk=>hi k (zn _ hk);obtain⟨b1,b2,b3⟩:=hm k (zn _ hk);have hne:k≠d:=λe=>hn.1 (e▸hk);refine⟨by show k∈lv (wU x.S d);rw[NJ hR a1,zk];exact⟨b1,by simpa using hne⟩,?_⟩;show (ob (wU x.S d) k).Strong<12/\(ob (wU x.S d) k).Weak=_;rw[NK hR a1 b1 hne];exact⟨b2,b3⟩
def EN(m:a8)(S:List Int):a8:=S.foldl wV (XA (Iz (Xm m (nT m.b7 S)) (m.Tasks++kl m.b7 S)) (m.Pairs.filter λp=>decide (p.Key∉S)))
theorem TH{t:Tb}(hT:HR t)(ks:List Int)(hks:ks.length<=1000):(lE t ks).1.length=t.length:=by
 obtain⟨a,had,h1,_,h2,_⟩:=wH hT ks hks;unfold lE;rw[h1];exact h2
section
variable{σ:Int->Int}{x:Hp}{m:a8}(hx:L1 x)(q:r8 σ x m)
include hx q
theorem JB{ds:List Int}(hm:∀d∈ds,d∈lv x.S){c:j5}(hc:c∈x.b7):jO (ds.map σ) (wx σ c)=jO ds c:=by
 have hR:=hx.sh.sr;obtain⟨i,hi,rfl⟩:=ww hc;unfold jO wx;cases e:x.b7[i].Intact;·rfl
 .have hl:=((hx.sh.cl i hi).2.2.2.2 e).1;have a:=q.gd.ps hR hl;have b:=H5 hR hl;have:(σ x.b7[i].Target∈ds.map σ)↔x.b7[i].Target∈ds:=by
   rw[zw];exact⟨λ⟨d,hd,e2⟩=>(q.gd.inl hR (hm d hd) hl e2)▸hd,λh=>⟨_,h,rfl⟩⟩
  rw[za9];simp[this];omega
theorem Rv{ds:List Int}(hm:∀d∈ds,d∈lv x.S):nT m.b7 (ds.map σ)=(nT x.b7 ds).map (wx σ):=by
 unfold nT;rw[q.ce,za1,za1];refine zq λc hc=>?_;show ru (ds.map σ) (wx σ c)=wx σ (ru ds c);unfold ru;rw[JB hx q hm hc];split <;> rfl
theorem Rx{ds:List Int}(hm:∀d∈ds,d∈lv x.S):kl m.b7 (ds.map σ)=kl x.b7 ds:=by
 have hg:∀w,w<x.b7.length->(x.b7.map (wx σ)).getD w cz=wx σ (x.b7.getD w cz):=λw hw=>by
  rw[zd,zB,zd,zc hw];rfl
 have hh:∀w,w<x.b7.length->jO (ds.map σ) (wx σ (x.b7.getD w cz))=jO ds (x.b7.getD w cz):=λw hw=>by
  rw[zd,zc hw];exact JB hx q hm (zh hw)
 have hcls:cls m.b7 (ds.map σ)=cls x.b7 ds:=by
  unfold cls;rw[q.ce,zl];refine pm λw hw=>?_;rw[za7] at hw;rw[hg w hw,hh w hw];rfl
 unfold kl;rw[hcls];refine zq λw hw=>?_;have hw:w<x.b7.length:=by
  unfold cls at hw;exact za7.1 (zk.1 hw).1
 rw[q.ce,hg w hw];rfl
theorem r8.TO{ds:List Int}(hn:ds.Nodup)(hm:∀d∈ds,d∈lv x.S):r8 σ (⟨x.S,x.Roots,nT x.b7 ds,(lE x.T ds).1,⟨x.Q.L++kl x.b7 ds,x.Q.Cap⟩⟩:Hp) (XA (Iz (Xm m (nT m.b7 (ds.map σ))) (m.Tasks++kl m.b7 (ds.map σ))) (m.Pairs.filter λp=>decide (p.Key∉ds.map σ))):=by
 have hS:=hx.sh;have hR:=hS.sr;have hlen:ds.length<=24:=zO (ae hn hm) (K8 (y8.2 hR));obtain⟨_,w2,_,_,w5,_⟩:=ki hS.hr ds (by omega);refine⟨q.gd,q.nd,q.sl,q.ge,q.la,?_,q.se,q.ro,Rv hx q hm,q.p1.filter _,λp=>?_,?_⟩
 .show m.Places=(((lE x.T ds).1.length:Nat):Int);rw[TH hS.hr ds (by omega)];exact q.npl
 .show p∈List.filter _ _↔∃k v,Has (lE x.T ds).1 k v/\_;rw[zk,q.p2,zG];constructor
  .rintro⟨⟨k,v,h,rfl⟩,c⟩;exact⟨k,v,(w5 k v).2 ⟨λhk=>c (zw.2 ⟨k,hk,rfl⟩),h⟩,rfl⟩
  .rintro⟨k,v,h,rfl⟩;obtain⟨h1,h2⟩:=(w5 k v).1 h;refine⟨⟨k,v,h2,rfl⟩,λc=>?_⟩;obtain⟨d,hd,e⟩:=zw.1 c;exact h1 (q.gd.inl hR (hm d hd) (hS.pr _ _ h2).1 e▸hd)
 .show m.Tasks++kl m.b7 (ds.map σ)=(x.Q.L++kl x.b7 ds).map (tx σ);rw[q9,q.tk,Rx hx q hm];congr 1;conv=>lhs;rw[<-List.map_id (kl x.b7 ds)]
  refine zq λt ht=>?_;obtain⟨w,_,rfl,_⟩:=gJ.1 ht;unfold tx;rw[za (show ¬(2:Int)=1 by decide)];rfl
theorem r8.gS{ds:List Int}(hn:ds.Nodup)(hm:∀d∈ds,d∈lv x.S)(hs:∀d∈ds,(ob x.S d).Strong<12):r8 σ (gS x ds) (EN m (ds.map σ)):=by
 have hS:=hx.sh;have hR:=hS.sr;unfold Sh.gS EN;refine r8.YK (x:=jG x ds (lE x.T ds).1) _ (eX ds hR hn hm).sr ?_;have q1:=q.TO hx hn hm;have:=r8.VS (x:=(⟨x.S,x.Roots,nT x.b7 ds,(lE x.T ds).1,⟨x.Q.L++kl x.b7 ds,x.Q.Cap⟩⟩:Hp)) ds hR q1 hn (λd hd=>⟨hm d hd,hs d hd,?_⟩) λd hd c hc e=>?_;·exact this
 .show (ob x.S d).Weak=(Sh.jy (nT x.b7 ds) d:Int);have p:=o7 hR (hm d hd);rw[Du,F7 hR p];have:=(hx.wk _ p.1 p.d.2.1).1;rw[<-p.2.2] at this;exact this
 .refine q.gd.Xv hR ?_ (.inr ⟨_,(o7 hR (hm d hd)).d⟩) e;have hc:c∈nT x.b7 ds:=hc;unfold nT at hc;obtain⟨c',hc',rfl⟩:=zw.1 hc;rw[(uW ds c').1];exact oK hS hc'
end
def Gx(n:b8):b8:=⟨n.Serial,n.Slot,n.Prog,true,n.Alive,n.Stuck,n.Fields⟩
def HT(m:a8)(s:Int):Int:=((m.Nodes.find? λn=>n.Serial==s).map (·.Prog)).getD 0
def uB(m:a8)(s:Int):a8:=Iz (AW (lk m s) (ja (lk m s).Nodes s Gx)) (m.Tasks ++ [⟨1,s,HT m s⟩])
theorem Jl(s:Int){f g:b8->b8}(hf:∀n,(f n).Serial=n.Serial)(l:List b8):ja (ja l s f) s g=ja l s (λn=>g (f n)):=by
 unfold ja;rw[za1];refine zq λn _=>?_;by_cases e:n.Serial=s
 .have h1:(f n).Serial=s:=(hf n).trans e;simp only[Function.comp,zb e,zb h1]
 .simp only[Function.comp,za e]
theorem r8.gN{σ:Int->Int}{x:Hp}{m:a8}(hS:jt x)(hf:aS x [])(q:r8 σ x m){h:Int}(hh:h∈lv x.S):r8 σ (gN x h) (uB m (σ h)):=by
 have hR:=hS.sr;have ho:=K9 hR hh;have p:=o7 hR hh;have hno:AR x.S (fN (ob x.S h)):=⟨ho.s1,ho.s2,ho.st,ho.wk,ho.p1,ho.p2,ho.fl⟩;have q1:=q.put (o:=fN (ob x.S h)) hR hh rfl hno (f:=Gx) (by
  unfold Sh.nd Gx;rw[F7 hR p,zC p.2.1])
 have hpr:HT m (σ h)=(ob x.S h).Prog:=by
  unfold HT;rw[q.find hR p.d,F7 hR p];rfl
 have q2:r8 σ (⟨dp x.S h (fN (ob x.S h)),x.Roots,x.b7,x.T,⟨x.Q.L ++ [AU x h],x.Q.Cap⟩⟩:Hp) (Iz (AW m (ja m.Nodes (σ h) Gx)) (m.Tasks ++ [⟨1,σ h,HT m (σ h)⟩])):=by
  refine⟨q1.gd,q1.nd,q1.sl,q1.ge,q1.la,q1.npl,q1.se,q1.ro,q1.ce,q1.p1,q1.p2,?_⟩;show m.Tasks++_=(x.Q.L ++ [AU x h]).map (tx σ);rw[q9,q.tk,hpr];congr 1
 have hR1:SR (dp x.S h (fN (ob x.S h))):=bZ hR hh rfl hno;have hl1:h∈lv (dp x.S h (fN (ob x.S h))):=by rw[iN (o:=fN (ob x.S h)) hR hh rfl hno];exact hh
 have q3:=q2.WW hR1 (h:=h) (.inr hl1) (k:=Ey m (σ h)) (λ_ hs=>by
  have e:ob (dp x.S h (fN (ob x.S h))) h=fN (ob x.S h):=by
   rw[gx (o:=fN (ob x.S h)) hR hh rfl hno (by have:=H5 hR hh;omega),zb rfl]
  change (ob (dp x.S h (fN (ob x.S h))) h).Strong<12 at hs
  show (ob (dp x.S h (fN (ob x.S h))) h).Strong=_;rw[e] at hs |-;rw[q.lY hS hh];show (ob x.S h).Strong=_;rw[hf h hh hs,J1];rfl)
 have e:(if σ h≠0/\11<=Ey m (σ h) then uC (Iz (AW m (ja m.Nodes (σ h) Gx)) (m.Tasks ++ [⟨1,σ h,HT m (σ h)⟩])) (σ h) else (Iz (AW m (ja m.Nodes (σ h) Gx)) (m.Tasks ++ [⟨1,σ h,HT m (σ h)⟩])))=uB m (σ h):=by
  unfold uB lk;split
  .unfold uC;dsimp only;rw[Jl (f:=Gx) _ (λ_=>rfl),Jl (f:=Eb) _ (λ_=>rfl)];rfl
  .rfl
 rw[e] at q3;exact q3
def LJ(m:a8)(i n:Nat)(p:Int):a8:=⟨m.Nodes ++ [⟨m.Serial+1,i,p,false,true,false,List.replicate n 0⟩],m.Slots.set i (m.Serial+1),m.Gens,m.Last,m.Places,m.Serial+1,m.Roots,m.b7,m.Pairs,m.Tasks,m.Progs⟩
theorem r8.mk'{σ:Int->Int}{x:Hp}{m:a8}(hx:L1 x)(q:r8 σ x m){i:Nat}(hi:i<x.S.S.b7.length)(h0:(Sh.ce x.S i).State=0){n:Nat}(hn:n<=4){p:Int}(hp : -1<=p/\p<=5) :
  ∃σ',r8 σ' (wS x (dJ x.S i n p)) (LJ m i n p)/\σ' (cv x.S i)=x.S.Serial+1:=by
 have hS:=hx.sh;have hR:=hS.sr;have hc:=λj=>lT hR hi h0 hn hp j;have hl:=jS hR hi h0 hn hp;have hT0:¬Th (Sh.ce x.S i):=by unfold Th;rw[h0];decide
 have hpos:=tv hR hi;have old:∀ {k:Int} {j:Nat},U7 x.S k j->k≠cv x.S i:=λ{k j} a e=>by
  have hj:=yQ hR hi h0 hn hp a;have h1:=a.2.2;rw[e] at h1;unfold cv at h1;have:=a.1;have:=hR.len;omega
 refine⟨λh=>if h=cv x.S i then x.S.Serial+1 else σ h,?_,zb rfl⟩;generalize hσ:(λh=>if h=cv x.S i then x.S.Serial+1 else σ h)=σ';have sn:σ' (cv x.S i)=x.S.Serial+1:=by subst hσ;exact zb rfl
 have so:∀k,(k=0\/∃j,U7 x.S k j)->σ' k=σ k:=λk hk=>by
  subst hσ;refine za ?_;rcases hk with e | ⟨j,a⟩
  .omega
  .exact old a
 have nd':∀j,Th (Sh.ce x.S j)->j<x.S.S.b7.length->Sh.nd σ' x.S j=Sh.nd σ x.S j:=λj hj hjl=>by
  unfold Sh.nd;congr 1;refine zq λv hv=>so v ?_;rcases hj with h1 | h2
  .have hA:At x.S (cv x.S j) j:=⟨hjl,h1,rfl⟩;have hlv:=(fU hR).2 ⟨j,hA⟩;rw[<-F7 hR hA] at hv;exact Oe hR q.gd (hS.fl _ hlv v hv)
  .rw[((hx.wk j hjl (.inr h2)).2 h2).2.1] at hv;cases hv
 have sn0:Sn σ' x.S m.Nodes:=⟨q.nd.up,λk=>(q.nd.mem k).trans ⟨λ⟨j,a,b,c⟩=>⟨j,a,b,c.trans (nd' j b a).symm⟩,λ⟨j,a,b,c⟩=>⟨j,a,b,c.trans (nd' j b a)⟩⟩⟩;refine⟨⟨?_,λk j a=>?_⟩,?_,?_,?_,q.la,q.npl,?_,?_,?_,q.p1,λk=>?_,?_⟩;·rw[so 0 (.inl rfl)];exact q.gd.z
 .rcases (Oo hR hi h0 hn hp).1 a with b | ⟨rfl,rfl⟩
  .rw[so k (.inr ⟨j,b⟩),q.gd.f k j b];show _=(Sh.ce (dJ x.S i n p) j).Val.Serial;rw[hc,za (yQ hR hi h0 hn hp b)]
  .rw[sn];show _=(Sh.ce (dJ x.S j n p) j).Val.Serial;rw[hc,zb rfl]
 .have:=sn0.add (s':=dJ x.S i n p) hR hi hl (λj hj=>by rw[hc,za hj]) hT0 (by rw[hc,zb rfl];exact .inl rfl) (by rw[hc,zb rfl];show x.S.Serial<x.S.Serial+1;omega);have e:Sh.nd σ' (dJ x.S i n p) i=⟨m.Serial+1,i,p,false,true,false,List.replicate n 0⟩:=by
   unfold Sh.nd;rw[hc,zb rfl];dsimp only;rw[q.se,zC rfl,zQ (by decide),zcf,so 0 (.inl rfl),q.gd.z]
  rw[e] at this;exact this
 .show m.Slots.set i (m.Serial+1)=List.map (λj=>PE (Sh.ce (dJ x.S i n p) j)) (List.range (dJ x.S i n p).S.b7.length);rw[hl,q.sl,vI,q.se];refine U1 λj hj=>?_;rw[hc];by_cases c:j=i
  .rw[zb c,zb c];rfl
  .rw[za c,za c]
 .show m.Gens=List.map (λj=>(Sh.ce (dJ x.S i n p) j).Gen) (List.range (dJ x.S i n p).S.b7.length);rw[hl,q.ge];refine U1 λj hj=>?_;rw[hc];split;·rename_i c;rw[c]
  .rfl
 .show m.Serial+1=x.S.Serial+1;rw[q.se]
 .show m.Roots=x.Roots.map σ';rw[q.ro];exact zq λv hv=>(so v (Oe hR q.gd (hS.rt v hv))).symm
 .show m.b7=x.b7.map (wx σ');rw[q.ce];refine zq λc hcc=>?_;unfold wx;rw[so _ (oK hS hcc)]
 .show k∈m.Pairs↔∃a b,Has x.T a b/\k=⟨σ' a,σ' b⟩;rw[q.p2];have hh:∀a b,Has x.T a b->σ' a=σ a/\σ' b=σ b:=λa b h=>⟨so a (Oe hR q.gd (.inr (hS.pr a b h).1)),so b (Oe hR q.gd (.inr (hS.pr a b h).2))⟩;constructor
  .rintro⟨a,b,h,rfl⟩;exact⟨a,b,h,by rw[(hh a b h).1,(hh a b h).2]⟩
  .rintro⟨a,b,h,rfl⟩;exact⟨a,b,h,by rw[(hh a b h).1,(hh a b h).2]⟩
 .show m.Tasks=x.Q.L.map (tx σ');rw[q.tk];refine zq λt ht=>?_;unfold tx;split
  .rename_i c;rcases (hS.tk t ht).2.2 with d | d
   .rw[so _ (Oe hR q.gd (.inr d.2.1))]
   .rw[d.1] at c;exact absurd c (by decide)
  .rfl
def TJ(m:a8)(n:b8):Bool:=n.Alive&&(!n.Stuck&&Ey m n.Serial==0)
def Nn(n:b8):Bool:=decide (0<=n.Prog) && !n.Started
def vQ(m:a8):a8:=match m.Nodes.find? (TJ m) with
 | none=>m
 | some n=>if Nn n then uB m n.Serial else EN m [n.Serial]
def il:Nat->a8->a8
 | 0,m=>m
 | n+1,m=>il n (vQ m)
theorem mr(n:Nat)(m:a8):il (n+1) m=vQ (il n m):=by
 induction n generalizing m with
 | zero=>rfl
 | succ n ih=>show il (n+1) (vQ m)=_;rw[ih];rfl
def uy(m:a8):a8:=il 100 m
section
variable{σ:Int->Int}{x:Hp}{m:a8}(hx:L1 x)(q:r8 σ x m)
include hx q
theorem r8.zr:m.Nodes.find? (TJ m)=(Sh.zr x).head?.map λh=>Sh.nd σ x.S (E0 h):=by
 have hR:=hx.sh.sr;have e:m.Nodes.filter (TJ m)=(Sh.zr x).map λh=>Sh.nd σ x.S (E0 h):=by
  have:TJ m=λn=>n.Alive&&(!n.Stuck&&Ey m n.Serial==0):=rfl;rw[this,<-zan,zan,pm (λn _=>Bool.and_comm _ _),<-zan,q.nd.alive hR,zct];congr 1;unfold Sh.zr;refine pm λh hh=>?_;have p:=o7 hR hh;show (!decide (12<=(Sh.ce x.S (E0 h)).Val.Strong)&&Ey m (Sh.ce x.S (E0 h)).Val.Serial==0)=_;rw[<-q.gd.f h _ p.d,q.lY hx.sh hh,<-F7 hR p];by_cases c:(ob x.S h).Strong<12
  .have:=hx.fair h hh c;rw[J1] at this;rw[zQ (by omega),za9];simp;omega
  .rw[zC (by omega),za9];simp;omega
 rw[<-List.head?_filter,e,List.head?_map]
theorem r8.GQ:r8 σ (Sh.GQ x) (vQ m):=by
 have hR:=hx.sh.sr;unfold vQ;rw[q.zr hx];cases e:Sh.zr x with
 | nil=>
  rw[nM e];exact q
 | cons z l=>
  rw[kf e];obtain⟨hz,h0⟩:=dm.1 (e▸zg:z∈Sh.zr x);have p:=o7 hR hz;show r8 σ _ (if Nn (Sh.nd σ x.S (E0 z)) then uB m (Sh.ce x.S (E0 z)).Val.Serial else EN m [(Sh.ce x.S (E0 z)).Val.Serial]);rw[<-q.gd.f z _ p.d,F7 hR p];show r8 σ _ (if due (Sh.ce x.S (E0 z)).Val then _ else _);split;·exact q.gN hx.sh hx.fair hz
  .exact q.gS hx (ds:=[z]) (me.2 ⟨by simp,zb2⟩) (λd hd=>by rw[zp] at hd;rw[hd];exact hz) λd hd=>by
    rw[zp] at hd;rw[hd,h0];decide
end
theorem r8.oD{σ:Int->Int}{x:Hp}{m:a8}(hx:L1 x)(q:r8 σ x m):∀n,r8 σ (Sh.oD n x) (il n m)
 | 0=>q
 | n+1=>by
  rw[Sh.fO,mr];exact (r8.oD hx q n).GQ (Q3 hx n)
theorem r8.bI{σ:Int->Int}{x:Hp}{m:a8}(hx:L1 x)(q:r8 σ x m):r8 σ (Sh.bI x) (uy m):=q.oD hx 100
theorem Hd{α:Type}{b:Nat}{acc:List α}{x:α}(hb:0<b)(h:(acc.length+1)*b<=140737488355328):app b acc [x]=some (acc ++ [x]):=J3 hb (by simpa using h)
theorem JJ{n b m:Nat}(h:n<=m)(hb:b<=1000)(hm:m<=1000000):n*b<=140737488355328:=by
 have h1:n*b<=1000000*1000:=Nat.mul_le_mul (by omega) hb;omega
theorem kY{α:Type}{b:Nat}{l:List α}{P:α->Option Bool}{p:α->Bool}(hP:∀x∈l,P x=some (p x))(hb:0<b)(hb2:b<=1000)(hl:l.length<=100000) :
  jn (λ(j15:List α)=>some j15) (λκ14=>
  (lp (S:=Int × (List α)) (E:=(List α)) (λ((s17,s18):Int × (List α))=>
   if (decide (s17<(l.length:Int))) then
    jn (λ(j25:List α)=>
     some (.inl (w9 (s17+1),j25))) (λκ24=>
     (ix l s17).bind λv26=>
     (P v26).bind λv27=>
     if v27 then
      (app b s18 [v26]).bind λv28=>
      κ24 v28
     else
     κ24 s18)
   else
   some (.inr s18)) (0,[])).bind λe16=>
  κ14 e16)=some (l.filter p):=by
 show (lp _ _).bind (λe16=>some e16)=_;rw[V7 (f:=_) l (λb x=>if p x then b ++ [x] else b) (λb=>b) (λk b=>b.length<=k) (by omega) (zX _) (λk hk b hb'=>?_) (λb _=>?_)];·rw[a0q,foldl_filter,zci]
 .constructor
  .simp only[jn];rw[zb (by simpa using hk),s7 hk,a0q,hP _ (zh hk),a0q,o0 (by omega)];by_cases c:p l[k]=true
   .rw[c,zb rfl,zb rfl,Hd hb (JJ (m:=1000000) (by omega) hb2 (by omega)),a0q]
   .rw[Bool.not_eq_true] at c;rw[c,za (by simp),za (by simp)]
  .split;·simp;omega
   .omega
 .simp only[];rw[za (by simp)]
theorem map_eq{α β:Type}{b:Nat}{l:List α}{P:α->Option β}{p:α->β}(hP:∀x∈l,P x=some (p x))(hb:0<b)(hb2:b<=1000)(hl:l.length<=100000) :
  jn (λ(j10:List β)=>some j10) (λκ9=>
  (lp (S:=Int × (List β)) (E:=(List β)) (λ((s12,s13):Int × (List β))=>
   if (decide (s12<(l.length:Int))) then
    (ix l s12).bind λv16=>
    (P v16).bind λv17=>
    (app b s13 [v17]).bind λv18=>
    some (.inl (w9 (s12+1),v18))
   else
   some (.inr s13)) (0,[])).bind λe11=>
  κ9 e11)=some (l.map p):=by
 show (lp _ _).bind (λe16=>some e16)=_;have key:∀(l:List α) (acc:List β),l.foldl (λb x=>b ++ [p x]) acc=acc++l.map p:=by
  intro l;induction l with
  | nil=>intro acc;simp
  | cons x l ih=>intro acc;rw[zal,ih];simp
 rw[V7 (f:=_) l (λb x=>b ++ [p x]) (λb=>b) (λk b=>b.length<=k) (by omega) (zX _) (λk hk b hb'=>?_) (λb _=>?_)];·rw[a0q,key,zci]
 .constructor
  .simp only[];rw[zb (by simpa using hk),s7 hk,a0q,hP _ (zh hk),a0q,Hd hb (JJ (m:=1000000) (by omega) hb2 (by omega)),a0q,o0 (by omega)]
  .simp;omega
 .simp only[];rw[za (by simp)]
theorem Fz{α:Type}{l:List α}{P:α->Option Bool}{p:α->Bool}(hP:∀x∈l,P x=some (p x))(hl:l.length<=1000){a:α}(h:l.find? p=some a):∃k:Nat,∃hk:k<l.length,l[k]=a /\
  jn (λ(_:Unit)=>some (-1)) (λκ6=>
  (lp (S:=Int) (E:=Int ⊕ Unit) (λ(s9:Int)=>
   if (decide (s9<(l.length:Int))) then
    (ix l s9).bind λv11=>
    (P v11).bind λv12=>
    if v12 then
     some (.inr (.inl s9))
    else
    some (.inl (w9 (s9+1)))
   else
   some (.inr (.inr ()))) 0).bind λe8=>
  match e8 with
  | .inl w=>some w
  | .inr w=>κ6 w)=some (k:Int):=by
 obtain⟨h1,k,hk,e,hn⟩:=List.find?_eq_some_iff_getElem.1 h;refine⟨k,hk,e,?_⟩;simp only[jn];refine db l.length (λi=>i<=k) (by omega) (zX _) (λi hi hik=>?_) (λhlk=>by omega);rw[zb (by simpa using hi),s7 hi,a0q,hP _ (zh hi),a0q];rcases zE i k with c | c
 .left;have:=hn i c;simp only[zb7] at this;rw[this,za (by simp),o0 (by omega)];exact⟨rfl,c⟩
 .have:i=k:=by omega
  subst this;right;rw[e,h1,zb rfl];exact⟨_,rfl,rfl⟩
theorem Fy{α:Type}{l:List α}{P:α->Option Bool}{p:α->Bool}(hP:∀x∈l,P x=some (p x))(hl:l.length<=1000)(h:l.find? p=none) :
  jn (λ(_:Unit)=>some (-1)) (λκ6=>
  (lp (S:=Int) (E:=Int ⊕ Unit) (λ(s9:Int)=>
   if (decide (s9<(l.length:Int))) then
    (ix l s9).bind λv11=>
    (P v11).bind λv12=>
    if v12 then
     some (.inr (.inl s9))
    else
    some (.inl (w9 (s9+1)))
   else
   some (.inr (.inr ()))) 0).bind λe8=>
  match e8 with
  | .inl w=>some w
  | .inr w=>κ6 w)=some (-1:Int):=by
 rw[zcg] at h;simp only[jn];refine db l.length (λ_=>True) (by omega) trivial (λi hi _=>.inl ⟨?_,trivial⟩) (λ_=>⟨.inr (),by simp,rfl⟩);have:=h _ (zh hi);rw[Bool.not_eq_true] at this;rw[zb (by simpa using hi),s7 hi,a0q,hP _ (zh hi),a0q,this,za (by simp),o0 (by omega)]
theorem kO{E R:Type}{x:Option E}{e:E}{K:E->Option R}(h:x.bind some=some e):x.bind K=K e:=by
 cases x with
 | none=>cases h
 | some v=>obtain rfl:=zJ h;rfl
theorem EP{α R:Type}{b:Nat}{l:List (List α)}(hb:0<b)(hb2:b<=1000)(hl:l.length<=1000)(hs:l.flatten.length<=100000){K:List α->Option R} :
  (lp (S:=Int × (List α)) (E:=(List α)) (λ((s25,s26):Int × (List α))=>
      if (decide (s25<(l.length:Int))) then
       (ix l s25).bind λv29=>
       (app b s26 v29).bind λv30=>
       some (.inl (w9 (s25+1),v30))
      else
      some (.inr s26)) (0,[])).bind K=K l.flatten:=by
 refine kO (Y8 (t0:=([]:List α)) l.length (λk acc=>acc=(l.take k).flatten) (by omega) (by simp) (λk acc hk e=>.inl ⟨(l.take (k+1)).flatten,?_,rfl⟩) (λacc e=>⟨l.flatten,?_,rfl⟩))
 .subst e;have h2:(l.take (k+1)).flatten=(l.take k).flatten++l[k]:=by
   rw[zt hk,zby];simp
  have h3:(l.take (k+1)).flatten.length<=l.flatten.length:=by
   conv=>rhs;rw[<-zb3 (k+1) l,zby,zL]
   omega
  simp only[];rw[zb (by simpa using hk),s7 hk,a0q,J3 hb (JJ (m:=100000) (by rw[h2,zL] at h3;omega) hb2 (by omega)),a0q,o0 (by omega),h2]
 .subst e;simp only[];rw[za (by simp),zW]
theorem Rr{R:Type}{α:Type}{l:List (List α)}(hl:l.length<=1000)(hs:l.flatten.length<=100000){K:Int->Option R} :
  (lp (S:=Int × Int) (E:=Int) (λ((s48,s49):Int × Int)=>
   if (decide (s49<(l.length:Int))) then
    jn (λ(j54:Int)=>
     some (.inl (j54,w9 (s49+1)))) (λκ53=>
     (ix l s49).bind λv55=>
     if (decide ((w9 (s48+(v55.length:Int)))<0)) then
      none
     else
     κ53 (w9 (s48+(v55.length:Int))))
   else
   some (.inr s48)) (0,0)).bind K=K (l.flatten.length:Int):=by
 refine kO (Sa (t0:=(0:Int)) l.length (λk acc=>acc=((l.take k).flatten.length:Int)) (by omega) (by simp) (λk acc hk e=>⟨((l.take (k+1)).flatten.length:Int),?_,rfl⟩) (λacc e=>⟨(l.flatten.length:Int),?_,rfl⟩))
 .subst e;have h2:(l.take (k+1)).flatten.length=(l.take k).flatten.length+l[k].length:=by
   rw[zt hk,zby];simp
  have h3:(l.take (k+1)).flatten.length<=l.flatten.length:=by
   conv=>rhs;rw[<-zb3 (k+1) l,zby,zL]
   omega
  simp only[jn];rw[zb (by simpa using hk),s7 hk,a0q,vV (by omega) (by omega),za (by simp;omega),o0 (by omega),h2];congr 4
 .subst e;simp only[];rw[za (by simp),zW]
theorem Hi{α:Type}{b:Nat}{z:α}{l:List (List α)}(hb:0<b)(hb2:b<=1000)(hl:l.length<=1000)(hs:l.flatten.length<=100000) :
 jn (λ(j11:Int)=>
  jn (λ(_:Unit)=>
   if (decide ((w9 (j11-(w9 (0-0)))) > 0)) then
    (mk b (w9 (j11-(w9 (0-0)))) z).bind λv14=>
    jn (λ(j23:List α)=>
     some j23) (λκ22=>
     (lp (S:=Int × (List α)) (E:=(List α)) (λ((s25,s26):Int × (List α))=>
      if (decide (s25<(l.length:Int))) then
       (ix l s25).bind λv29=>
       (app b s26 v29).bind λv30=>
       some (.inl (w9 (s25+1),v30))
      else
      some (.inr s26)) (0,[])).bind λe24=>
     κ22 e24)
   else
   jn (λ(j39:List α)=>
    some j39) (λκ38=>
    (lp (S:=Int × (List α)) (E:=(List α)) (λ((s41,s42):Int × (List α))=>
     if (decide (s41<(l.length:Int))) then
      (ix l s41).bind λv45=>
      (app b s42 v45).bind λv46=>
      some (.inl (w9 (s41+1),v46))
     else
     some (.inr s42)) (0,[])).bind λe40=>
    κ38 e40)) (λκ12=>
   if (decide (j11<0)) then
    none
   else
   κ12 ())) (λκ10=>
  (lp (S:=Int × Int) (E:=Int) (λ((s48,s49):Int × Int)=>
   if (decide (s49<(l.length:Int))) then
    jn (λ(j54:Int)=>
     some (.inl (j54,w9 (s49+1)))) (λκ53=>
     (ix l s49).bind λv55=>
     if (decide ((w9 (s48+(v55.length:Int)))<0)) then
      none
     else
     κ53 (w9 (s48+(v55.length:Int))))
   else
   some (.inr s48)) (0,0)).bind λe47=>
  κ10 e47)=some l.flatten:=by
 refine (Rr hl hs).trans ?_;simp only[jn];have h0:w9 (0-0)=0:=rfl;rw[za (by simp),h0,Int.sub_zero,vV (by omega) (by omega)];have hm:mk b ((l.flatten.length:Nat):Int) z=some (List.replicate l.flatten.length z):=kU (by rw[Nat.mul_comm];have:=JJ (n:=l.flatten.length) (m:=100000) hs hb2 (by omega);omega) (by omega);split
 .rw[hm,a0q];exact EP hb hb2 hl hs
 .exact EP hb hb2 hl hs
structure Bn (m:a8):Prop where
 nl:m.Nodes.length<=24
 up:m.Nodes.Pairwise λa b=>a.Serial<b.Serial
 fl:∀n∈m.Nodes,n.Fields.length<=4
 sg:∀n∈m.Nodes,0<=n.Slot/\n.Slot.toNat<m.Slots.length/\n.Slot.toNat<m.Gens.length
 gg:∀g∈m.Gens,0<=g/\g<=9
 gl:m.Slots.length<=24/\m.Gens.length<=24
structure Bl (m:a8):Prop where
 rl:m.Roots.length<=30
 wl:m.b7.length<=30
 pa:m.Pairs.length<=30
 tl:m.Tasks.length<=200
theorem r8.bn{σ:Int->Int}{x:Hp}{m:a8}(hR:SR x.S)(q:r8 σ x m):Bn m:=by
 refine⟨q.nd.len hR,q.nd.up,λn hn=>?_,λn hn=>?_,λg hg=>?_,?_,?_⟩
 .obtain⟨i,hi,ti,rfl⟩:=(q.nd.mem n).1 hn;show ((Sh.ce x.S i).Val.Fields.map σ).length<=4;rw[zl];exact (hR.ok i hi ti).fl
 .obtain⟨i,hi,ti,rfl⟩:=(q.nd.mem n).1 hn;rw[q.sl,q.ge,zl,zl,zb9];unfold Sh.nd;simp;exact hi
 .rw[q.ge] at hg;obtain⟨i,hi,rfl⟩:=zw.1 hg;have:=hR.cell i (za7.1 hi);have:=hR.l9;omega
 .rw[q.sl,zl,zb9];exact hR.len
 .rw[q.ge,zl,zb9];exact hR.len
theorem r8.bl{σ:Int->Int}{x:Hp}{m:a8}(hS:jt x)(q:r8 σ x m):Bl m:=by
 refine⟨?_,?_,?_,?_⟩;·rw[q.ro,zl,hS.r6];omega
 .rw[q.ce,zl,hS.c6];omega
 .rw[(q.perm hS).length_eq,zl];have:=rV hS.hr.l8;omega
 .rw[q.tk,zl];have:=hS.q30;omega
theorem Yy(m:a8):Ey m 0=0:=by
 have h:∀l:List Int,T3 l 0=0:=λl=>by unfold T3;rw[zb rfl]
 unfold Ey;rw[h,h,h];have:((m.Nodes.filter (·.Alive)).map λn=>T3 n.Fields 0)=(m.Nodes.filter (·.Alive)).map λ_=>0:=zq λn _=>h _;rw[this];have hz:∀l:List b8,(l.map λ_=>0).sum=0:=λl=>by
  induction l with
  | nil=>rfl
  | cons a l ih=>rw[zU,zbg,ih]
 rw[hz]
theorem yO(m:a8):X8 m=some ⟨m.Tasks,30⟩:=rfl
theorem JM{m:a8}(B:Bn m):B0 m.Nodes=some (m.Nodes.filter (·.Alive)):=by
 unfold B0;exact kY (λn _=>rfl) (by omega) (by omega) (by have:=B.nl;omega)
theorem NA:∀(l:List b8),(∀n∈l,n.Fields.length<=4)->(l.map (·.Fields)).flatten.length<=4*l.length
 | [],_=>by simp
 | n::l,h=>by
  have h1:=NA l λk hk=>h k (zn _ hk);have h2:=h n zg;simp only[zU,List.flatten_cons,zL,zH];omega
theorem wy(y:Int):∀l:List b8,T3 (l.map (·.Fields)).flatten y=(l.map λn=>T3 n.Fields y).sum
 | []=>J1 y
 | x::l=>by rw[zU,List.flatten_cons,G4,wy y l,zU,zbg]
theorem JN{m:a8}(B:Bn m)(C:Bl m)(s:Int):eG m s=some (Ey m s:Int):=by
 have hv:B5 m.Pairs=some (m.Pairs.map (·.Val)):=by
  unfold B5;exact map_eq (λn _=>rfl) (by omega) (by omega) (by have:=C.pa;omega)
 have hh:gy ⟨m.Tasks,30⟩=some (ky m):=PI (q:=⟨m.Tasks,30⟩) (by have:=C.tl;show m.Tasks.length<=1000;omega);have hal:(m.Nodes.filter (·.Alive)).length<=24:=zO (zD ..) B.nl;have hfl:((m.Nodes.filter (·.Alive)).map (·.Fields)).flatten.length<=96:=by
  have:=NA (m.Nodes.filter (·.Alive)) λn hn=>B.fl n (zk.1 hn).1;omega
 have Lv:(ky m).length<=200:=by
  unfold ky pc;rw[zl];exact zO (zD ..) C.tl
 have eF:(m.Pairs.map (·.Val)).length<=30:=by rw[zl];exact C.pa
 unfold eG;simp only[jn];rw[show kV m=some m from rfl,a0q,hv,a0q,yO,a0q,hh,a0q,JM B,a0q];refine (kO (e:=[m.Roots,m.Pairs.map (·.Val),ky m]++(m.Nodes.filter (·.Alive)).map (·.Fields)) (Y8 (t0:=[m.Roots,m.Pairs.map (·.Val),ky m]) (m.Nodes.filter (·.Alive)).length (λk acc=>acc = [m.Roots,m.Pairs.map (·.Val),ky m]++((m.Nodes.filter (·.Alive)).take k).map (·.Fields)) (by omega) (by simp) (λk acc hk e=>.inl ⟨_,?_,rfl⟩) (λacc e=>⟨acc,?_,?_⟩))).trans ?_
 .subst e;simp only[];rw[zb (by simpa using hk),s7 hk,a0q,Hd (by omega) (by
   rw[zL,zl,zaf];simp;omega),a0q,o0 (by omega),zt hk,q9,zah]
  rfl
 .simp only[];rw[za (by simp)]
 .subst e;rw[zW]
 .have hlen:([m.Roots,m.Pairs.map (·.Val),ky m]++(m.Nodes.filter (·.Alive)).map (·.Fields)).length<=30:=by
   rw[zL,zl];simp;omega
  have hfla:([m.Roots,m.Pairs.map (·.Val),ky m]++(m.Nodes.filter (·.Alive)).map (·.Fields)).flatten.length<=400:=by
   rw[zby,zL];simp only[List.flatten_cons,List.flatten_nil,zat,zL];have:=C.rl;omega
  have hc:G3 ([m.Roots,m.Pairs.map (·.Val),ky m]++(m.Nodes.filter (·.Alive)).map (·.Fields))=some ([m.Roots,m.Pairs.map (·.Val),ky m]++(m.Nodes.filter (·.Alive)).map (·.Fields)).flatten:=by
   unfold G3;exact Hi (by omega) (by omega) (by omega) (by omega)
  rw[hc,a0q];have hn:Ey m s=T3 ([m.Roots,m.Pairs.map (·.Val),ky m]++(m.Nodes.filter (·.Alive)).map (·.Fields)).flatten s:=by
   rw[zby,G4,wy];simp only[List.flatten_cons,List.flatten_nil,zat,G4];unfold Ey;omega
  rw[hn];generalize ([m.Roots,m.Pairs.map (·.Val),ky m]++(m.Nodes.filter (·.Alive)).map (·.Fields)).flatten=l at hfla |-;refine Y8 (t0:=(0:Int)) l.length (λk acc=>acc=(T3 (l.take k) s:Int)) (by omega) (by simp[J1]) (λk acc hk e=>.inl ⟨_,?_,rfl⟩) (λacc e=>⟨_,?_,rfl⟩)
  .subst e;have hlt:=Ir (l.take k) s;rw[zaf] at hlt;rw[zt hk,G4,I8,J1];simp only[];rw[zb (by simpa using hk),s7 hk,a0q,o0 (by omega)];by_cases c:l[k]=s/\s≠0
   .rw[zb (by simpa using ⟨c.2,c.1⟩),zb c,vV (by omega) (by omega)];congr 4
   .rw[za (by simpa using λa b=>c ⟨b,a⟩),za c];rfl
  .subst e;simp only[];rw[za (by simp),zW]
theorem yJ{m:a8}(B:Bn m){s:Int}{n:b8}(h:m.Nodes.find? (λn=>n.Serial==s)=some n):∃k:Nat,∃hk:k<m.Nodes.length,m.Nodes[k]=n/\K0 m s=some (k:Int):=by
 obtain⟨k,hk,e,r⟩:=Fz (P:=λa=>fy a s) (p:=λn=>n.Serial==s) (λn _=>rfl) (by have:=B.nl;omega) h;refine⟨k,hk,e,?_⟩;unfold K0 z7;exact ss r rfl
theorem Sd{m:a8}(B:Bn m){s:Int}(h:m.Nodes.find? (λn=>n.Serial==s)=none):K0 m s=some (-1):=by
 have r:=Fy (P:=λa=>fy a s) (p:=λn=>n.Serial==s) (λn _=>rfl) (by have:=B.nl;omega) h;unfold K0 z7;exact ss r rfl
theorem lM{l:List b8}{s:Int}{n:b8}(h:l.find? (λn=>n.Serial==s)=some n):n.Serial=s/\n∈l:=by
 have:=List.find?_some h;exact⟨by simpa using this,List.mem_of_find?_eq_some h⟩
theorem Rt{l:List b8}(up:l.Pairwise λa b=>a.Serial<b.Serial){k:Nat}(hk:k<l.length){s:Int}(hs:l[k].Serial=s)(f:b8->b8):l.set k (f l[k])=ja l s f:=by
 unfold ja;refine zb1 (by simp) λj h1 h2=>?_;rw[zcq,ut];rw[zl] at h2;by_cases c:k=j
 .subst c;rw[zb rfl,zb hs]
 .have hne:l[j].Serial≠s:=by
   rw[<-hs];rcases zE k j with d | d
   .have:=za5.1 up k j hk h2 d;omega
   .have:=za5.1 up j k h2 hk (by omega);omega
  rw[za c,za hne]
theorem sH{m:a8}(B:Bn m){s:Int}{n:b8}(h:m.Nodes.find? (λn=>n.Serial==s)=some n){F:b8->Option b8}{f:b8->b8}(hF:∀k,F k=some (f k)) :
  ((K0 m s).bind λv1=>(r7 m.Nodes).bind λv2=>(ix v2 v1).bind λv3=>(F v3).bind λv4=>
   some (⟨(v2.set (v1).toNat v4),m.Slots,m.Gens,m.Last,m.Places,m.Serial,m.Roots,m.b7,m.Pairs,m.Tasks,m.Progs⟩:a8))=some (AW m (ja m.Nodes s f)):=by
 obtain⟨k,hk,e,r⟩:=yJ B h;have hc:r7 m.Nodes=some m.Nodes:=dI (by omega) (JJ (m:=24) B.nl (by omega) (by omega));rw[r,a0q,hc,a0q,s7 hk,a0q,hF,a0q];rw[zP,Rt B.up hk (s:=s) (by rw[e];exact (lM h).1)]
theorem Se{m:a8}(B:Bn m){s:Int}{n:b8}(h:m.Nodes.find? (λn=>n.Serial==s)=some n):R3 m s=some (uC m s):=sH B h λ_=>rfl
theorem Wa{m:a8}(B:Bn m){s:Int}{n:b8}(h:m.Nodes.find? (λn=>n.Serial==s)=some n):N6 m s=some (AW m (ja m.Nodes s Gx)):=sH B h λ_=>rfl
theorem Yl{m:a8}(B:Bn m){s:Int}{n:b8}(h:m.Nodes.find? (λn=>n.Serial==s)=some n):D2 m s=some (AW m (ja m.Nodes s qD)):=sH B h λ_=>rfl
theorem VZ{m:a8}(B:Bn m){s:Int}{n:b8}(h:m.Nodes.find? (λn=>n.Serial==s)=some n)(l:List Int):P1 m s l=some (AW m (ja m.Nodes s λn=>XT n l)):=sH B h (F:=λk=>fA k l) λ_=>rfl
theorem Bn.ja{m:a8}(B:Bn m){s:Int}{f:b8->b8}(h:∀n∈m.Nodes,n.Serial=s->(f n).Serial=n.Serial/\(f n).Slot=n.Slot/\(f n).Fields.length<=4):Bn (AW m (Sh.ja m.Nodes s f)):=by
 have hser:∀n∈m.Nodes,(if n.Serial=s then f n else n).Serial=n.Serial/\(if n.Serial=s then f n else n).Slot=n.Slot/\(if n.Serial=s then f n else n).Fields.length<=4:=λn hn=>by
  split;·rename_i e;exact h n hn e
  .exact⟨rfl,rfl,B.fl n hn⟩
 refine⟨by show (Sh.ja m.Nodes s f).length<=24;unfold Sh.ja;rw[zl];exact B.nl,?_,λn hn=>?_,λn hn=>?_,B.gg,B.gl⟩
 .show (Sh.ja m.Nodes s f).Pairwise _;unfold Sh.ja;rw[zbn];refine za8 (λ{a b} ha hb q=>?_) B.up;rw[(hser a ha).1,(hser b hb).1];exact q
 .obtain⟨k,hk,rfl⟩:=zw.1 (show n∈Sh.ja m.Nodes s f from hn);exact (hser k hk).2.2
 .obtain⟨k,hk,rfl⟩:=zw.1 (show n∈Sh.ja m.Nodes s f from hn);rw[(hser k hk).2.1];exact B.sg k hk
theorem Bn.lk{m:a8}(B:Bn m)(s:Int):Bn (lk m s):=by
 unfold Sh.lk;split;·exact B.ja λn hn _=>⟨rfl,rfl,B.fl n hn⟩
 .exact B
theorem Dl{m:a8}(B:Bn m)(C:Bl m){s:Int}(h:s=0\/∃n,m.Nodes.find? (λn=>n.Serial==s)=some n):dX m s=some (lk m s):=by
 unfold dX lk;rw[JN B C,a0q];by_cases c:Ey m s<11
 .rw[zb (by simp;omega),za (by omega)]
 .have h0:s≠0:=λe=>by subst e;rw[Yy] at c;omega
  obtain⟨n,hn⟩:=h.resolve_left h0;rw[za (by simp;omega),zb ⟨h0,by omega⟩,Se B hn,a0q]
theorem yL{m:a8}(B:Bn m)(C:Bl m){s:Int}(h:s=0\/∃n,m.Nodes.find? (λn=>n.Serial==s)=some n){r:Nat}(hr:r<m.Roots.length):W1 m r s=some (eP m r s):=by
 have hro:(lk m s).Roots=m.Roots:=by rw[bL]
 have hc:y9 m.Roots=some m.Roots:=dI (by omega) (JJ (m:=30) C.rl (by omega) (by omega));unfold W1;rw[Dl B C h,a0q,hro,hc,a0q,s7 hr,a0q,zP];rfl
theorem Ny{m:a8}{s:Int}{n:b8}(h:m.Nodes.find? (λn=>n.Serial==s)=some n):∃n',(lk m s).Nodes.find? (λn=>n.Serial==s)=some n'/\n'.Prog=n.Prog:=by
 unfold lk;split
 .refine⟨Eb n,?_,rfl⟩;show (ja m.Nodes s Eb).find? _=_;rw[yn _ (f:=Eb) (λ_=>rfl),h];rfl
 .exact⟨n,h,rfl⟩
theorem BT{m:a8}(B:Bn m)(C:Bl m){s:Int}{n:b8}(h:m.Nodes.find? (λn=>n.Serial==s)=some n):bf m s=some (uB m s):=by
 obtain⟨n',hn',ep⟩:=Ny h;have B':=B.lk s;obtain⟨k,hk,e,r⟩:=yJ B' hn';unfold bf;rw[Dl B C (.inr ⟨n,h⟩),a0q,r,a0q,s7 hk,a0q,e,Wa B' hn',a0q];have ht:(lk m s).Tasks=m.Tasks:=by rw[bL]
 have hc:G9 m.Tasks=some m.Tasks:=dI (by omega) (JJ (m:=200) C.tl (by omega) (by omega));dsimp only;rw[ht,hc,a0q,Hd (by omega) (JJ (m:=201) (by have:=C.tl;omega) (by omega) (by omega)),a0q,ep];unfold uB HT;rw[h];rw[bL];rfl
theorem yK{m:a8}(B:Bn m)(C:Bl m)(s:Int):P2 m s=some (Ro m s):=by
 unfold P2;cases h:m.Nodes.find? (λn=>n.Serial==s) with
 | none=>
  rw[Sd B h,a0q,MT h];simp[D3]
 | some n=>
  obtain⟨k,hk,e,r⟩:=yJ B h;obtain⟨hs,hm⟩:=lM h;have hd:decide ((k:Int)<0)=false:=zQ (by omega);rw[r,a0q,hd,He h];rw[show (false==false)=true from rfl,fX,s7 hk,a0q,e,zca];have hnm:eN m.b7 s=some (jy m.b7 s:Int):=LI _ (by have:=C.wl;omega) s;cases ha:n.Alive
  .rw[show (false==false)=true from rfl,fX,hnm,a0q,zca];by_cases c:0<jy m.b7 s
   .rw[zb (by simpa using c),zb (.inr c)]
   .rw[za (by simpa using c),za (by simp[c])];obtain⟨g1,g2,g3⟩:=B.sg n hm;have hp:C6 m.Nodes s=some (m.Nodes.filter λk=>k.Serial != s):=by
     unfold C6;exact kY (P:=λa=>cH a s) (λn _=>rfl) (by omega) (by omega) (by have:=B.nl;omega)
    have hc1:y9 m.Slots=some m.Slots:=dI (by omega) (JJ (m:=24) B.gl.1 (by omega) (by omega));have hc2:y9 m.Gens=some m.Gens:=dI (by omega) (JJ (m:=24) B.gl.2 (by omega) (by omega));rw[a0q,hp,a0q,hc1,a0q,hc2,a0q,NU g1 g3,a0q];have hg:m.Gens.getD n.Slot.toNat 0=m.Gens[n.Slot.toNat]:=by rw[zd,zc g3];rfl
    unfold Fo;rw[hg,hs];by_cases d:m.Gens[n.Slot.toNat]=m.Last
    .rw[zb (by simpa using d),NU g1 g2,a0q,zb d,zb d]
    .have hb:=B.gg _ (zh g3);rw[za (by simpa using d),NU g1 g2,a0q,za d,za d,vV (by omega) (by omega)]
  .rw[show (true==false)=false from rfl,JX,a0q];simp
theorem FD(m:a8)(s:Int):(wV m s).Roots=m.Roots/\(wV m s).b7=m.b7/\(wV m s).Pairs=m.Pairs/\(wV m s).Tasks=m.Tasks/\(wV m s).Progs=m.Progs:=by
 unfold wV Ro;split;·exact⟨rfl,rfl,rfl,rfl,rfl⟩
 .split <;> exact⟨rfl,rfl,rfl,rfl,rfl⟩
theorem Bl.wV{m:a8}(C:Bl m)(s:Int):Bl (wV m s):=by
 obtain⟨a,b,c,d,_⟩:=FD m s;exact⟨by rw[a];exact C.rl,by rw[b];exact C.wl,by rw[c];exact C.pa,by rw[d];exact C.tl⟩
theorem Ym{m:a8}(B:Bn m)(C:Bl m){s:Int}{n:b8}(h:m.Nodes.find? (λn=>n.Serial==s)=some n):((D2 m s).bind λv21=>P2 v21 s)=some (wV m s):=by
 rw[Yl B h,a0q,yK (B.ja (s:=s) (f:=qD) λn hn _=>⟨rfl,rfl,zX _⟩) ⟨C.rl,C.wl,C.pa,C.tl⟩];rfl
theorem NW{σ:Int->Int}{x:Hp}{m:a8}(hR:SR x.S)(q:r8 σ x m)(C:Bl m){ds:List Int}(hl:ds.length<=24)(hn:ds.Nodup)(hm:∀d∈ds,d∈lv x.S/\(ob x.S d).Strong<12/\(ob x.S d).Weak=Sh.jy x.b7 d)(hi:∀d∈ds,∀c∈x.b7,σ c.Target=σ d->c.Target=d){R:Type}{K:a8->Option R} :
  (lp (S:=Int × a8) (E:=a8) (λ((s16,s17):Int × a8)=>
   if (decide (s16<((ds.map σ).length:Int))) then
    (ix (ds.map σ) s16).bind λv20=>
    (D2 s17 v20).bind λv21=>
    (P2 v21 v20).bind λv22=>
    some (.inl (w9 (s16+1),v22))
   else
   some (.inr s17)) (0,m)).bind K=K ((ds.map σ).foldl Sh.wV m):=by
 refine kO (Y8 (t0:=m) ds.length (λk acc=>acc=(((ds.take k).map σ).foldl Sh.wV m)/\Bl acc) (by omega) ⟨by simp,C⟩ (λk acc hk e=>.inl ⟨_,?_,rfl,e.2.wV (σ ds[k]) |> λh=>?_⟩) (λacc e=>⟨acc,?_,?_⟩))
 .obtain⟨rfl,C'⟩:=e;have hsub:∀d∈ds.take k,d∈ds:=λd hd=>zad hd;have Q:=r8.VS (ds.take k) hR q (hn.sublist (zb8 ..)) (λd hd=>hm d (hsub d hd)) λd hd=>hi d (hsub d hd);obtain⟨r1,r2⟩:=yH (y:=x) hR hn (λd hd=>(hm d hd).1) hk;have hf:=Q.find r1 (o7 r1 r2).d;have hstep:=Ym (Q.bn r1) C' hf;simp only[];rw[zb (by simpa using hk),s7 (by simpa using hk),a0q,ut];have:((D2 ((List.map σ (List.take k ds)).foldl Sh.wV m) (σ ds[k])).bind λv21=>(P2 v21 (σ ds[k])).bind λv22=>some (Sum.inl (β:=a8) (w9 ((k:Int)+1),v22)))=some (Sum.inl (((k+1:Nat):Int),Sh.wV ((List.map σ (List.take k ds)).foldl Sh.wV m) (σ ds[k]))):=by
   rw[<-Option.bind_assoc,hstep,a0q,o0 (by omega)]
  rw[this,zt hk,q9,zaq];rfl
 .rw[zt hk,q9,zaq];rw[e.1] at h;exact h
 .simp only[];rw[za (by simp)]
 .rw[e.1,zW]
theorem FH{σ:Int->Int}{x:Hp}{m:a8}(hx:L1 x)(q:r8 σ x m){ds:List Int}(hn:ds.Nodup)(hm:∀d∈ds,d∈lv x.S)(hs:∀d∈ds,(ob x.S d).Strong<12):fp m (ds.map σ)=some (EN m (ds.map σ)):=by
 have hS:=hx.sh;have hR:=hS.sr;have C:=q.bl hS;have hlen:ds.length<=24:=zO (ae hn hm) (K8 (y8.2 hR));have hln:(ds.map σ).length<=24:=by rw[zl];exact hlen
 have hcl:(cls m.b7 (ds.map σ)).length<=30:=by
  unfold cls;refine zO (zD ..) ?_;rw[zb9];exact C.wl
 have hct:(kl m.b7 (ds.map σ)).length<=30:=by rw[mU];exact hcl
 have h2:C2 (tD (cls m.b7 (ds.map σ))) (nT m.b7 (ds.map σ))=some (kl m.b7 (ds.map σ)):=by
  unfold C2;refine (map_eq (P:=λa=>fq a (nT m.b7 (ds.map σ))) (p:=λa:Int=>(⟨2,a,((nT m.b7 (ds.map σ)).getD a.toNat cz).Call⟩:g6)) (λa ha=>?_) (by omega) (by omega) (by unfold tD;rw[zl];omega)).trans ?_
  .unfold tD at ha;obtain⟨w,hw,rfl⟩:=zw.1 ha;have hwl:w<(nT m.b7 (ds.map σ)).length:=by unfold nT;rw[zl];exact Hl hw
   unfold fq;rw[s7 hwl,a0q,zP,zd,zc hwl];rfl
  .unfold kl tD;rw[za1];congr 1;refine zq λw hw=>?_;have hwl:=Hl hw;show (⟨2,(w:Int),_⟩:g6)=_;congr 1;unfold nT;rw[zP,zd,zB,zc hwl,zd,zc hwl];exact (uW _ _).2.1
 have h3:F9 [m.Tasks,kl m.b7 (ds.map σ)]=some (m.Tasks++kl m.b7 (ds.map σ)):=by
  unfold F9;refine (Hi (by omega) (by omega) (by simp) (by have:=C.tl;simp;omega)).trans ?_;simp
 have h4:D5 m.Pairs (ds.map σ)=some (m.Pairs.filter λp=>decide (p.Key∉ds.map σ)):=by
  unfold D5;refine kY (P:=λa=>fu a (ds.map σ)) (λp _=>?_) (by omega) (by omega) (by have:=C.pa;omega);unfold fu;rw[contains_eq _ _ (by omega),a0q];congr 1;by_cases c:p.Key∈ds.map σ
  .simp[c]
  .simp[c]
 unfold fp;simp only[jn];rw[ET _ _ (by have:=C.wl;omega) (by omega),a0q,h2,a0q,h3,a0q,h4,a0q];have q1:=q.TO hx hn hm;have C1:Bl (XA (Iz (Xm m (nT m.b7 (ds.map σ))) (m.Tasks++kl m.b7 (ds.map σ))) (m.Pairs.filter λp=>decide (p.Key∉ds.map σ))):=by
  refine⟨C.rl,?_,?_,?_⟩
  .show (nT m.b7 (ds.map σ)).length<=30;unfold nT;rw[zl];exact C.wl
  .exact zO (zD ..) C.pa
  .show (m.Tasks++kl m.b7 (ds.map σ)).length<=200;rw[zL];have:m.Tasks.length<=30:=by rw[q.tk,zl];exact hS.q30
   omega
 refine (NW (x:=(⟨x.S,x.Roots,nT x.b7 ds,(lE x.T ds).1,⟨x.Q.L++kl x.b7 ds,x.Q.Cap⟩⟩:Hp)) hR q1 C1 hlen hn (λd hd=>⟨hm d hd,hs d hd,?_⟩) λd hd c hc e=>?_).trans rfl
 .show (ob x.S d).Weak=(Sh.jy (nT x.b7 ds) d:Int);have p:=o7 hR (hm d hd);rw[Du,F7 hR p];have:=(hx.wk _ p.1 p.d.2.1).1;rw[<-p.2.2] at this;exact this
 .refine q.gd.Xv hR ?_ (.inr ⟨_,(o7 hR (hm d hd)).d⟩) e;have hc:c∈nT x.b7 ds:=hc;unfold nT at hc;obtain⟨c',hc',rfl⟩:=zw.1 hc;rw[(uW ds c').1];exact oK hS hc'
theorem Ck{m:a8}(h:m.Nodes.find? (TJ m)=none):vQ m=m:=by
 unfold vQ;rw[h]
theorem Ml{m:a8}{n:b8}(h:m.Nodes.find? (TJ m)=some n):vQ m=if Nn n then uB m n.Serial else EN m [n.Serial]:=by
 unfold vQ;rw[h]
theorem lQ{σ:Int->Int}{x:Hp}{m:a8}(hx:L1 x)(q:r8 σ x m):I0 m=some (uy m):=by
 obtain⟨n,h48,hz,hj,he⟩:=vM hx;have hM:uy m=il n m:=by
  have hfix:vQ (il n m)=il n m:=by
   refine Ck ?_;rw[(q.oD hx n).zr (Q3 hx n),hz];rfl
  have key:∀k,il (n+k) m=il n m:=λk=>by
   induction k with
   | zero=>rfl
   | succ k ih=>rw[<-rg,mr,ih,hfix]
  have:=key (100-n);rw[show n+(100-n)=100 by omega] at this;exact this
 unfold I0;rw[hM];have hP:∀k,∀a∈(il k m).Nodes,aX a (il k m)=some (TJ (il k m) a):=λk a _=>by
  have qk:=q.oD hx k;have B:=qk.bn (Q3 hx k).sh.sr;have C:=qk.bl (Q3 hx k).sh;unfold aX TJ;cases a.Alive <;> cases a.Stuck
  .rfl
  .rfl
  .show ((D3 true 0 (eG (il k m) a.Serial)).bind _)=_;rw[fX,JN B C,a0q];refine wd some ?_;generalize Ey (il k m) a.Serial=c;by_cases c0:c=0
   .subst c0;rfl
   .have h1:((c:Int)==0)=false:=by simpa using c0
    have h2:(c==0)=false:=by simpa using c0
    rw[h1,h2];rfl
  .rfl
 refine kO (K:=some) (lP (κ:=some) (λk=>il k m) rfl n (λ_=>True) (by omega) trivial (λk hk _=>.inl ⟨?_,trivial⟩) (λ_=>⟨il n m,?_,rfl⟩))
 .have hxk:=Q3 hx k;have qk:=q.oD hx k;have B:=qk.bn hxk.sh.sr;have C:=qk.bl hxk.sh;have hR:=hxk.sh.sr;cases ez:zr (oD k x) with
  | nil=>exact absurd ez (hj k hk)
  | cons z l=>
   obtain⟨hzl,h0⟩:=dm.1 (ez▸zg:z∈zr (oD k x));have p:=o7 hR hzl;have hf:=qk.zr hxk;rw[ez] at hf;have hf:(il k m).Nodes.find? (TJ (il k m))=some (Sh.nd σ (oD k x).S (E0 z)):=hf;obtain⟨i,hi,e,r⟩:=Fz (hP k) (by have:=B.nl;omega) hf;have r':y4 (il k m).Nodes (il k m)=some (i:Int):=r;have hser:(Sh.nd σ (oD k x).S (E0 z)).Serial=σ z:=(qk.gd.f z _ p.d).symm;have hfn:=qk.find hR p.d;rw[r',a0q,za (by simp),s7 hi,a0q,e];rw[show dx (Sh.nd σ (oD k x).S (E0 z))=some (Nn (Sh.nd σ (oD k x).S (E0 z))) from rfl,a0q,mr];rw[Ml hf,hser];split;·rw[BT B C hfn,a0q]
   .have hb:=FH hxk qk (ds:=[z]) (me.2 ⟨by simp,zb2⟩) (λd hd=>by rw[zp] at hd;rw[hd];exact hzl) λd hd=>by
     rw[zp] at hd;rw[hd,h0];decide
    rw[show [σ z] = [z].map σ from rfl,hb,a0q]
 .have hf:=(q.oD hx n).zr (Q3 hx n);rw[hz] at hf;have r:=Fy (hP n) (by have:=((q.oD hx n).bn (Q3 hx n).sh.sr).nl;omega) hf;have r':y4 (il n m).Nodes (il n m)=some (-1):=r;rw[r',a0q,zb (by decide)]
theorem Bn.Fo{m:a8}(B:Bn m)(h9:m.Last<=9)(n:b8)(hg:∀g∈m.Gens,g<=m.Last):Bn (Sh.Fo m n)/\∀g∈(Sh.Fo m n).Gens,g<=m.Last:=by
 have hgg:∀g∈(if m.Gens.getD n.Slot.toNat 0=m.Last then m.Gens else m.Gens.set n.Slot.toNat (m.Gens.getD n.Slot.toNat 0+1)),0<=g/\g<=m.Last:=λg hgm=>by
  split at hgm;·exact⟨(B.gg g hgm).1,hg g hgm⟩
  .rename_i c;rcases zE n.Slot.toNat m.Gens.length with hl | hl
   .rcases za3 hgm with q | rfl
    .exact⟨(B.gg g q).1,hg g q⟩
    .rw[zd,zc hl] at c |-;have a:=B.gg _ (zh hl);have b:=hg _ (zh hl);simp only[un] at c |-;omega
   .rw[List.set_eq_of_length_le hl] at hgm;exact⟨(B.gg g hgm).1,hg g hgm⟩
 have hlen:(Sh.Fo m n).Slots.length=m.Slots.length/\(Sh.Fo m n).Gens.length=m.Gens.length:=by
  unfold Sh.Fo;refine⟨by simp,?_⟩;dsimp only;split <;> simp
 refine⟨⟨?_,?_,λk hk=>?_,λk hk=>?_,λg hgm=>?_,by rw[hlen.1,hlen.2];exact B.gl⟩,λg hgm=>(hgg g hgm).2⟩;·exact zO (zD ..) B.nl
 .exact B.up.filter _
 .exact B.fl k (zk.1 (show k∈m.Nodes.filter _ from hk)).1
 .rw[hlen.1,hlen.2];exact B.sg k (zk.1 (show k∈m.Nodes.filter _ from hk)).1
 .have:=hgg g hgm;exact⟨this.1,by omega⟩
def Qf(m:a8):List Int:=m.Roots++(ky m++(m.Nodes.filter (·.Stuck)).map (·.Serial))
inductive GL (m:a8):Int->Prop
 | base {s:Int}:s∈Qf m->GL m s
 | fld {n:b8} {v:Int}:n∈m.Nodes->GL m n.Serial->v∈n.Fields->GL m v
 | prv {p:k7}:p∈m.Pairs->GL m p.Key->GL m p.Val
section
variable{σ:Int->Int}{x:Hp}{m:a8}(hx:L1 x)(q:r8 σ x m)
include hx q
theorem PH{n:b8}(hn:n∈m.Nodes)(hs:n.Stuck=true):∃h∈lv x.S,n=Sh.nd σ x.S (E0 h)/\n.Serial=σ h/\12<=(ob x.S h).Strong:=by
 have hR:=hx.sh.sr;obtain⟨i,hi,ti,rfl⟩:=(q.nd.mem n).1 hn;have h12:12<=(Sh.ce x.S i).Val.Strong:=by simpa[Sh.nd] using hs
 rcases ti with h1 | h2
 .have hA:At x.S (cv x.S i) i:=⟨hi,h1,rfl⟩;have hl:=(fU hR).2 ⟨i,hA⟩;refine⟨cv x.S i,hl,by rw[hA.d.E0 hR],(q.gd.f _ i hA.d).symm,?_⟩;rw[F7 hR hA];exact h12
 .have:=((hx.wk i hi (.inr h2)).2 h2).2.2;omega
theorem Pf{s:Int}(r:GL m s):s=0\/∃h,h∈lv x.S/\s=σ h/\bk x.S x.T (GO x) h:=by
 have hS:=hx.sh;have hR:=hS.sr;have hot:∀h,h∈lv x.S->h∈oz x->bk x.S x.T (GO x) h:=λh hl ho=>.base (Dc hx hl ho) hl;induction r with
 | base hb=>
  unfold Qf at hb;rcases zu.1 hb with a | a
  .rw[q.ro] at a;obtain⟨h,hh,rfl⟩:=zw.1 a;rcases hS.rt h hh with e | hl
   .exact .inl (by rw[e];exact q.gd.z)
   .refine .inr ⟨h,hl,rfl,hot h hl ?_⟩;unfold oz;exact t6 _ (gr.2 ⟨hh,by have:=H5 hR hl;omega⟩)
  .rcases zu.1 a with a | a
   .rw[q.Lv hS] at a;obtain⟨h,hh,rfl⟩:=zw.1 a;obtain⟨t,ht,k,rfl⟩:=lR.1 hh;rcases (hS.tk t ht).2.2 with b | b
    .exact .inr ⟨_,b.2.1,rfl,hot _ b.2.1 (t7 _ hh)⟩
    .rw[b.1] at k;exact absurd k (by decide)
   .obtain⟨n,hn,rfl⟩:=zw.1 a;obtain⟨h,hl,_,e,h12⟩:=PH hx q (zk.1 hn).1 (by simpa using (zk.1 hn).2);exact .inr ⟨h,hl,e,.base (qc.2 ⟨hl,.inr h12⟩) hl⟩
 | fld hn r0 hv ih=>
  rename_i n v;have hp:=q.nd.pos hR hn;obtain⟨h,hl,e,r⟩:=ih.resolve_left (by omega);have p:=o7 hR hl;have en:n=Sh.nd σ x.S (E0 h):=q.nd.one hR hn (q.nd.at hR p.1 p.d.2.1) (by rw[e,q.gd.f h _ p.d];rfl);rw[en] at hv;obtain⟨u,hu,rfl⟩:=zw.1 hv;rw[<-F7 hR p] at hu;rcases hS.fl h hl u hu with e0 | hlu
  .exact .inl (by rw[e0];exact q.gd.z)
  .exact .inr ⟨u,hlu,rfl,.step r (gr.2 ⟨hu,by have:=H5 hR hlu;omega⟩) hlu⟩
 | prv hp r0 ih=>
  rename_i p;obtain⟨k,v,hh,rfl⟩:=(q.p2 p).1 hp;obtain⟨a,b⟩:=hS.pr k v hh;have hk:=q.gd.ps hR a;obtain⟨h,hl,e,r⟩:=ih.resolve_left (by show σ k≠0;omega);have:k=h:=q.gd.inl hR a hl e;subst this;exact .inr ⟨v,b,rfl,.pair hh r b⟩
theorem WN{h:Int}(r:bk x.S x.T (GO x) h):GL m (σ h):=by
 have hS:=hx.sh;have hR:=hS.sr;induction r with
 | base hb hl=>
  rename_i h;refine .base ?_;unfold Qf;rcases (HG hx hb).2 with a | a
  .unfold oz at a;rcases zu.1 a with a | a
   .refine t6 _ ?_;rw[q.ro];exact zcb (gr.1 a).1
   .refine t7 _ (t6 _ ?_);rw[q.Lv hS];exact zcb a
  .refine t7 _ (t7 _ ?_);have p:=o7 hR hl;refine zw.2 ⟨Sh.nd σ x.S (E0 h),zk.2 ⟨q.nd.at hR p.1 p.d.2.1,?_⟩,(q.gd.f h _ p.d).symm⟩;rw[F7 hR p] at a;exact zC a
 | step r ho hl ih=>
  rename_i a b;have hla:=bk.live r;have p:=o7 hR hla;refine .fld (q.nd.at hR p.1 p.d.2.1) (by rw[show (Sh.nd σ x.S (E0 a)).Serial=σ a from (q.gd.f a _ p.d).symm];exact ih) ?_;show σ b∈(Sh.ce x.S (E0 a)).Val.Fields.map σ;rw[<-F7 hR p];exact zcb (gr.1 ho).1
 | pair hh r hl ih=>
  exact .prv ((q.p2 _).2 ⟨_,_,hh,rfl⟩) ih
theorem SX{h:Int}(hl:h∈lv x.S):GL m (σ h)↔bk x.S x.T (GO x) h:=by
 refine⟨λr=>?_,WN hx q⟩;have hR:=hx.sh.sr;have:=q.gd.ps hR hl;obtain⟨k,hk,e,r'⟩:=(Pf hx q r).resolve_left (by omega);rw[q.gd.inl hR hl hk e];exact r'
theorem SY{s:Int}(r:GL m s):s=0\/s∈m.Nodes.map (·.Serial):=by
 have hR:=hx.sh.sr;rcases Pf hx q r with e | ⟨h,hl,rfl,_⟩
 .exact .inl e
 .have p:=o7 hR hl;exact .inr (zw.2 ⟨_,q.nd.at hR p.1 p.d.2.1,(q.gd.f h _ p.d).symm⟩)
end
section
variable{m:a8}(hser:∀s,GL m s->s=0\/s∈m.Nodes.map (·.Serial))(B:Bn m)
include hser B
def Iu(m:a8)(mp:List (Int × Bool)):Nat:=((m.Nodes.map (·.Serial)).filter λs => !(A2 mp s).getD false).length
structure KL (m:a8) (q:c9) (mp:List (Int × Bool)):Prop where
 nd:q.L.Nodup
 cap:q.Cap=(m.Nodes.length:Int)
 iD:∀x∈q.L,Mk mp x/\x≠0
 rc:∀x,Mk mp x->x=0\/GL m x
 z:Mk mp 0
omit hser B in
theorem Tw {mp:List (Int × Bool)} {x:Int} (hx:x∈m.Nodes.map (·.Serial)) (hm:¬Mk mp x):Iu m (p7 mp x true)<Iu m mp:=by
 unfold Iu;refine filter_lt (λy _ h=>?_) x hx (by simpa[Mk] using hm) ?_
 .by_cases q:Mk mp y
  .have:=(dW mp x y).2 (.inr q);unfold Mk at this;rw[this] at h;cases h
  .simpa[Mk] using q
 .have:=(dW mp x x).2 (.inl rfl);unfold Mk at this;rw[this];rfl
omit B in
theorem KL.sub {q:c9} {mp:List (Int × Bool)} (h:KL m q mp):∀y∈q.L,y∈m.Nodes.map (·.Serial):=λy hy=>by
 obtain⟨a,b⟩:=h.iD y hy;exact (hser y ((h.rc y a).resolve_left b)).resolve_left b
omit B in
theorem KL.room {q:c9} {mp:List (Int × Bool)} (h:KL m q mp) {x:Int} (hx:x∈m.Nodes.map (·.Serial)) (hm:¬Mk mp x):q.L.length<m.Nodes.length:=by
 have:(x::q.L).length<=(m.Nodes.map (·.Serial)).length:=ae (me.2 ⟨λk=>hm (h.iD x k).1,h.nd⟩) λy hy=>by
  rcases zM.1 hy with rfl | k
  .exact hx
  .exact KL.sub hser h y k
 simp only[zH,zl] at this;omega
theorem rW{xs:List Int}{q:c9}{mp:List (Int × Bool)}(hlen:xs.length<=1000000)(h0:KL m q mp)(hr:∀x∈xs,x=0\/GL m x) :
  ∃q' mp',lp (S:=Int × c9 × (List (Int × Bool))) (E:=(c9 × (List (Int × Bool)))) (λ((s148,s149,s150):Int × c9 × (List (Int × Bool)))=>
        if (decide (s148<(xs.length:Int))) then
         jn (λ((j156,j157):c9 × (List (Int × Bool)))=>
          some (.inl (w9 (s148+1),j156,j157))) (λκ155=>
          (ix xs s148).bind λv159=>
          if (!((A2 s150 v159).getD (false:Bool))) then
           (D8 s149 v159).bind λv160=>
           κ155 (v160.1,(p7 s150 v159 true))
          else
          κ155 (s149,s150))
        else
        some (.inr (s149,s150))) (0,q,mp)=some (q',mp')/\KL m q' mp'/\(∀x,Mk mp' x↔Mk mp x\/x∈xs)/\(∀x,Mk mp' x->Mk mp x\/x∈q'.L)/\(∀x∈q.L,x∈q'.L)/\2*Iu m mp'+q'.L.length<=2*Iu m mp+q.L.length:=by
 have nl:=B.nl;have:=iC (f:=λ((s148,s149,s150):Int × c9 × (List (Int × Bool)))=>
        if (decide (s148<(xs.length:Int))) then
         jn (λ((j156,j157):c9 × (List (Int × Bool)))=>
          some (.inl (w9 (s148+1),j156,j157))) (λκ155=>
          (ix xs s148).bind λv159=>
          if (!((A2 s150 v159).getD (false:Bool))) then
           (D8 s149 v159).bind λv160=>
           κ155 (v160.1,(p7 s150 v159 true))
          else
          κ155 (s149,s150))
        else
        some (.inr (s149,s150))) (t0:=(q,mp)) xs.length (λk t=>KL m t.1 t.2/\(∀x,Mk t.2 x↔Mk mp x\/x∈xs.take k)/\(∀x,Mk t.2 x->Mk mp x\/x∈t.1.L)/\(∀x∈q.L,x∈t.1.L)/\2*Iu m t.2+t.1.L.length<=2*Iu m mp+q.L.length)
  (λt=>KL m t.1 t.2/\(∀x,Mk t.2 x↔Mk mp x\/x∈xs)/\(∀x,Mk t.2 x->Mk mp x\/x∈t.1.L)/\(∀x∈q.L,x∈t.1.L)/\2*Iu m t.2+t.1.L.length<=2*Iu m mp+q.L.length) (by omega)
  ⟨h0,λx=>by simp,λx h=>.inl h,λx h=>h,zF _⟩ (λk t hk hP=>?_) (λt hP=>?_)
 .obtain⟨⟨q',mp'⟩,h1,h2⟩:=this;exact⟨q',mp',h1,h2⟩
 .obtain⟨q1,m1⟩:=t;obtain⟨p1,p2,p3,p4,p5⟩:=hP;simp only at p1 p2 p3 p4 p5;left;have ht:∀x,x∈xs.take (k+1)↔x∈xs.take k\/x=xs[k]:=λx=>by rw[zt hk,zu,zp]
  simp only[jn,we,hk,wt,zY,s7 hk,a0q];by_cases hm:Mk m1 xs[k]
  .rw[za (by rw[show (A2 m1 xs[k]).getD false=true from hm];decide),o0];refine⟨(q1,m1),rfl,p1,λx=>?_,p3,p4,p5⟩;rw[p2,ht];constructor
   .rintro (a | a);·exact .inl a
    .exact .inr (.inl a)
   .rintro (a | a | rfl);·exact .inl a
    .exact .inr a
    .exact (p2 _).1 hm
  .have hm':(A2 m1 xs[k]).getD false=false:=by simpa[Mk] using hm
   have hk0:xs[k]≠0:=λe=>hm (by rw[e];exact p1.z);have hrc:=(hr _ (zh hk)).resolve_left hk0;have hin:=(hser _ hrc).resolve_left hk0;have hroom:=KL.room hser p1 hin hm;rw[zb (by rw[hm'];decide),Ke (by rw[p1.cap];omega) (by omega),a0q,o0];refine⟨(⟨q1.L ++ [xs[k]],q1.Cap⟩,p7 m1 xs[k] true),rfl,⟨?_,p1.cap,λx hx=>?_,λx hx=>?_,?_⟩,λx=>?_,λx hx=>?_,λx hx=>?_,?_⟩
   .simp only;rw[zbu];refine⟨p1.nd,by simp,λa ha b hb e=>?_⟩;rw[zp] at hb;subst hb;subst e;exact hm (p1.iD _ ha).1
   .simp only[zu,zp] at hx;rw[dW];rcases hx with a | a
    .exact⟨.inr (p1.iD x a).1,(p1.iD x a).2⟩
    .exact⟨.inl a,by rw[a];exact hk0⟩
   .rcases (dW m1 xs[k] x).1 hx with rfl | a
    .exact .inr hrc
    .exact p1.rc x a
   .exact (dW m1 xs[k] 0).2 (.inr p1.z)
   .simp only;rw[dW,p2,ht];constructor
    .rintro (rfl | a | a);·exact .inr (.inr rfl)
     .exact .inl a
     .exact .inr (.inl a)
    .rintro (a | a | a);·exact .inr (.inl a)
     .exact .inr (.inr a)
     .exact .inl a
   .simp only[zu,zp];rcases (dW m1 xs[k] x).1 hx with a | a
    .exact .inr (.inr a)
    .rcases p3 x a with b | b
     .exact .inl b
     .exact .inr (.inl b)
   .simp only[zu];exact .inl (p4 x hx)
   .have:=Tw hin hm;simp only[zL,List.length_singleton];omega
 .obtain⟨q1,m1⟩:=t;refine⟨(q1,m1),?_,?_⟩;·simp only[zbh,zbq,zA,ul]
  .simpa using hP
omit hser in
theorem FK {a:Int} (C:Bl m):P3 m a=some ((m.Pairs.filter λp=>p.Key==a).map (·.Val)):=by
 have pa:=C.pa;have h1:C5 m.Pairs a=some (m.Pairs.filter λp=>p.Key==a):=by
  unfold C5;exact kY (P:=λp=>cJ p a) (λn _=>rfl) (by omega) (by omega) (by omega)
 have hl:(m.Pairs.filter λp=>p.Key==a).length<=30:=zO (zD ..) pa;unfold P3;rw[h1,a0q];refine ss (a:=(m.Pairs.filter λp=>p.Key==a).map (·.Val)) ?_ rfl;unfold E3;exact map_eq (λn _=>rfl) (by omega) (by omega) (by omega)
theorem LG(C:Bl m)(hn0:∀n∈m.Nodes,n.Serial≠0)(hp0:∀p∈m.Pairs,p.Key≠0):∃mp,gM m=some mp/\∀s,Mk mp s↔s=0\/GL m s:=by
 have nl:=B.nl;have hst:D0 m.Nodes=some (m.Nodes.filter (·.Stuck)):=by
  unfold D0;exact kY (λn _=>rfl) (by omega) (by omega) (by omega)
 have hsl:(m.Nodes.filter (·.Stuck)).length<=24:=zO (zD ..) nl;have hss:J4 (m.Nodes.filter (·.Stuck))=some ((m.Nodes.filter (·.Stuck)).map (·.Serial)):=by
  unfold J4;refine ss (a:=(m.Nodes.filter (·.Stuck)).map (·.Serial)) ?_ rfl;unfold B6;exact map_eq (λn _=>rfl) (by omega) (by omega) (by omega)
 have hh:gy ⟨m.Tasks,30⟩=some (ky m):=PI (q:=⟨m.Tasks,30⟩) (by have:=C.tl;show m.Tasks.length<=1000;omega);have Lv:(ky m).length<=200:=by
  unfold ky pc;rw[zl];exact zO (zD ..) C.tl
 have hbl:(Qf m).length<=300:=by
  unfold Qf;rw[zL,zL,zl];have:=C.rl;omega
 have hc:G3 [m.Roots,ky m,(m.Nodes.filter (·.Stuck)).map (·.Serial)]=some (Qf m):=by
  unfold G3;refine (Hi (by omega) (by omega) (by simp) ?_).trans ?_
  .show ([m.Roots,ky m,(m.Nodes.filter (·.Stuck)).map (·.Serial)].flatten).length<=100000;unfold Qf at hbl;simpa using zO hbl (by omega)
  .unfold Qf;simp
 unfold gM bg;rw[hst,a0q,hss,a0q,a0q,yO,a0q,hh,a0q,hc,a0q];have hz0:Mk (p7 [] 0 true) 0:=(dW [] 0 0).2 (.inl rfl);have hzz:∀x,Mk (p7 [] 0 true) x->x=0:=λx h=>((dW [] 0 x).1 h).resolve_right (by simp[Mk,A2]);obtain⟨q0,m0,e0,i0,i1,i2,i3,i4⟩:=rW hser B (xs:=Qf m) (q:=⟨[],(m.Nodes.length:Int)⟩) (mp:=p7 [] 0 true) (by omega) ⟨zb2,rfl,(λx hx=>by cases hx),(λx h=>.inl (hzz x h)),hz0⟩ (λx h=>.inr (.base h));have hu:Iu m (p7 [] 0 true)<=24:=by
  unfold Iu;refine zO (zD ..) ?_;rw[zl];exact nl
 suffices key:∃mp,(lp (S:=c9 × (List (Int × Bool))) (E:=(List (Int × Bool))) (λ((s102,s103):c9 × (List (Int × Bool)))=>
    (I1 s102).bind λv106=>
    if (decide (v106 > 0)) then
     (X9 s102).bind λv107=>
     (K0 m v107.2.1).bind λv108=>
     (ix m.Nodes v108).bind λv109=>
     (lp (S:=Int × c9 × (List (Int × Bool))) (E:=(c9 × (List (Int × Bool)))) (λ((s162,s163,s164):Int × c9 × (List (Int × Bool)))=>
       if (decide (s162<(v109.Fields.length:Int))) then
        jn (λ((j170,j171):c9 × (List (Int × Bool)))=>
         some (.inl (w9 (s162+1),j170,j171))) (λκ169=>
         (ix v109.Fields s162).bind λv173=>
         if (!((A2 s164 v173).getD (false:Bool))) then
          (D8 s163 v173).bind λv174=>
          κ169 (v174.1,(p7 s164 v173 true))
         else
         κ169 (s163,s164))
       else
       some (.inr (s163,s164))) (0,v107.1,s103)).bind λe161=>
     (P3 m v107.2.1).bind λv128=>
     (lp (S:=Int × c9 × (List (Int × Bool))) (E:=(c9 × (List (Int × Bool)))) (λ((s148,s149,s150):Int × c9 × (List (Int × Bool)))=>
        if (decide (s148<(v128.length:Int))) then
         jn (λ((j156,j157):c9 × (List (Int × Bool)))=>
          some (.inl (w9 (s148+1),j156,j157))) (λκ155=>
          (ix v128 s148).bind λv159=>
          if (!((A2 s150 v159).getD (false:Bool))) then
           (D8 s149 v159).bind λv160=>
           κ155 (v160.1,(p7 s150 v159 true))
          else
          κ155 (s149,s150))
        else
        some (.inr (s149,s150))) (0,e161.1,e161.2)).bind λe147=>
     some (.inl (e147.1,e147.2))
    else
    some (.inr s103)) (q0,m0))=some mp/\∀s,Mk mp s↔s=0\/GL m s by
  obtain⟨mp,h1,h2⟩:=key;refine⟨mp,?_,h2⟩;refine (kO (e:=(q0,m0)) ((Option.bind_fun_some _).trans e0)).trans ?_;exact kO ((Option.bind_fun_some _).trans h1)
 refine vk (s0:=(q0,m0)) (λt=>KL m t.1 t.2/\(∀x∈Qf m,Mk t.2 x)/\∀a,Mk t.2 a->a=0\/a∈t.1.L\/((∀n∈m.Nodes,n.Serial=a->∀b∈n.Fields,Mk t.2 b)/\∀p∈m.Pairs,p.Key=a->Mk t.2 p.Val)) (λmp=>∀s,Mk mp s↔s=0\/GL m s) (λt=>2*Iu m t.2+t.1.L.length)
   ⟨i0,λx h1=>(i1 x).2 (.inr h1),λa ha=>?_⟩ (by show 2*Iu m m0+q0.L.length<_;simp only[zag] at i4;omega) ?_
 .rcases i2 a ha with b | b
  .exact .inl (hzz a b)
  .exact .inr (.inl b)
 .rintro⟨q,mp⟩ ⟨p1,p2,p3⟩;simp only at p1 p2 p3 |-;have hq:=ae p1.nd (KL.sub hser p1);rw[zl] at hq;unfold I1;rw[a0q];cases hqL:q.L with
  | nil=>
   right;refine⟨mp,by rw[za (by simp)],λx=>⟨p1.rc x,λh=>?_⟩⟩;rcases h with rfl | h
   .exact p1.z
   .have cl:∀a,Mk mp a->a≠0->(∀n∈m.Nodes,n.Serial=a->∀b∈n.Fields,Mk mp b)/\∀p∈m.Pairs,p.Key=a->Mk mp p.Val:=λa h1 h2=>by
     rcases p3 a h1 with c | c | c
     .exact absurd c h2
     .rw[hqL] at c;cases c
     .exact c
    induction h with
    | base a=>exact p2 _ a
    | fld hn r hv ih=>
     rename_i n v;exact (cl _ ih (hn0 n hn)).1 n hn rfl v hv
    | prv hp r ih=>
     rename_i p;exact (cl _ ih (hp0 p hp)).2 p hp rfl
  | cons a r=>
   left;have hqe:q=⟨a::r,q.Cap⟩:=by rw[<-hqL]
   have haq:a∈q.L:=by rw[hqL];exact zg
   obtain⟨hma,ha0⟩:=p1.iD a haq;have hra:=(p1.rc a hma).resolve_left ha0;have has:=KL.sub hser p1 a haq;obtain⟨n,hf⟩:∃n,m.Nodes.find? (λn=>n.Serial==a)=some n:=by
    obtain⟨k,hk,e⟩:=zw.1 has;exact zab.1 (List.find?_isSome.2 ⟨k,hk,by simpa using e⟩)
   obtain⟨hns,hnm⟩:=lM hf;obtain⟨i,hi,ei,ri⟩:=yJ B hf;have hnd:=p1.nd;rw[hqL] at hnd hq;simp only[zH] at hq;have hfl:=B.fl n hnm;obtain⟨q1,m1,e1',j0,j1,j2,j3,j4⟩:=rW hser B (xs:=n.Fields) (q:=⟨r,q.Cap⟩) (mp:=mp) (by omega) ⟨(me.1 hnd).2,p1.cap,λx hx=>p1.iD x (by rw[hqL];exact zn _ hx),p1.rc,p1.z⟩ (λx h=>.inr (.fld hnm (by rw[hns];exact hra) h));have hvl:((m.Pairs.filter λp=>p.Key==a).map (·.Val)).length<=30:=by
    rw[zl];exact zO (zD ..) C.pa
   obtain⟨q2,m2,e2',k0,k1,k2,k3,k4⟩:=rW hser B (xs:=(m.Pairs.filter λp=>p.Key==a).map (·.Val)) (q:=q1) (mp:=m1) (by omega) j0 (λx h=>by
    obtain⟨p,hp,rfl⟩:=zw.1 h;obtain⟨hp1,hp2⟩:=zk.1 hp;have hk:p.Key=a:=by simpa using hp2
    exact .inr (.prv hp1 (by rw[hk];exact hra)))
   refine⟨(q2,m2),?_,⟨k0,λx h1=>(k1 x).2 (.inl ((j1 x).2 (.inl (p2 x h1)))),λb hb=>?_⟩,?_⟩
   .rw[zb (by simp),hqe,OY (by omega),a0q];simp only;rw[ri,a0q,s7 hi,a0q,ei];refine ss e1' ?_;simp only;rw[FK B C,a0q];exact ss e2' rfl
   .simp only at hb |-;have up1:∀x,Mk m1 x->Mk m2 x:=λx h=>(k1 x).2 (.inl h);have up0:∀x,Mk mp x->Mk m2 x:=λx h=>up1 x ((j1 x).2 (.inl h));rcases k2 b hb with c | c
    .rcases j2 b c with d | d
     .rcases p3 b d with f | f | f
      .exact .inl f
      .rw[hqL] at f;rcases zM.1 f with rfl | f
       .refine .inr (.inr ⟨λk hk hks v hv=>?_,λp hp hpk=>?_⟩)
        .have:k=n:=by
          obtain⟨u,hu,eu⟩:=ww hk;obtain⟨w,hw,ew⟩:=ww hnm;rcases Nat.lt_trichotomy u w with c1 | c1 | c1
          .have:=za5.1 B.up u w hu hw c1;rw[eu,ew] at this;omega
          .subst c1;rw[<-eu,<-ew]
          .have:=za5.1 B.up w u hw hu c1;rw[eu,ew] at this;omega
         rw[this] at hv;exact up1 v ((j1 v).2 (.inr hv))
        .exact (k1 _).2 (.inr (zw.2 ⟨p,zk.2 ⟨hp,by simpa using hpk⟩,rfl⟩))
       .exact .inr (.inl (k3 b (j3 b f)))
      .exact .inr (.inr ⟨λk hk hks v hv=>up0 v (f.1 k hk hks v hv),λp hp hpk=>up0 _ (f.2 p hp hpk)⟩)
     .exact .inr (.inl (k3 b d))
    .exact .inr (.inl c)
   .show 2*Iu m m2+q2.L.length<2*Iu m mp+(a::r).length;simp only[zH] at j4 k4 |-;omega
end
theorem vm{l:List b8}(h:l.length<=1000):J4 l=some (l.map (·.Serial)):=by
 unfold J4;refine ss (a:=l.map (·.Serial)) ?_ rfl;unfold B6;exact map_eq (λn _=>rfl) (by omega) (by omega) (by omega)
theorem r8.EA{σ:Int->Int}{x:Hp}{m:a8}(hR:SR x.S)(q:r8 σ x m):(m.Nodes.filter (·.Alive)).map (·.Serial)=Sh.EA x:=by
 rw[q.nd.alive hR,za1];unfold Sh.EA;refine zq λh hh=>?_;show (Sh.ce x.S (E0 h)).Val.Serial=(ob x.S h).Serial;rw[F7 hR (o7 hR hh)]
theorem Dm{σ:Int->Int}{x:Hp}{m:a8}(hR:SR x.S)(q:r8 σ x m):az m=some (Sh.EA x):=by
 have B:=q.bn hR;unfold az;rw[JM B,a0q,vm (zO (zD ..) (by have:=B.nl;omega)),a0q,q.EA hR]
theorem PF(x:Hp):(EA x).length=(lv x.S).length:=by unfold EA;rw[zl]
theorem XL{p:Prop}{i:Decidable p}(h:¬p):false=@decide p i:=(zQ h).symm
theorem XM{p:Prop}{i:Decidable p}(h:p):true=@decide p i:=(zC h).symm
section
variable{σ:Int->Int}{x:Hp}{m:a8}(hx:L1 x)(q:r8 σ x m)
include hx q
theorem Fi:∀d∈dR x,(ob x.S d).Strong<12:=λd hd=>by
 obtain⟨a,b⟩:=(bA (x:=x)).1 hd;rcases Int.lt_or_le (ob x.S d).Strong 12 with c | c
 .exact c
 .exact absurd (.base (qc.2 ⟨a,.inr c⟩) a) b
theorem LF{mp:List (Int × Bool)}(h:∀s,Mk mp s↔s=0\/GL m s):C3 m.Nodes mp=some ((dR x).map λh=>Sh.nd σ x.S (E0 h)):=by
 have hR:=hx.sh.sr;have B:=q.bn hR;have nl:=B.nl;unfold C3;refine (kY (P:=λn=>bF n mp) (p:=λn=>n.Alive && !((A2 mp n.Serial).getD false)) (λn _=>rfl) (by omega) (by omega) (by omega)).trans ?_;congr 1;rw[<-zan,zan,pm (λn _=>Bool.and_comm _ _),<-zan,q.nd.alive hR,zct];congr 1;unfold dR Xu;refine pm λd hd=>?_;have p:=o7 hR hd;show (!((A2 mp (Sh.ce x.S (E0 d)).Val.Serial).getD false))=_;rw[<-q.gd.f d _ p.d];have h0:σ d≠0:=by have:=q.gd.ps hR hd;omega
 have:(A2 mp (σ d)).getD false=true↔bk x.S x.T (GO x) d:=by
  rw[<-SX hx q hd];exact (h (σ d)).trans ⟨λc=>c.resolve_left h0,.inr⟩
 by_cases c:bk x.S x.T (GO x) d
 .rw[this.2 c];exact XL λe=>e c
 .have hc:(A2 mp (σ d)).getD false=false:=by
   cases e:(A2 mp (σ d)).getD false;·rfl
   .exact absurd (this.1 e) c
  rw[hc];exact XM c
theorem Ld:((dR x).map λh=>Sh.nd σ x.S (E0 h)).filter Nn=(km x).map λh=>Sh.nd σ x.S (E0 h):=by
 have hR:=hx.sh.sr;rw[zct];unfold km;congr 1;refine pm λd hd=>?_;have hl:=cZ hx d hd;have p:=o7 hR hl;rw[F7 hR p];rfl
theorem JO{l:List Int}(hl:∀h∈l,h∈lv x.S):(l.map λh=>Sh.nd σ x.S (E0 h)).map (·.Serial)=l.map σ:=by
 rw[za1];refine zq λh hh=>?_;exact (q.gd.f h _ (o7 hx.sh.sr (hl h hh)).d).symm
end
theorem r8.ZW{σ:Int->Int}{x:Hp}{m:a8}(hx:L1 x)(hS:SL x)(hz:Sh.zr x = [])(q:r8 σ x m){l:List Int}(hn:l.Nodup)(hd:∀h∈l,h∈Sh.lv x.S/\due (Sh.ob x.S h)=true) :
  ∀k,k<=l.length->r8 σ ((l.take k).foldl Sh.gN x) (((l.take k).map σ).foldl uB m)
 | 0,_=>q
 | k+1,h=>by
  have ih:=r8.ZW hx hS hz q hn hd k (by omega);have hsub:∀h∈l.take k,h∈l:=λh hh=>zad hh;have Q:=Ac (l.take k) hx hS hz (hn.sublist (zb8 ..)) λh hh=>hd h (hsub h hh);rw[zt (by omega),q9,zaq,zaq];exact ih.gN Q.rt.sh Q.rt.fair (by rw[Q.lv];exact (hd _ (zh _)).1)
theorem Ax{σ:Int->Int}{x:Hp}{m:a8}(hx:L1 x)(hS:SL x)(hz:Sh.zr x = [])(q:r8 σ x m){l:List Int}(hl:l.length<=24)(hn:l.Nodup)(hd:∀h∈l,h∈Sh.lv x.S/\due (Sh.ob x.S h)=true){R:Type}{K:a8->Option R} :
  (lp (S:=Int × a8) (E:=a8) (λ((s20,s21):Int × a8)=>
   if (decide (s20<((l.map σ).length:Int))) then
    (ix (l.map σ) s20).bind λv24=>
    (bf s21 v24).bind λv25=>
    some (.inl (w9 (s20+1),v25))
   else
   some (.inr s21)) (0,m)).bind K=K ((l.map σ).foldl uB m):=by
 refine kO (Y8 (t0:=m) l.length (λk acc=>acc=((l.take k).map σ).foldl uB m) (by omega) rfl (λk acc hk e=>.inl ⟨_,?_,rfl⟩) (λacc e=>⟨acc,?_,?_⟩))
 .subst e;have Q:=r8.ZW hx hS hz q hn hd k (by omega);have hsub:∀h∈l.take k,h∈l:=λh hh=>zad hh;have D:=Ac (l.take k) hx hS hz (hn.sublist (zb8 ..)) λh hh=>hd h (hsub h hh);have hR':=D.rt.sh.sr;have hlk:l[k]∈lv ((l.take k).foldl gN x).S:=by rw[D.lv];exact (hd _ (zh hk)).1
  simp only[];rw[zb (by simpa using hk),s7 (by simpa using hk),a0q,ut,BT (Q.bn hR') (Q.bl D.rt.sh) (Q.find hR' (o7 hR' hlk).d),a0q,o0 (n:=k) (by omega),zt hk,q9,zaq];rfl
 .simp only[];rw[za (by simp)]
 .rw[e,zW]
theorem Ji(m:a8)(l:List Int):(EN m l).Progs=m.Progs:=by
 unfold EN;have key:∀(l:List Int) (m:a8),(l.foldl wV m).Progs=m.Progs:=λl=>by
  induction l with
  | nil=>exact λm=>rfl
  | cons s l ih=>exact λm=>(ih (wV m s)).trans (FD m s).2.2.2.2
 exact key l _
theorem Ky(m:a8)(s:Int):(uB m s).Progs=m.Progs:=by
 show (lk m s).Progs=m.Progs;rw[bL]
theorem Tr(l:List Int):∀m:a8,(l.foldl uB m).Progs=m.Progs:=by
 induction l with
 | nil=>exact λm=>rfl
 | cons s l ih=>exact λm=>(ih (uB m s)).trans (Ky m s)
theorem xG(m:a8):(uy m).Progs=m.Progs:=by
 have h1:∀m:a8,(vQ m).Progs=m.Progs:=λm=>by
  unfold vQ;split;·rfl
  .split;·exact Ky ..
   .exact Ji ..
 have:∀n,(il n m).Progs=m.Progs:=λn=>by
  induction n with
  | zero=>rfl
  | succ n ih=>rw[mr,h1,ih]
 exact this 100
theorem FI{σ:Int->Int}{x:Hp}{m:a8}(hx:L1 x)(hS:SL x)(hz:Sh.zr x = [])(q:r8 σ x m):∃m',dK m=some (m',⟨MZ x-((km x).length:Int),0⟩)/\r8 σ (AT x) m'/\m'.Progs=m.Progs:=by
 have hR:=hx.sh.sr;have B:=q.bn hR;have C:=q.bl hx.sh;obtain⟨mp,h1,h2⟩:=LG (λs r=>SY hx q r) B C (λn hn=>by have:=q.nd.pos hR hn;omega) (λp hp=>by
  obtain⟨k,v,hh,rfl⟩:=(q.p2 p).1 hp;have:=q.gd.ps hR (hx.sh.pr k v hh).1;show σ k≠0;omega)
 have hgl:(dR x).length<=24:=zO (ae (eW hx) (cZ hx)) (K8 (y8.2 hR));have hbl:(km x).length<=24:=zO (zD ..) hgl;have hbs:J4 ((km x).map λh=>Sh.nd σ x.S (E0 h))=some ((km x).map σ):=by
  rw[vm (by rw[zl];omega),JO hx q λh hh=>(mR h hh).1]
 have hgs:J4 ((dR x).map λh=>Sh.nd σ x.S (E0 h))=some ((dR x).map σ):=by
  rw[vm (by rw[zl];omega),JO hx q (cZ hx)]
 have hpo:D7 ((dR x).map λh=>Sh.nd σ x.S (E0 h))=some ((km x).map λh=>Sh.nd σ x.S (E0 h)):=by
  unfold D7;rw[<-Ld hx q];exact kY (λn _=>rfl) (by omega) (by omega) (by rw[zl];omega)
 have QL:=r8.ZW hx hS hz q (ye hx) mR (km x).length (zF _);rw[zW] at QL;unfold dK;rw[h1,a0q,LF hx q h2,a0q,hpo,a0q,hbs,a0q];by_cases hb:km x = []
 .have hcol:AT x=gS x (dR x):=by unfold AT;rw[zb hb]
  have Qb:=q.gS hx (eW hx) (cZ hx) (Fi hx q);have hrb:=eh hx;have Qs:=Qb.bI hrb;rw[yx hx,<-hcol] at Qs;refine⟨_,?_,Qs,by rw[xG,Ji]⟩;refine (Ax hx hS hz q hbl (ye hx) mR).trans ?_;simp only[];have hv:MZ x-((km x).length:Int)=w9 (((EA x).length:Int)-((EA (AT x)).length:Int)):=by
   have l1:(lv x.S).length<=24:=K8 (y8.2 hR);have l2:(lv (AT x).S).length<=24:=by rw[hcol];exact K8 (y8.2 hrb.sh.sr)
   unfold MZ;rw[zb hb,hb,PF,PF,vV (by omega) (by omega)];simp
  rw[hb,List.map_nil,List.foldl_nil,za (by simp),hgs,a0q,FH hx q (eW hx) (cZ hx) (Fi hx q),a0q,lQ hrb Qb,a0q,Dm hR q,a0q,Dm (by rw[hcol];exact hrb.sh.sr) Qs,a0q];rw[hb] at hv;rw[<-hv]
 .have hcol:AT x=(km x).foldl gN x:=by unfold AT;rw[za hb]
  refine⟨_,?_,by rw[hcol];exact QL,Tr _ _⟩;refine (Ax hx hS hz q hbl (ye hx) mR).trans ?_;have hpos:0<(km x).length:=List.length_pos_iff.2 hb;simp only[];rw[zb (by rw[zl];simpa using hpos),zl,vV (by omega) (by omega)];unfold MZ;rw[za hb]
def L2(m:a8)(r:Int):Int:=if r<0 then 0 else m.Roots.getD r.toNat 0
def uF(m:a8)(a s e:Int):a8 × Int × Int:=if e≠0 then (m,0,e) else (eP m a.toNat s,s,0)
def Fc(m:a8)(s k v:Int):a8 × Int × Int:=match m.Nodes.find? (λn=>n.Serial==s) with
 | none=>(m,0,2)
 | some n=>if ¬(0<=k/\k<n.Fields.length) then (m,0,5) else (AW (lk m v) (ja (lk m v).Nodes s λj=>XT j (n.Fields.set k.toNat v)),v,0)
def yY(m:a8)(s v:Int):a8 × Int × Int:=
 if v≠0/\m.Places<=((m.Pairs.filter λp=>p.Key != s).length:Int) then (m,0,8) else (XA (lk m v) ((m.Pairs.filter λp=>p.Key != s)++if v=0 then [] else [⟨s,v⟩]),v,0)
def aw(m:a8)(o:k8):a8 × Int × Int:=
 if o.Kind=10 then (m,if L2 m o.A=L2 m o.B then 1 else 0,0)
 else if o.Kind=5 then (if L2 m o.A=0 then (m,0,2) else Fc m (L2 m o.A) o.B (L2 m o.C))
 else if o.Kind=6 then (if 0<=o.B/\L2 m o.B=0 then (m,0,2) else if wI ⟨m.Tasks,30⟩ o.A=true then (m,0,7) else (PS m o.A.toNat (L2 m o.B) o.C,L2 m o.B,0))
 else if o.Kind=8 then (if L2 m o.A=0 then (m,0,2) else yY m (L2 m o.A) (L2 m o.B))
 else if o.Kind=1 then (if m.Slots.findIdx (· == 0)<m.Slots.length then (eP (LJ m (m.Slots.findIdx (· == 0)) o.B.toNat o.C) o.A.toNat (m.Serial+1),m.Serial+1,0) else (m,0,4))
 else if o.Kind=2 then uF m o.A (L2 m o.B) 0
 else if o.Kind=4 then (if L2 m o.B=0 then (m,0,2) else match m.Nodes.find? (λn=>n.Serial==L2 m o.B) with
  | none=>(m,0,2)
  | some n=>if ¬(0<=o.C/\o.C<n.Fields.length) then (m,0,5) else uF m o.A (n.Fields.getD o.C.toNat 0) 0)
 else if o.Kind=7 then (if (m.b7.getD o.B.toNat cz).Target=0\/(m.b7.getD o.B.toNat cz).Intact=false then (m,0,9) else uF m o.A (m.b7.getD o.B.toNat cz).Target 0)
 else if o.Kind=9 then (if L2 m o.B=0 then (m,0,2) else match (m.Pairs.find? λp=>p.Key==L2 m o.B) with
  | none=>(m,0,9)
  | some p=>uF m o.A p.Val 0)
 else uF m o.A 0 0
def CN(m:a8)(o:k8):a8 × Int × Int:=if (aw m o).2.2≠0 then (m,0,(aw m o).2.2) else (uy (aw m o).1,(aw m o).2.1,0)
theorem Dn.ju{x z:Hp}{o:k8}{v:Int}(d:Dn x o z v):Sh.ju x o=(bI z,v,0):=by unfold Sh.ju;rw[d.mc];rfl
theorem Er.ju{x:Hp}{o:k8}{e:Int}(h:Er x o e):Sh.ju x o=(x,0,e):=by unfold Sh.ju;rw[h.2.1];rfl
section
variable{σ:Int->Int}{x:Hp}{m:a8}(hx:L1 x)(q:r8 σ x m)
include hx q
theorem r8.said(r:Int):L2 m r=σ (sd x r):=by
 unfold L2 sd;split;·exact q.gd.z.symm
 .rw[q.ro,zd,zB,zd];cases x.Roots[r.toNat]? with
  | none=>exact q.gd.z.symm
  | some v=>rfl
theorem r8.og(r:Int):L2 m r=0↔sd x r=0:=by
 rw[q.said hx];exact q.gd.zero hx.sh.sr (Oe hx.sh.sr q.gd (dD hx.sh r))
theorem r8.aR{h:Int}(hh:h=0\/h∈lv x.S):Sh.aR x h=σ h:=by
 rcases hh with e | hl
 .subst e;rw[Cg hx.sh,q.gd.z]
 .exact (q.gd.lv hx.sh.sr hl).symm
theorem r8.Jg{h:Int}(hl:h∈lv x.S):m.Nodes.find? (λn=>n.Serial==σ h)=some (Sh.nd σ x.S (E0 h))/\(Sh.nd σ x.S (E0 h)).Fields=(ob x.S h).Fields.map σ:=by
 have p:=o7 hx.sh.sr hl;refine⟨q.find hx.sh.sr p.d,?_⟩;rw[F7 hx.sh.sr p];rfl
structure kD (σ:Int->Int) (x:Hp) (m:a8) (o:k8):Prop where
 r:(∃e,e≠0/\aw m o=(m,0,e)/\Sh.ju x o=(x,0,e))\/∃σ' z mz v,aw m o=(mz,v,0)/\L1 z/\SL z/\r8 σ' z mz/\Sh.ju x o=(bI z,v,0)/\mz.Progs=m.Progs/\mz.Roots.length=6
theorem Hc(s:Int):(lk m s).Progs=m.Progs:=by rw[bL]
theorem Al{o:k8}{a h:Int}(hr:L1 (G8 x a.toNat h))(hs:SL (G8 x a.toNat h))(hh:h=0\/h∈lv x.S)(hp:aw m o=(eP m a.toNat (σ h),σ h,0))(hd:Sh.ju x o=(bI (G8 x a.toNat h),Sh.aR x h,0)):kD σ x m o:=
 ⟨.inr ⟨σ,_,_,σ h,hp,hr,hs,q.G8 hx.sh hx.fair hh,by rw[hd,q.aR hx hh],by show (lk m (σ h)).Progs=_;exact Hc hx q _,by
  show (m.Roots.set a.toNat (σ h)).length=6;rw[zap,q.ro,zl];exact hx.sh.r6⟩⟩
theorem iz{o:k8}{e:Int}(he:Er x o e)(hp:aw m o=(m,0,e)):kD σ x m o:=⟨.inl ⟨e,he.1,hp,he.ju⟩⟩
theorem ZP(hS:SL x){a b c:Int}(hc:y6 2 a b c=0):kD σ x m ⟨2,a,b,c⟩:=by
 have d:=d2 hx hS hc;refine Al hx q d.rt d.sl (dD hx.sh b) ?_ d.ju;show uF m a (L2 m b) 0=_;rw[q.said hx];rfl
theorem ZQ(hS:SL x){a b c:Int}(hc:y6 3 a b c=0):kD σ x m ⟨3,a,b,c⟩:=by
 have d:=d3 hx hS hc;refine Al hx q (h:=0) d.rt d.sl (.inl rfl) ?_ (by rw[Cg hx.sh];exact d.ju);show uF m a 0 0=_;rw[q.gd.z];rfl
theorem YD(hS:SL x)(hz:zr x = []){a b c:Int}(hc:y6 10 a b c=0):kD σ x m ⟨10,a,b,c⟩:=by
 have d:=d10 hx hS hz hc;refine⟨.inr ⟨σ,x,m,_,rfl,hx,hS,q,?_,rfl,?_⟩⟩
 .rw[d.ju];show (_,_,_)=(_,(if L2 m a=L2 m b then (1:Int) else 0),_);have:L2 m a=L2 m b↔sd x a=sd x b:=by
   rw[q.said hx,q.said hx];exact⟨λe=>q.gd.Xv hx.sh.sr (Oe hx.sh.sr q.gd (dD hx.sh a)) (Oe hx.sh.sr q.gd (dD hx.sh b)) e,λe=>by rw[e]⟩
  by_cases c':sd x a=sd x b
  .rw[zb c',zb (this.2 c')]
  .rw[za c',za λe=>c' (this.1 e)]
 .rw[q.ro,zl];exact hx.sh.r6
theorem ZT(hS:SL x){a b c:Int}(hc:y6 7 a b c=0):kD σ x m ⟨7,a,b,c⟩:=by
 obtain⟨h,d⟩:=d7 hx hS hc;have hg:m.b7.getD b.toNat cz=wx σ x.b7[b.toNat]:=by
  rw[q.ce,zd,zB,zc h];rfl
 have hp:aw m ⟨7,a,b,c⟩=if (wx σ x.b7[b.toNat]).Target=0\/(wx σ x.b7[b.toNat]).Intact=false then (m,0,9) else uF m a (wx σ x.b7[b.toNat]).Target 0:=by
  rw[<-hg];rfl
 rcases d with ⟨hi,er⟩ | ⟨hi,d⟩;·exact iz hx q er (by rw[hp,zb (.inr hi)])
 .have hl:=((hx.sh.cl _ h).2.2.2.2 hi).1;refine Al hx q d.rt d.sl (.inr hl) ?_ d.ju;have h0:σ x.b7[b.toNat].Target≠0:=by have:=q.gd.ps hx.sh.sr hl;omega
  rw[hp,za];·rfl
  .rintro (e | e);·exact h0 e
   .have:x.b7[b.toNat].Intact=false:=e;rw[hi] at this;cases this
theorem ZV(hS:SL x){a b c:Int}(hc:y6 9 a b c=0):kD σ x m ⟨9,a,b,c⟩:=by
 have hR:=hx.sh.sr;have hp0:L2 m b=0->aw m ⟨9,a,b,c⟩=(m,0,2):=λe=>by
  show (if L2 m b=0 then (m,0,2) else _)=_;rw[zb e]
 have hp1:L2 m b≠0->aw m ⟨9,a,b,c⟩=match (m.Pairs.find? λp=>p.Key==L2 m b) with
  | none=>(m,0,9)
  | some p=>uF m a p.Val 0:=λe=>by
  show (if L2 m b=0 then (m,0,2) else _)=_;rw[za e]
 rcases d9 hx hS hc with ⟨e,er⟩ | ⟨hl,hno,er⟩ | ⟨hl,v,hv,d⟩;·exact iz hx q er (hp0 ((q.og hx b).2 e))
 .have h0:L2 m b≠0:=λe=>ff hR ((q.og hx b).1 e▸hl);refine iz hx q er ?_;rw[hp1 h0];have:(m.Pairs.find? λp=>p.Key==L2 m b)=none:=by
   rw[zcg];intro p hp e;obtain⟨k,v,hh,rfl⟩:=(q.p2 p).1 hp;have e:σ k=L2 m b:=by simpa using e
   rw[q.said hx] at e;have:=q.gd.inl hR (hx.sh.pr k v hh).1 hl e;subst this;exact hno v hh
  rw[this]
 .have h0:L2 m b≠0:=λe=>ff hR ((q.og hx b).1 e▸hl);have hvl:=(hx.sh.pr _ _ hv).2;refine Al hx q d.rt d.sl (.inr hvl) ?_ d.ju;rw[hp1 h0];cases hf:(m.Pairs.find? λp=>p.Key==L2 m b) with
  | none=>
   rw[zcg] at hf;have:=hf ⟨σ (sd x b),σ v⟩ ((q.p2 _).2 ⟨_,_,hv,rfl⟩);exact absurd (by rw[q.said hx];simp) this
  | some p=>
   obtain⟨k,u,hh,rfl⟩:=(q.p2 p).1 (List.mem_of_find?_eq_some hf);have e:σ k=L2 m b:=by have:=List.find?_some hf;simpa using this
   rw[q.said hx] at e;have:=q.gd.inl hR (hx.sh.pr k u hh).1 hl e;subst this;rw[Has.fn hx.sh.hr hh hv];rfl
theorem ZR(hS:SL x){a b c:Int}(hc:y6 4 a b c=0):kD σ x m ⟨4,a,b,c⟩:=by
 have hR:=hx.sh.sr;have hp0:L2 m b=0->aw m ⟨4,a,b,c⟩=(m,0,2):=λe=>by
  show (if L2 m b=0 then (m,0,2) else _)=_;rw[zb e]
 have hp1:sd x b∈lv x.S->aw m ⟨4,a,b,c⟩=if ¬(0<=c/\c<(ob x.S (sd x b)).Fields.length) then (m,0,5) else uF m a (((ob x.S (sd x b)).Fields.map σ).getD c.toNat 0) 0:=λhl=>by
  have h0:L2 m b≠0:=λe=>ff hR ((q.og hx b).1 e▸hl);obtain⟨hf,hfl⟩:=q.Jg hx hl;show (if L2 m b=0 then (m,0,2) else match m.Nodes.find? (λn=>n.Serial==L2 m b) with
   | none=>(m,0,2)
   | some n=>if ¬(0<=c/\c<n.Fields.length) then (m,0,5) else uF m a (n.Fields.getD c.toNat 0) 0)=_
  rw[za h0,q.said hx,hf];dsimp only;rw[hfl,zl]
 rcases dD hx.sh b with e0 | hl
 .have er2:Er x ⟨4,a,b,c⟩ 2:=by
   rcases d4 hx hS hc with ⟨_,er⟩ | ⟨e,hf,er⟩ | ⟨hl,_⟩;·exact er
   .rw[e0] at hf;have:e=2:=by
     unfold K4 at hf;have hg:x4 x.S 0=some (z0,2):=by
      have:=yB (s:=x.S.S) (h:=0) (by decide) (λi hi=>by
       have:=((rG hR).1 hi).Ma hR;omega)
      unfold x4;rw[this];rfl
     rw[hg] at hf;have:=zJ hf;exact (wd Prod.snd this).symm
    rw[<-this];exact er
   .rw[e0] at hl;exact absurd hl (ff hR)
  exact iz hx q er2 (hp0 ((q.og hx b).2 e0))
 .by_cases hcc:0<=c/\c<(ob x.S (sd x b)).Fields.length
  .have hp:=hp1 hl;rw[za (λd=>d hcc)] at hp;rcases d4 hx hS hc with ⟨e,_⟩ | ⟨e,hf,er⟩ | ⟨_,n,rfl,hn,d⟩;·exact absurd (e▸hl) (ff hR)
   .exfalso;obtain⟨n,rfl⟩:∃n:Nat,c=n:=⟨c.toNat,by omega⟩;rw[EZ hR hl (by omega)] at hf;exact er.1 (wd Prod.snd (zJ hf)).symm
   .refine Al hx q d.rt d.sl (hx.sh.fl _ hl _ (zh hn)) ?_ d.ju;rw[hp,zP,zd,zB,zc hn];rfl
  .refine iz hx q (e:=5) ?_ (by rw[hp1 hl,zb hcc]);rcases d4 hx hS hc with ⟨e,_⟩ | ⟨e,hf,er⟩ | ⟨_,n,rfl,hn,d⟩;·exact absurd (e▸hl) (ff hR)
   .have:e=5:=by
     unfold K4 at hf;rw[vl (y8.2 hR) hl,a0q,za (by simp),(Je hcc).1] at hf;exact (wd Prod.snd (zJ hf)).symm
    rw[<-this];exact er
   .exact absurd ⟨by omega,by omega⟩ hcc
end
section
variable{σ:Int->Int}{x:Hp}{m:a8}(hx:L1 x)(q:r8 σ x m)
include hx q
theorem r8.r6:m.Roots.length=6:=by rw[q.ro,zl];exact hx.sh.r6
theorem ZS(hS:SL x){a b c:Int}(hc:y6 5 a b c=0):kD σ x m ⟨5,a,b,c⟩:=by
 have hR:=hx.sh.sr;have hp0:L2 m a=0->aw m ⟨5,a,b,c⟩=(m,0,2):=λe=>by
  show (if L2 m a=0 then (m,0,2) else _)=_;rw[zb e]
 have hp1:sd x a∈lv x.S->aw m ⟨5,a,b,c⟩=if ¬(0<=b/\b<(ob x.S (sd x a)).Fields.length) then (m,0,5) else (AW (lk m (σ (sd x c))) (ja (lk m (σ (sd x c))).Nodes (σ (sd x a)) λj=>XT j (((ob x.S (sd x a)).Fields.map σ).set b.toNat (σ (sd x c)))),σ (sd x c),0):=λhl=>by
  have h0:L2 m a≠0:=λe=>ff hR ((q.og hx a).1 e▸hl);obtain⟨hf,hfl⟩:=q.Jg hx hl;show (if L2 m a=0 then (m,0,2) else Fc m (L2 m a) b (L2 m c))=_;rw[za h0,q.said hx,q.said hx];unfold Fc;rw[hf];dsimp only;rw[hfl,zl]
 rcases dD hx.sh a with e0 | hl
 .have er2:Er x ⟨5,a,b,c⟩ 2:=by
   rcases d5 hx hS hc with ⟨_,er⟩ | ⟨e,hf,er⟩ | ⟨hl,_⟩;·exact er
   .rw[e0] at hf;have:e=2:=by
     unfold aH K4 at hf;have hg:x4 x.S 0=some (z0,2):=by
      have:=yB (s:=x.S.S) (h:=0) (by decide) (λi hi=>by
       have:=((rG hR).1 hi).Ma hR;omega)
      unfold x4;rw[this];rfl
     rw[hg] at hf;have:=zJ hf;exact (wd Prod.snd this).symm
    rw[<-this];exact er
   .rw[e0] at hl;exact absurd hl (ff hR)
  exact iz hx q er2 (hp0 ((q.og hx a).2 e0))
 .by_cases hcc:0<=b/\b<(ob x.S (sd x a)).Fields.length
  .have hp:=hp1 hl;rw[za (λd=>d hcc)] at hp;have hv:=dD hx.sh c;rcases ym hx hS (sd x a) b (sd x c) (iV hx.sh a) (iV hx.sh c) with ⟨e,he,f1,_⟩ | ⟨_,_,n,rfl,hn,f0,_⟩
   .exfalso;obtain⟨n,rfl⟩:∃n:Nat,b=n:=⟨b.toNat,by omega⟩;unfold aH at f1;rw[EZ hR hl (by omega),a0q,za (by simp),N8 hR (iV hx.sh c),a0q,zC hv,za (by simp)] at f1;cases g:G5 x (ob x.S (sd x a)).Fields[n] (sd x c) (⟨sd x a,n,sd x c⟩:H9) with
    | none=>rw[g] at f1;cases f1
    | some w=>
     rw[g] at f1;exact he (wd Prod.snd (zJ f1)).symm
   .rcases d5 hx hS hc with ⟨e,_⟩ | ⟨e,hf,er⟩ | ⟨_,k,hk,hkn,d⟩;·exact absurd (e▸hl) (ff hR)
    .exfalso;rcases ym hx hS (sd x a) n (sd x c) (iV hx.sh a) (iV hx.sh c) with ⟨e,he,f1,_⟩ | ⟨_,_,n',h',hn',f1,_⟩
     .rw[f0] at f1;exact he (wd Prod.snd (zJ f1)).symm
     .rw[hf] at f1;exact er.1 (wd Prod.snd (zJ f1))
    .have:k=n:=by omega
     subst this;refine⟨.inr ⟨σ,_,_,_,hp,d.rt,d.sl,?_,?_,?_,?_⟩⟩
     .rw[zP];exact q.bQ hx.sh hx.fair hl hv
     .rw[d.ju,q.aR hx hv]
     .show (lk m _).Progs=_;exact Hc hx q _
     .show (lk m (σ (sd x c))).Roots.length=_;rw[bL];exact (q.r6 hx:m.Roots.length=6)
  .refine iz hx q (e:=5) ?_ (by rw[hp1 hl,zb hcc]);rcases d5 hx hS hc with ⟨e,_⟩ | ⟨e,hf,er⟩ | ⟨_,n,rfl,hn,d⟩;·exact absurd (e▸hl) (ff hR)
   .obtain rfl:e=5:=by
     unfold aH K4 at hf;rw[vl (y8.2 hR) hl,a0q,za (by simp),(Je hcc).1] at hf;exact (wd Prod.snd (zJ hf)).symm
    exact er
   .exact absurd ⟨by omega,by omega⟩ hcc
theorem r8.a0a(k:Int):Sh.wI ⟨m.Tasks,30⟩ k=Sh.wI x.Q k:=by
 rw[za9,gR,gR];have hk:∀t:g6,(tx σ t).Kind=t.Kind/\(t.Kind=2->(tx σ t).At=t.At):=λt=>by
  unfold tx;split;·rename_i h;exact⟨h.symm,λe=>by omega⟩
  .exact⟨rfl,λ_=>rfl⟩
 constructor
 .rintro⟨u,hu,k1,k2⟩;have hu:u∈x.Q.L.map (tx σ):=by rw[<-q.tk];exact hu
  obtain⟨t,ht,rfl⟩:=zw.1 hu;have:=(hk t).1;exact⟨t,ht,by omega,by rw[<-(hk t).2 (by omega)];exact k2⟩
 .rintro⟨t,ht,k1,k2⟩;refine⟨tx σ t,?_,by rw[(hk t).1];exact k1,by rw[(hk t).2 k1];exact k2⟩;show _∈m.Tasks;rw[q.tk];exact zcb ht
theorem GK(w:Nat)(s call:Int):(PS m w s call).Progs=m.Progs/\(PS m w s call).Roots=m.Roots:=by
 unfold PS Ro;split;·exact⟨rfl,rfl⟩
 .split <;> exact⟨rfl,rfl⟩
theorem pre6(hS:SL x){a b c:Int}(hc:y6 6 a b c=0):kD σ x m ⟨6,a,b,c⟩:=by
 have hR:=hx.sh.sr;obtain⟨ha,hb,hcc⟩:=Ru hc;have hp:aw m ⟨6,a,b,c⟩=if 0<=b/\L2 m b=0 then (m,0,2) else if Sh.wI ⟨m.Tasks,30⟩ a=true then (m,0,7) else (PS m a.toNat (L2 m b) c,L2 m b,0):=rfl
 rw[q.a0a hx,q.said hx] at hp;have hl:=dD hx.sh b;have hz:σ (sd x b)=0↔sd x b=0:=by rw[<-q.said hx];exact q.og hx b
 by_cases h0:0<=b/\sd x b=0
 .have er2:Er x ⟨6,a,b,c⟩ 2:=by
   have hm:u6 x ⟨6,a,b,c⟩=_:=Vm hc;unfold M2 at hm;rw[za (by simp;omega),jz hx.sh,a0q] at hm;have has:AS x b=(0,2):=by unfold AS;rw[zb h0.2]
   rw[has,zb (by simp)] at hm;refine⟨by decide,?_,?_⟩
   .rw[hm,a0q];exact kJ (e:=2) (by decide)
   .trivial
  exact iz hx q er2 (by rw[hp,zb ⟨h0.1,hz.2 h0.2⟩])
 .rw[za (λd=>h0 ⟨d.1,hz.1 d.2⟩)] at hp;have key:(∃e,S9 x a (sd x b) c=some (x,e)/\Er x ⟨6,a,b,c⟩ e)\/(wI x.Q a=false/\Dn x ⟨6,a,b,c⟩ (cV x a.toNat (sd x b) c) (aR x (sd x b))):=by
   rcases d6 hx hS hc with ⟨e,er⟩ | k | k
   .exfalso;have hb1:b = -1:=by omega
    subst hb1;have hm:u6 x ⟨6,a,-1,c⟩=_:=Vm hc;rw[er.2.1] at hm;unfold M2 at hm;rw[zb (by rfl)] at hm;rcases En hx a 0 c (by omega) hcc with ⟨e',he',f1,_⟩ | ⟨_,n,rfl,hn,hw,f1,_⟩
    .rw[f1,a0q,a0q,kJ he'] at hm;have:=GI hx ha (.inl rfl) (by omega) hcc f1 he';have:=wd (λp=>p.2.2) (zJ hm);dsimp only at this;omega
    .rw[f1,a0q,a0q] at hm;have:=TR (a:=(n:Int)) (b:=-1) (c:=c) (z:=cV x n 0 c) (wD hx hn (.inl rfl) hcc hw) (GH hx hS hn _ _) (k:=6) (r:=-1) (x:=x) (.inr ⟨.inl rfl,rfl⟩);dsimp only at hm;rw[this] at hm;have:=wd (λp=>p.2.2) (zJ hm);exact absurd (show (2:Int)=0 from this) (by decide)
   .exact .inl k
   .exact .inr k
  rcases key with ⟨e,hf,er⟩ | ⟨hw,d⟩
  .obtain rfl:=GI hx ha hl (iV hx.sh b) hcc hf er.1;refine iz hx q er ?_;rcases En hx a (sd x b) c (iV hx.sh b) hcc with ⟨e',he',f1,_⟩ | ⟨_,n,rfl,hn,hw,f1,_⟩
   .rw[hp,zb];unfold S9 at hf;obtain⟨n,rfl⟩:∃n:Nat,a=n:=⟨a.toNat,by omega⟩;have c6:=hx.sh.c6;have q30:=hx.sh.q30;have e1:((decide ((n:Int)<0))||(decide ((n:Int)>=(x.b7.length:Int))))=false:=by rw[c6];simp;omega
    rw[e1] at hf;simp only[t8,fX,zca] at hf;have hwq:aQ x.Q n=some (wI x.Q n):=xI (by omega);rw[hwq,a0q,N8 hR (iV hx.sh b),a0q,zC hl] at hf;cases hw:wI x.Q n
    .exfalso;rw[hw,za (by decide),za (by decide)] at hf;cases g1:kg x.b7 n (sd x b) c with
     | none=>rw[g1] at hf;cases hf
     | some a=>
      rw[g1,a0q] at hf;cases g2:ay ⟨x.S,x.Roots,a.1,x.T,x.Q⟩ (sd x b) 1 with
      | none=>rw[g2] at hf;cases hf
      | some b'=>
       rw[g2,a0q] at hf;cases g3:bc b' a.2.1 with
       | none=>rw[g3] at hf;cases hf
       | some d=>
        rw[g3,a0q] at hf;exact absurd (wd (λp=>p.2) (zJ hf)) (by simp)
    .rfl
   .rw[hf] at f1;exact absurd (wd Prod.snd (zJ f1)) (by simp)
  .rw[hw,za (by simp)] at hp;refine⟨.inr ⟨σ,_,_,_,hp,d.rt,d.sl,q.cV hx (by omega) hl,by rw[d.ju,q.aR hx hl],?_,?_⟩⟩;·exact (GK hx q ..).1
   .rw[(GK hx q ..).2];exact q.r6 hx
end
section
variable{σ:Int->Int}{x:Hp}{m:a8}(hx:L1 x)(q:r8 σ x m)
include hx q
theorem r8.prl{k:Int}(hk:k∈lv x.S):(m.Pairs.filter λp=>p.Key != σ k).length=(x.T.filter λp=>p.State==1&&p.Key != k).length:=by
 have hR:=hx.sh.sr;rw[((q.perm hx.sh).filter _).length_eq,jU,za1,zct,zl,zan];congr 1;refine pm λp hp=>?_;show ((σ p.Key != σ k)&&(p.State==1))=_;by_cases h1:p.State=1
 .obtain⟨i,hi,rfl⟩:=ww hp;have hh:Has x.T x.T[i].Key x.T[i].Val:=⟨i,⟨hi,by rw[ma hi];exact h1,by rw[ma hi]⟩,by rw[ma hi]⟩;have hl:=(hx.sh.pr _ _ hh).1;by_cases c:x.T[i].Key=k
  .rw[c];simp
  .have:σ x.T[i].Key≠σ k:=λe=>c (q.gd.inl hR hl hk e);have a1:(σ x.T[i].Key != σ k)=true:=bne_iff_ne.2 this;have a2:(x.T[i].Key != k)=true:=bne_iff_ne.2 c;rw[a1,a2,zbe,Bool.and_true]
 .have:(p.State==1)=false:=beq_eq_false_iff_ne.2 h1;rw[this,Bool.and_false,Bool.false_and]
theorem r8.full{k:Int}(hk:k∈lv x.S):m.Places<=((m.Pairs.filter λp=>p.Key != σ k).length:Int)↔(∀i,¬Fk x.T k i)/\∀i,i<x.T.length->(pt x.T i).State=1:=by
 rw[q.prl hx hk,q.npl];have hle:=zD (λp:g5=>p.State==1&&p.Key != k) x.T;constructor
 .intro h;have e:(x.T.filter λp=>p.State==1&&p.Key != k).length=x.T.length:=by omega
  rw[List.length_filter_eq_length_iff] at e;have e':∀i,i<x.T.length->(pt x.T i).State=1/\(pt x.T i).Key≠k:=λi hi=>by
   rw[ma hi];simpa using e _ (zh hi)
  exact⟨λi hi=>(e' i hi.1).2 hi.2.2,λi hi=>(e' i hi).1⟩
 .rintro⟨h1,h2⟩;have e:(x.T.filter λp=>p.State==1&&p.Key != k).length=x.T.length:=by
   rw[List.length_filter_eq_length_iff];intro p hp;obtain⟨i,hi,rfl⟩:=ww hp;have a:=h2 i hi;have b:(pt x.T i).Key≠k:=λe=>h1 i ⟨hi,a,e⟩;rw[ma hi] at a b;simp[a,b]
  omega
theorem LS(s v:Int)(h:¬(v≠0/\m.Places<=((m.Pairs.filter λp=>p.Key != s).length:Int))):yY m s v=(XA (lk m v) ((m.Pairs.filter λp=>p.Key != s)++if v=0 then [] else [⟨s,v⟩]),v,0):=by
 unfold yY;rw[za h]
theorem ZU(hS:SL x){a b c:Int}(hc:y6 8 a b c=0):kD σ x m ⟨8,a,b,c⟩:=by
 have hR:=hx.sh.sr;have hl:=dD hx.sh b;have hz:σ (sd x b)=0↔sd x b=0:=by rw[<-q.said hx];exact q.og hx b
 have hp0:L2 m a=0->aw m ⟨8,a,b,c⟩=(m,0,2):=λe=>by
  show (if L2 m a=0 then (m,0,2) else _)=_;rw[zb e]
 have hp1:sd x a∈lv x.S->aw m ⟨8,a,b,c⟩=yY m (σ (sd x a)) (σ (sd x b)):=λha=>by
  have h0:L2 m a≠0:=λe=>ff hR ((q.og hx a).1 e▸ha);show (if L2 m a=0 then (m,0,2) else yY m (L2 m a) (L2 m b))=_;rw[za h0,q.said hx,q.said hx]
 rcases d8 hx hS hc with ⟨e,er⟩ | ⟨hk,e,hf,er⟩ | ⟨hk,r,hr,r0,d⟩;·exact iz hx q er (hp0 ((q.og hx a).2 e))
 .obtain rfl:=OU hx hS hk hl hf er.1;refine iz hx q er ?_;rw[hp1 hk];unfold yY;rw[zb];have k0:sd x a≠0:=λe=>ff hR (e▸hk);unfold cy at hf;rw[za (by simpa using k0),N8 hR (tJ hx hS (.inr hk)),a0q,N8 hR (tJ hx hS hl),zC (.inr hk),zC hl] at hf;simp only[zbf,t8,fX,a0q,zcu,zA,ul] at hf;obtain⟨r,r1,_,_,r5⟩:=dZ hx.sh.hr (sd x a) (sd x b);rw[r1,a0q] at hf;have hne:r.2.2≠0:=λh0=>by
   rw[za (by simpa using h0)] at hf;cases g:E2 x r.2.1 (sd x b) ⟨r.1⟩ with
   | none=>rw[g] at hf;cases hf
   | some w=>
    rw[g,a0q] at hf;exact absurd (wd (λp=>p.2) (zJ hf)) (by simp)
  rcases r5 with ⟨e,rfl⟩ | ⟨_,_,⟨i,hi,rfl⟩ | ⟨_,rfl⟩⟩ | ⟨_,hv,⟨i,hi,rfl⟩ | ⟨d,_,_,_,_,rfl⟩ | ⟨h1,h2,rfl⟩⟩;·exact absurd e k0
  .exact absurd rfl hne
  .exact absurd rfl hne
  .exact absurd rfl hne
  .exact absurd rfl hne
  .exact⟨λe=>hv (hz.1 e),(q.full hx hk).2 ⟨h1,h2⟩⟩
 .have hno:¬(σ (sd x b)≠0/\m.Places<=((m.Pairs.filter λp=>p.Key != σ (sd x a)).length:Int)):=by
   rintro⟨hv,hf⟩;obtain⟨h1,h2⟩:=(q.full hx hk).1 hf;have hv:sd x b≠0:=λe=>hv (hz.2 e);obtain⟨r',r1,_,_,r5⟩:=dZ hx.sh.hr (sd x a) (sd x b);rw[hr] at r1;obtain rfl:=zJ r1;rcases r5 with ⟨e,rfl⟩ | ⟨_,e,_⟩ | ⟨_,_,⟨i,hi,rfl⟩ | ⟨j,_,hd,hs,_,rfl⟩ | ⟨_,_,rfl⟩⟩;·exact absurd r0 (by simp)
   .exact hv e
   .exact h1 i hi
   .exact hs (h2 j hd)
   .exact absurd r0 (by simp)
  have hp:=hp1 hk;rw[LS hx q _ _ hno] at hp;have S:=q.iU hx.sh hx.fair hk hl hr r0;have hif:(if sd x b=0 then ([]:List k7) else [⟨σ (sd x a),σ (sd x b)⟩])=if σ (sd x b)=0 then [] else [⟨σ (sd x a),σ (sd x b)⟩]:=by
   by_cases e:sd x b=0
   .rw[zb e,zb (hz.2 e)]
   .rw[za e,za λf=>e (hz.1 f)]
  rw[hif] at S;refine⟨.inr ⟨σ,_,_,_,hp,d.rt,d.sl,S,by rw[d.ju,q.aR hx hl],?_,?_⟩⟩;·show (lk m _).Progs=_;exact Hc hx q _
  .show (lk m (σ (sd x b))).Roots.length=_;rw[bL];exact (q.r6 hx:m.Roots.length=6)
theorem r8.Xc{i:Nat}(hi:i<x.S.S.b7.length):PE (Sh.ce x.S i)=0↔(Sh.ce x.S i).State=0:=by
 have hR:=hx.sh.sr;have hc:=hR.cell i hi;unfold PE;split
 .rename_i t;have:=(hR.ok i hi t).s1;unfold Th at t;omega
 .rename_i t;unfold Th at t;split;·omega
  .omega
theorem r8.Zn:m.Slots.length=x.S.S.b7.length:=by rw[q.sl];simp
theorem r8.ZY{i:Nat}(hi:i<m.Slots.length):m.Slots[i]=PE (Sh.ce x.S i):=by
 have:=q.sl;simp only[this,ut,List.getElem_range]
theorem r8.fst{i:Nat}(h:XC x.S i):m.Slots.findIdx (· == 0)=i:=by
 obtain⟨h1,h2,h3⟩:=h;have hi:i<m.Slots.length:=by rw[q.Zn hx];exact h1
 rw[List.findIdx_eq hi];refine⟨?_,λj hj=>?_⟩;·rw[q.ZY hx hi,pu];exact (q.Xc hx h1).2 h2
 .rw[q.ZY hx (by omega),beq_eq_false_iff_ne];exact λe=>h3 j hj ((q.Xc hx (by omega)).1 e)
theorem r8.Uh(h:∀i,i<x.S.S.b7.length->(Sh.ce x.S i).State≠0):¬m.Slots.findIdx (· == 0)<m.Slots.length:=by
 rw[List.findIdx_lt_length];rintro⟨v,hv,e⟩;obtain⟨i,hi,rfl⟩:=ww hv;have h1:i<x.S.S.b7.length:=by rw[<-q.Zn hx];exact hi
 rw[q.ZY hx hi,pu] at e;exact h i h1 ((q.Xc hx h1).1 e)
theorem ZO(hS:SL x)(hb:x.S.Serial<9223372036854775807){a b c:Int}(hc:y6 1 a b c=0):kD σ x m ⟨1,a,b,c⟩:=by
 have hR:=hx.sh.sr;obtain⟨ha,hbb,hcc⟩:=Vb hc;have hp:aw m ⟨1,a,b,c⟩=if m.Slots.findIdx (· == 0)<m.Slots.length then (eP (LJ m (m.Slots.findIdx (· == 0)) b.toNat c) a.toNat (m.Serial+1),m.Serial+1,0) else (m,0,4):=rfl
 rcases d1 hx hS hb hc with ⟨e,hf,er⟩ | ⟨hn,_,i,hF,d⟩
 .rcases Oi hR hb b c with ⟨h,_⟩ | ⟨_,h,_⟩ | ⟨_,_,h,g⟩ | ⟨_,_,i,_,g⟩;·exact absurd hbb h
  .exact absurd hcc h
  .rw[hf] at g;obtain rfl:e=4:=wd (λp=>p.2.2) (zJ g);exact iz hx q er (by rw[hp,za (q.Uh hx h)])
  .rw[hf] at g;exact absurd (wd (λp=>p.2.2) (zJ g)) er.1
 .obtain⟨hi,h0,_⟩:=id hF;obtain⟨σ',S,e1⟩:=q.mk' hx hi h0 hn hcc;have hy:=yR hx hi h0 hn hcc;have hh:cv x.S i=0\/cv x.S i∈lv (wS x (dJ x.S i b.toNat c)).S:=.inr (by
   show _∈lv (dJ x.S i b.toNat c);rw[BX hR hi h0 hn hcc];exact t7 _ (zp.2 rfl))
  have S2:=S.G8 (r:=a.toNat) hy.sh hy.fair hh;rw[e1] at S2;rw[q.fst hx hF,zb (by rw[q.Zn hx];exact hi),q.se] at hp;refine⟨.inr ⟨σ',_,_,_,hp,d.rt,d.sl,S2,d.ju,?_,?_⟩⟩
  .show (lk (LJ m i b.toNat c) (x.S.Serial+1)).Progs=_;rw[bL];rfl
  .show ((LJ m i b.toNat c).Roots.set a.toNat _).length=6;rw[zap];exact (q.r6 hx:m.Roots.length=6)
theorem vD(hS:SL x)(hz:zr x = [])(hb:x.S.Serial<9223372036854775807){o:k8}(hc:y6 o.Kind o.A o.B o.C=0)(hk:o.Kind<=10):kD σ x m o:=by
 obtain⟨k,a,b,c⟩:=o;dsimp only at hc hk;have:=tG hc;have hk:k=1\/k=2\/k=3\/k=4\/k=5\/k=6\/k=7\/k=8\/k=9\/k=10:=by omega
 rcases hk with rfl | rfl | rfl | rfl | rfl | rfl | rfl | rfl | rfl | rfl
 .exact ZO hx q hS hb hc
 .exact ZP hx q hS hc
 .exact ZQ hx q hS hc
 .exact ZR hx q hS hc
 .exact ZS hx q hS hc
 .exact pre6 hx q hS hc
 .exact ZT hx q hS hc
 .exact ZU hx q hS hc
 .exact ZV hx q hS hc
 .exact YD hx q hS hz hc
end
theorem VN{l:List Int}(hl:l.length<=1000):H8 l 0=some (if l.findIdx (· == 0)<l.length then (l.findIdx (· == 0):Int) else -1):=by
 unfold H8;simp only[jn];refine db l.length (λi=>i<=l.findIdx (· == 0)) (by omega) (zX _) (λi hi hik=>?_) (λhlk=>⟨.inr (),by simp,by rw[za (by omega)]⟩);rw[zb (by simpa using hi),s7 hi,a0q];rcases zE i (l.findIdx (· == 0)) with c | c
 .left;have:=List.not_of_lt_findIdx c;have h0:l[i]≠0:=by simpa using this
  rw[za (by simpa using λe=>h0 e.symm),o0 (by omega)];exact⟨rfl,c⟩
 .have e:i=l.findIdx (· == 0):=by omega
  right;have hlt:l.findIdx (· == 0)<l.length:=by omega
  have:(l[l.findIdx (· == 0)]==0)=true:=List.findIdx_getElem (w:=hlt) (p:=(· == 0));have h0:l[i]=0:=by simp only[e];simpa using this
  rw[zb (by rw[h0];rfl),zb hlt,e];exact⟨_,rfl,rfl⟩
theorem TF{l:List Int}(hl:l.length<=1000)(k v:Int):mC l k v=some (if 0<=k/\k<l.length then (l.set k.toNat v,0) else (l,5)):=by
 unfold mC gP;rw[a0q];by_cases c:0<=k/\k<l.length
 .obtain⟨n,rfl⟩:∃n:Nat,k=n:=⟨k.toNat,by omega⟩;have hn:n<l.length:=by omega
  rw[za (by simp;omega),kU (by omega) (by omega),a0q];have e:xv (List.replicate l.length (0:Int)) l=some l:=by
   unfold xv;rw[zb (by simp)];simp
  rw[e,a0q,s7 hn,a0q,zb c]
 .rw[za c,zb (by simp;omega)]
theorem UW(l:List Int)(k:Int):iO l k=some (if 0<=k/\k<l.length then (l.getD k.toNat 0,0) else (0,5)):=by
 by_cases c:0<=k/\k<l.length
 .obtain⟨n,rfl⟩:∃n:Nat,k=n:=⟨k.toNat,by omega⟩;have hn:n<l.length:=by omega
  unfold iO gP;rw[a0q,za (by simp;omega),s7 hn,a0q,zb c,zP,zd,zc hn];rfl
 .rw[(Je c).1,za c]
theorem RV{l:List j5}{n:Nat}(hn:n<l.length):cS l n=some (if l[n].Target=0\/l[n].Intact=false then (0,9) else (l[n].Target,0)):=by
 unfold cS kh;have:(decide ((n:Int)>=0)&&decide ((n:Int)<(l.length:Int)))=true:=by simp;omega
 rw[this,a0q,za (by simp),s7 hn,a0q];by_cases q:l[n].Target=0\/l[n].Intact=false
 .rw[zb q,zb (by rcases q with q | q <;> simp[q])]
 .rw[za q,za (by simpa using q)]
section
variable{σ:Int->Int}{x:Hp}{m:a8}(hx:L1 x)(q:r8 σ x m)
include hx q
theorem r8.Zj{h:Int}(hh:h=0\/h∈lv x.S):σ h=0\/∃n,m.Nodes.find? (λn=>n.Serial==σ h)=some n:=by
 rcases hh with e | hl
 .left;rw[e];exact q.gd.z
 .exact .inr ⟨_,(q.Jg hx hl).1⟩
theorem FJ{a:Int}(ha:0<=a/\a<=5){h:Int}(hh:h=0\/h∈lv x.S):aL m a (σ h)=some (uy (eP m a.toNat (σ h)),⟨σ h,0⟩):=by
 obtain⟨r,rfl⟩:∃r:Nat,a=r:=⟨a.toNat,by omega⟩;have S:=q.G8 (r:=r) hx.sh hx.fair hh;have hz:=bY hx (r:=r) (by omega) hh;have S2:=S.bI hz;have r6:=q.r6 hx;unfold aL;rw[yL (q.bn hx.sh.sr) (q.bl hx.sh) (q.Zj hx hh) (by omega),a0q,lQ hz S,a0q,zP];have e:(uy (eP m r (σ h))).Roots=m.Roots.set r (σ h):=by
  rw[S2.ro,(mo hz).rt,<-S.ro];rfl
 have hl:r<(uy (eP m r (σ h))).Roots.length:=by rw[e,zap];omega
 rw[s7 hl,a0q];have:(uy (eP m r (σ h))).Roots[r]=σ h:=by simp only[e,List.getElem_set_self]
 rw[this]
theorem yM{r:Int}(hr:r<=5):T8 m r=some (L2 m r):=by
 have r6:=q.r6 hx;unfold T8 L2;by_cases c:r<0
 .rw[zb (by simpa using c),zb c]
 .obtain⟨n,rfl⟩:∃n:Nat,r=n:=⟨r.toNat,by omega⟩;have hn:n<m.Roots.length:=by omega
  rw[za (by simp),za c,s7 hn,a0q,zP,zd,zc hn];rfl
theorem Dp{r:Int}(h0:0<=r)(hr:r<=5):ix m.Roots r=some (L2 m r):=by
 have:=yM hx q hr;unfold T8 at this;rw[za (by simp;omega)] at this;cases g:ix m.Roots r with
 | none=>rw[g] at this;cases this
 | some v=>rw[g] at this;exact this
theorem tL{r:Int}(hr:r<=5):(L2 m r=0/\∃z,O6 m r=some (z,2))\/(L2 m r≠0/\sd x r∈lv x.S/\∃n,m.Nodes.find? (λn=>n.Serial==L2 m r)=some n/\n.Serial=L2 m r/\n.Fields=(ob x.S (sd x r)).Fields.map σ/\O6 m r=some (n,0)):=by
 unfold O6;rw[yM hx q hr,a0q];by_cases c:L2 m r=0
 .rw[zb (by simpa using c)];exact .inl ⟨c,_,rfl⟩
 .rw[za (by simpa using c)];have hl:=(dD hx.sh r).resolve_left λe=>c ((q.og hx r).2 e);obtain⟨hf,hfl⟩:=q.Jg hx hl;rw[<-q.said hx] at hf;obtain⟨k,hk,e1,e2⟩:=yJ (q.bn hx.sh.sr) hf;rw[e2,a0q,s7 hk,a0q,e1];exact .inr ⟨c,hl,_,hf,(lM hf).1,hfl,rfl⟩
theorem Sc{k a b c:Int}(hc:y6 k a b c=0)(hk:k=2\/k=3\/k=4\/k=7\/k=9):∃v e,bT m ⟨k,a,b,c⟩=some (v,e) /\
  aw m ⟨k,a,b,c⟩=(if e≠0 then (m,0,e) else (eP m a.toNat v,v,0))/\(e=0->∃h,(h=0\/h∈lv x.S)/\v=σ h):=by
 have r6:=q.r6 hx;rcases hk with rfl | rfl | rfl | rfl | rfl
 .obtain⟨ha,hb⟩:=Nb hc;refine⟨L2 m b,0,?_,rfl,λ_=>⟨_,dD hx.sh b,q.said hx b⟩⟩;show ((ix m.Roots b).bind λv1=>some (v1,(0:Int)))=_;rw[Dp hx q (by omega) (by omega)];rfl
 .exact⟨0,0,rfl,rfl,λ_=>⟨0,.inl rfl,q.gd.z.symm⟩⟩
 .obtain⟨ha,hb,hcc⟩:=Vc hc;have hp:aw m ⟨4,a,b,c⟩=if L2 m b=0 then (m,0,2) else match m.Nodes.find? (λn=>n.Serial==L2 m b) with
   | none=>(m,0,2)
   | some n=>if ¬(0<=c/\c<n.Fields.length) then (m,0,5) else uF m a (n.Fields.getD c.toNat 0) 0:=rfl
  have hm:bT m ⟨4,a,b,c⟩=(O6 m b).bind λv2=>if (v2.2 != 0) then some (0,v2.2) else (iO v2.1.Fields c).bind λv3=>some (v3.1,v3.2):=rfl
  rcases tL hx q (r:=b) (by omega) with ⟨h0,z,e⟩ | ⟨h0,hl,n,hn,hs,hf,e⟩
  .refine⟨0,2,?_,?_,λe=>absurd e (by decide)⟩;·rw[hm,e];rfl
   .rw[hp,zb h0];rfl
  .rw[za h0,hn] at hp;dsimp only at hp;rw[e,a0q,za (by simp),UW,a0q] at hm;by_cases g:0<=c/\c<n.Fields.length
   .rw[za (λd=>d g)] at hp;rw[zb g] at hm;refine⟨n.Fields.getD c.toNat 0,0,hm,hp,λ_=>?_⟩;have hlen:c.toNat<(ob x.S (sd x b)).Fields.length:=by
     have:=g.2;rw[hf,zl] at this;omega
    refine⟨(ob x.S (sd x b)).Fields[c.toNat],hx.sh.fl _ hl _ (zh hlen),?_⟩;rw[hf,zd,zB,zc hlen];rfl
   .rw[zb g] at hp;rw[za g] at hm;exact⟨0,5,hm,hp,λe=>absurd e (by decide)⟩
 .obtain⟨ha,hb⟩:=Ve hc;obtain⟨n,rfl⟩:∃n:Nat,b=n:=⟨b.toNat,by omega⟩;have c6:=hx.sh.c6;have hnx:n<x.b7.length:=by omega
  have hn:n<m.b7.length:=by rw[q.ce,zl];exact hnx
  have hg:m.b7.getD n cz=m.b7[n]:=by rw[zd,zc hn];rfl
  have hp:aw m ⟨7,a,n,c⟩=if (m.b7.getD n cz).Target=0\/(m.b7.getD n cz).Intact=false then (m,0,9) else uF m a (m.b7.getD n cz).Target 0:=rfl
  have hm:bT m ⟨7,a,n,c⟩=(cS m.b7 n).bind λv4=>some (v4.1,v4.2):=rfl;rw[hg] at hp;rw[RV hn,a0q] at hm;by_cases g:m.b7[n].Target=0\/m.b7[n].Intact=false
  .rw[zb g] at hp hm;exact⟨0,9,hm,hp,λe=>absurd e (by decide)⟩
  .rw[za g] at hp hm;refine⟨_,0,hm,hp,λ_=>⟨x.b7[n].Target,.inr (((hx.sh.cl n hnx).2.2.2.2 ?_).1),?_⟩⟩
   .have:m.b7[n].Intact=x.b7[n].Intact:=by simp only[q.ce,ut];rfl
    rw[<-this];cases hi:m.b7[n].Intact with
    | true=>rfl
    | false=>exact absurd (.inr hi) g
   .simp only[q.ce,ut];rfl
 .obtain⟨ha,hb⟩:=Vg hc;have hp:aw m ⟨9,a,b,c⟩=if L2 m b=0 then (m,0,2) else match (m.Pairs.find? λp=>p.Key==L2 m b) with
   | none=>(m,0,9)
   | some p=>uF m a p.Val 0:=rfl
  have hm:bT m ⟨9,a,b,c⟩=(O6 m b).bind λv5=>if (v5.2 != 0) then some (0,v5.2) else (P3 m v5.1.Serial).bind λv6=>if (decide ((v6.length:Int) > 0)) then (ix v6 0).bind λv7=>some (v7,0) else some (0,9):=rfl
  rcases tL hx q (r:=b) (by omega) with ⟨h0,z,e⟩ | ⟨h0,hl,n,hn,hs,hf,e⟩
  .refine⟨0,2,?_,?_,λe=>absurd e (by decide)⟩;·rw[hm,e];rfl
   .rw[hp,zb h0];rfl
  .rw[za h0,<-List.head?_filter] at hp;rw[e,a0q,za (by simp)] at hm;dsimp only at hm;rw[FK (q.bn hx.sh.sr) (q.bl hx.sh),a0q,hs] at hm;cases g:m.Pairs.filter λp=>p.Key==L2 m b with
   | nil=>
    rw[g] at hp hm;exact⟨0,9,hm,hp,λe=>absurd e (by decide)⟩
   | cons p l=>
    rw[g] at hp hm;have hin:p∈m.Pairs:=(zk.1 (g▸zg:p∈m.Pairs.filter λp=>p.Key==L2 m b)).1;obtain⟨k,v,hh,rfl⟩:=(q.p2 p).1 hin;refine⟨σ v,0,?_,hp,λ_=>⟨v,.inr (hx.sh.pr k v hh).2,rfl⟩⟩;rw[hm,zb (by simp)];rfl
end
theorem EW{m:a8}{o:k8}{e:Int}(h:aw m o=(m,0,e))(he:e≠0):CN m o=(m,0,e):=by
 unfold CN;rw[h,zb he]
theorem BE{m mz:a8}{o:k8}{v:Int}(h:aw m o=(mz,v,0)):CN m o=(uy mz,v,0):=by
 unfold CN;rw[h,za (by simp)]
section
variable{σ:Int->Int}{x:Hp}{m:a8}(hx:L1 x)(q:r8 σ x m)
include hx q
theorem r8.PA(hz:Sh.zr x = []):uy m=m:=by
 have h1:vQ m=m:=Ck (by rw[q.zr hx,hz];rfl);have:∀n,il n m=m:=λn=>by
  induction n with
  | zero=>rfl
  | succ n ih=>rw[mr,ih,h1]
 exact this 100
theorem Dq{o:k8}(P:kD σ x m o){W:Option (a8 × Int)}{s:Int}
  (h:W=some ((aw m o).1,(aw m o).2.2))(hv:(aw m o).2.2=0->(aw m o).2.1=s) :
  (W.bind λv1=>if (v1.2 != 0) then some (m,(⟨0,v1.2⟩:g8)) else (I0 v1.1).bind λv2=>some (v2,(⟨s,0⟩:g8)))=some ((CN m o).1,⟨(CN m o).2.1,(CN m o).2.2⟩):=by
 rw[h,a0q];rcases P.r with ⟨e,he,hp,_⟩ | ⟨σ',z,mz,v,hp,hz,_,S,_,_,_⟩;·rw[EW hp he,hp,zb (by simpa using he)]
 .rw[hp] at hv;rw[BE hp,hp,za (by simp),lQ hz S,a0q,<-hv rfl]
theorem Og{a b c:Int}(hc:y6 5 a b c=0):jf m (L2 m c) ⟨5,a,b,c⟩=some ((aw m ⟨5,a,b,c⟩).1,(aw m ⟨5,a,b,c⟩).2.2):=by
 obtain⟨ha,hb,hcc⟩:=Vd hc;have hp:aw m ⟨5,a,b,c⟩=if L2 m a=0 then (m,0,2) else Fc m (L2 m a) b (L2 m c):=rfl
 have B:=q.bn hx.sh.sr;have C:=q.bl hx.sh;have hv:=q.Zj hx (dD hx.sh c);rw[<-q.said hx] at hv;unfold jf;dsimp only;rcases tL hx q (r:=a) (by omega) with ⟨h0,z,e⟩ | ⟨h0,hl,n,hn,hs,hf,e⟩;·rw[e,a0q,zb (by simp),hp,zb h0]
 .rw[e,a0q,za (by simp),hp,za h0];unfold Fc;rw[hn];dsimp only;have hfl:=B.fl n (lM hn).2;rw[TF (by omega),a0q];by_cases g:0<=b/\b<n.Fields.length
  .rw[zb g,za (by simp),za (λd=>d g),Dl B C hv,a0q];have hn2:∃n',(lk m (L2 m c)).Nodes.find? (λk=>k.Serial==n.Serial)=some n':=by
    rw[hs];unfold lk;split
    .cases hh:(uC m (L2 m c)).Nodes.find? (λk=>k.Serial==L2 m a) with
     | some n'=>exact⟨n',rfl⟩
     | none=>
      exfalso;rw[zcg] at hh;have hin:=(lM hn).2;have:(if n.Serial=L2 m c then Eb n else n)∈(uC m (L2 m c)).Nodes:=by
       show _∈ja m.Nodes (L2 m c) Eb;exact zcb hin
      have hse:(if n.Serial=L2 m c then Eb n else n).Serial=L2 m a:=by
       split;·exact hs
       .exact hs
      exact hh _ this (pu.2 hse)
    .exact⟨n,hn⟩
   obtain⟨n',hn2⟩:=hn2;rw[VZ (B.lk _) hn2,a0q,hs]
  .rw[za g,zb (by simp),zb g]
theorem Wb{a b c:Int}(hc:y6 6 a b c=0):fB m (L2 m b) ⟨6,a,b,c⟩=some ((aw m ⟨6,a,b,c⟩).1,(aw m ⟨6,a,b,c⟩).2.2):=by
 obtain⟨ha,hb,hcc⟩:=Ru hc;have hp:aw m ⟨6,a,b,c⟩=if 0<=b/\L2 m b=0 then (m,0,2) else if Sh.wI ⟨m.Tasks,30⟩ a=true then (m,0,7) else (PS m a.toNat (L2 m b) c,L2 m b,0):=rfl
 have B:=q.bn hx.sh.sr;have C:=q.bl hx.sh;have tl:=C.tl;have wl:=C.wl;have c6:m.b7.length=6:=by rw[q.ce,zl,hx.sh.c6]
 obtain⟨n,rfl⟩:∃n:Nat,a=n:=⟨a.toNat,by omega⟩;have hn:n<m.b7.length:=by omega
 unfold fB;dsimp only;by_cases g:0<=b/\L2 m b=0
 .rw[zb (by simp[g.1,g.2]),hp,zb g]
 .rw[za (by simpa using g),hp,za g,yO,a0q,show aQ (⟨m.Tasks,30⟩:g7) (n:Int)=some (Sh.wI ⟨m.Tasks,30⟩ n) from xI (q:=⟨m.Tasks,30⟩) (by show m.Tasks.length<=1000;omega),a0q];cases hw:Sh.wI ⟨m.Tasks,30⟩ (n:Int)
  .rw[za (by simp),za (by simp),GJ (by omega) hn,a0q,za (by simp)];dsimp only;have hg:m.b7.getD n cz=m.b7[n]:=by rw[zd,zc hn];rfl
   rw[yK (m:=Xm m (m.b7.set n (fR (L2 m b) c))) ⟨B.nl,B.up,B.fl,B.sg,B.gg,B.gl⟩ ⟨C.rl,by show (m.b7.set n _).length<=30;rw[zap];exact C.wl,C.pa,C.tl⟩,a0q,zP];unfold PS;rw[hg]
  .rw[zb rfl,zb rfl]
theorem Of{a b c:Int}(hc:y6 8 a b c=0):je m (L2 m b) ⟨8,a,b,c⟩=some ((aw m ⟨8,a,b,c⟩).1,(aw m ⟨8,a,b,c⟩).2.2):=by
 obtain⟨ha,hb⟩:=Vf hc;have hp:aw m ⟨8,a,b,c⟩=if L2 m a=0 then (m,0,2) else yY m (L2 m a) (L2 m b):=rfl
 have B:=q.bn hx.sh.sr;have C:=q.bl hx.sh;have pa:=C.pa;have hv:=q.Zj hx (dD hx.sh b);rw[<-q.said hx] at hv;unfold je;dsimp only;rcases tL hx q (r:=a) (by omega) with ⟨h0,z,e⟩ | ⟨h0,hl,n,hn,hs,hf,e⟩;·rw[e,a0q,zb (by simp),hp,zb h0]
 .rw[e,a0q,za (by simp),hp,za h0];have hpk:D6 m.Pairs n=some (m.Pairs.filter λp=>p.Key != n.Serial):=by
   unfold D6;exact kY (P:=λp=>fz p n) (λp _=>rfl) (by omega) (by omega) (by omega)
  rw[hpk,a0q,hs];unfold yY;have hfl:=zD (λp:k7=>p.Key != L2 m a) m.Pairs;by_cases v0:L2 m b=0
  .rw[zb (by simpa using v0),za (λd=>d.1 v0),zb v0,zat];unfold lk;rw[za (λd=>d.1 v0)]
  .rw[za (by simpa using v0)];by_cases g:m.Places<=((m.Pairs.filter λp=>p.Key != L2 m a).length:Int)
   .rw[zb (by simpa using g),zb ⟨v0,g⟩]
   .rw[za (by simpa using g),za (λd=>g d.2),Dl B C hv,a0q,Hd (by omega) (JJ (m:=100) (by omega) (by omega) (by omega)),a0q,za v0]
theorem LD(hS:SL x)(hb:x.S.Serial<9223372036854775807){a b c:Int}(hc:y6 1 a b c=0):dw m ⟨1,a,b,c⟩=some ((CN m ⟨1,a,b,c⟩).1,⟨(CN m ⟨1,a,b,c⟩).2.1,(CN m ⟨1,a,b,c⟩).2.2⟩):=by
 obtain⟨ha,hbb,hcc⟩:=Vb hc;have hR:=hx.sh.sr;have B:=q.bn hR;have hp:aw m ⟨1,a,b,c⟩=if m.Slots.findIdx (· == 0)<m.Slots.length then (eP (LJ m (m.Slots.findIdx (· == 0)) b.toNat c) a.toNat (m.Serial+1),m.Serial+1,0) else (m,0,4):=rfl
 obtain⟨n,rfl⟩:∃n:Nat,b=n:=⟨b.toNat,by omega⟩;have gl:=B.gl;have nl:=B.nl;unfold dw;have hv:qv (⟨1,a,(n:Int),c⟩:k8).B=some (List.replicate n 0,0):=by
  unfold qv;rw[za (by simp;omega)];show ((mk 8 (n:Int) (0:Int)).bind _)=_;rw[kU (by omega) (by omega),a0q]
 rw[hv,a0q,za (by simp),VN (by omega),a0q];rcases Oi hR hb n c with ⟨h,_⟩ | ⟨_,h,_⟩ | ⟨_,_,h,g⟩ | ⟨_,_,i,hF,g⟩;·exact absurd hbb h
 .exact absurd hcc h
 .have:=q.Uh hx h;rw[za this] at hp |-;rw[zb (by simp),EW hp (by decide)]
 .obtain⟨hi,h0,_⟩:=id hF;have hsi:i<m.Slots.length:=by rw[q.Zn hx];exact hi
  have hn:n<=4:=by omega
  rw[q.fst hx hF,zb hsi] at hp |-;rw[zP] at hp;rw[BE hp,za (by simp)];have hs':=hR.aR;have hw:w9 (m.Serial+1)=m.Serial+1:=by rw[q.se];exact U2 (by omega) (by omega)
  have hc1:y9 m.Slots=some m.Slots:=dI (by omega) (JJ (m:=30) (by omega) (by omega) (by omega));have hc2:r7 m.Nodes=some m.Nodes:=dI (by omega) (JJ (m:=30) (by omega) (by omega) (by omega));rw[hc1,a0q,s7 hsi,a0q,hc2,a0q,hw,Hd (by omega) (JJ (m:=100) (by omega) (by omega) (by omega)),a0q,zP];obtain⟨σ',S,e1⟩:=q.mk' hx hi h0 hn hcc;have hy:=yR hx hi h0 hn hcc;have hh:cv x.S i=0\/cv x.S i∈lv (wS x (dJ x.S i n c)).S:=.inr (by
   show _∈lv (dJ x.S i n c);rw[BX hR hi h0 hn hcc];exact t7 _ (zp.2 rfl))
  have T:=FJ hy S ha hh;rw[e1,<-q.se] at T;dsimp only;rw[show aL ⟨m.Nodes ++ [⟨m.Serial+1,i,c,false,true,false,List.replicate n 0⟩],m.Slots.set i (m.Serial+1),m.Gens,m.Last,m.Places,m.Serial+1,m.Roots,m.b7,m.Pairs,m.Tasks,m.Progs⟩ a (m.Serial+1)=_ from T,a0q]
theorem VY(hS:SL x)(hz:zr x = [])(hb:x.S.Serial<9223372036854775807){o:k8}(hc:y6 o.Kind o.A o.B o.C=0)(hk:o.Kind<=10):bU m o=some ((CN m o).1,⟨(CN m o).2.1,(CN m o).2.2⟩):=by
 have P:=vD hx q hS hz hb hc hk;obtain⟨k,a,b,c⟩:=o;dsimp only at hc hk;have:=tG hc;have asks:(k=2\/k=3\/k=4\/k=7\/k=9)->(0<=a/\a<=5)->bU m ⟨k,a,b,c⟩=((bT m ⟨k,a,b,c⟩).bind λv10=>if (v10.2 != 0) then some (m,(⟨0,v10.2⟩:g8)) else (aL m a v10.1).bind λv11=>some (v11.1,v11.2))->bU m ⟨k,a,b,c⟩=some ((CN m ⟨k,a,b,c⟩).1,⟨(CN m ⟨k,a,b,c⟩).2.1,(CN m ⟨k,a,b,c⟩).2.2⟩):=λhk ha e=>by
  obtain⟨v,er,h1,h2,h3⟩:=Sc hx q hc hk;rw[e,h1,a0q];by_cases g:er=0
  .obtain⟨h,hh,rfl⟩:=h3 g;rw[za (by simp[g])] at h2 |-;dsimp only;rw[FJ hx q ha hh,a0q,BE h2]
  .rw[zb g] at h2;rw[zb (by simpa using g),EW h2 g]
 have hk:k=1\/k=2\/k=3\/k=4\/k=5\/k=6\/k=7\/k=8\/k=9\/k=10:=by omega
 rcases hk with rfl | rfl | rfl | rfl | rfl | rfl | rfl | rfl | rfl | rfl
 .show ((dw m ⟨1,a,b,c⟩).bind λv9=>some (v9.1,v9.2))=_;rw[LD hx q hS hb hc];rfl
 .exact asks (by simp) (Nb hc).1 rfl
 .exact asks (by simp) (XJ hc) rfl
 .exact asks (by simp) (Vc hc).1 rfl
 .show ((T8 m c).bind λv3=>(K6 m v3 ⟨5,a,b,c⟩).bind λv4=>some (v4.1,v4.2))=_;rw[yM hx q (by have:=Vd hc;omega),a0q];unfold K6;rw[Dq hx q P (Og hx q hc)];·rfl
  .show (if L2 m a=0 then (m,0,2) else Fc m (L2 m a) b (L2 m c)).2.2=0->(if L2 m a=0 then (m,0,2) else Fc m (L2 m a) b (L2 m c)).2.1=L2 m c;unfold Fc;split;·exact λe=>absurd (show (2:Int)=0 from e) (by decide)
   .split;·exact λe=>absurd (show (2:Int)=0 from e) (by decide)
    .split;·exact λe=>absurd (show (5:Int)=0 from e) (by decide)
     .exact λ_=>rfl
 .show ((T8 m b).bind λv3=>(J0 m v3 ⟨6,a,b,c⟩).bind λv4=>some (v4.1,v4.2))=_;rw[yM hx q (by have:=Ru hc;omega),a0q];unfold J0;rw[Dq hx q P (Wb hx q hc)];·rfl
  .show (if 0<=b/\L2 m b=0 then (m,0,2) else if Sh.wI ⟨m.Tasks,30⟩ a=true then (m,0,7) else (PS m a.toNat (L2 m b) c,L2 m b,0)).2.2=0->(if 0<=b/\L2 m b=0 then (m,0,2) else if Sh.wI ⟨m.Tasks,30⟩ a=true then (m,0,7) else (PS m a.toNat (L2 m b) c,L2 m b,0)).2.1=L2 m b;split;·exact λe=>absurd (show (2:Int)=0 from e) (by decide)
   .split;·exact λe=>absurd (show (7:Int)=0 from e) (by decide)
    .exact λ_=>rfl
 .exact asks (by simp) (Ve hc).1 rfl
 .show ((T8 m b).bind λv3=>(K5 m v3 ⟨8,a,b,c⟩).bind λv4=>some (v4.1,v4.2))=_;rw[yM hx q (by have:=Vf hc;omega),a0q];unfold K5;rw[Dq hx q P (Of hx q hc)];·rfl
  .show (if L2 m a=0 then (m,0,2) else yY m (L2 m a) (L2 m b)).2.2=0->(if L2 m a=0 then (m,0,2) else yY m (L2 m a) (L2 m b)).2.1=L2 m b;unfold yY;split;·exact λe=>absurd (show (2:Int)=0 from e) (by decide)
   .split;·exact λe=>absurd (show (8:Int)=0 from e) (by decide)
    .exact λ_=>rfl
 .exact asks (by simp) (Vg hc).1 rfl
 .obtain⟨ha,hb⟩:=TP hc;have hp:aw m ⟨10,a,b,c⟩=(m,if L2 m a=L2 m b then 1 else 0,0):=rfl;show ((ix m.Roots a).bind λv1=>(ix m.Roots b).bind λv2=>if (v1==v2) then some (m,(⟨1,0⟩:g8)) else some (m,(⟨0,0⟩:g8)))=_;rw[Dp hx q ha.1 ha.2,a0q,Dp hx q hb.1 hb.2,a0q,BE hp,q.PA hx hz];by_cases g:L2 m a=L2 m b
  .rw[zb (by simpa using g),zb g]
  .rw[za (by simpa using g),za g]
theorem r8.ju(hS:SL x)(hz:Sh.zr x = [])(hb:x.S.Serial<9223372036854775807){o:k8}(hc:y6 o.Kind o.A o.B o.C=0)(hk:o.Kind<=10):(∃σ',r8 σ' (Sh.ju x o).1 (CN m o).1)/\(CN m o).2=(Sh.ju x o).2:=by
 rcases (vD hx q hS hz hb hc hk).r with ⟨e,he,hp,hd⟩ | ⟨σ',z,mz,v,hp,hzr,_,S,hd,_,_⟩;·rw[EW hp he,hd];exact⟨⟨σ,q⟩,rfl⟩
 .rw[BE hp,hd];have S2:=S.bI hzr;generalize Sh.bI z=y at S2 |-;generalize uy mz=my at S2 |-;exact⟨⟨σ',S2⟩,rfl⟩
end
def Pg(ps:List (List k8)):Prop:=Mp ps/\∀p∈ps,∀o∈p,y6 o.Kind o.A o.B o.C=0/\o.Kind<=10
theorem YC{l:List (List k8)}(h:fD l=true):Pg l:=by
 unfold fD at h;rw[zy,zf] at h;have key:∀p∈l,p.length<=6/\∀o∈p,pv o=true:=λp hp=>by
  have:=h.2 p hp;unfold tZ at this;rw[zy,zG,zf] at this;exact this
 refine⟨λp hp=>(key p hp).1,λp hp o ho=>?_⟩;have:=(key p hp).2 o ho;unfold pv at this;simp only[zy,zG,pu] at this;exact⟨this.2,this.1.2⟩
theorem Pg.FW{ps:List (List k8)}(h:Pg ps)(n:Int):∀o∈Sh.FW ps n,y6 o.Kind o.A o.B o.C=0/\o.Kind<=10:=by
 intro o ho;unfold Sh.FW at ho;split at ho;·cases ho
 .rename_i c;have hk:n.toNat<ps.length:=by omega
  rw[zd,zc hk] at ho;exact h.2 _ (zh hk) o ho
theorem r8.uR{σ:Int->Int}{x:Hp}{m:a8}(q:r8 σ x m)(ts:List g6):r8 σ (Sh.uR x ts) (Iz m (ts.map (tx σ))):=
 ⟨q.gd,q.nd,q.sl,q.ge,q.la,q.npl,q.se,q.ro,q.ce,q.p1,q.p2,rfl⟩
def vX(ps:List (List k8))(x:Hp)(m:a8):Prop:=(∃σ,r8 σ x m)/\m.Progs=ps
section
variable{ps:List (List k8)}{x:Hp}{m:a8}(hx:Oh x)(g:vX ps x m)
include hx g
theorem JA(hb:x.S.Serial<9223372036854775807){o:k8}(hc:y6 o.Kind o.A o.B o.C=0)(hk:o.Kind<=10):∃m',bU m o=some (m',⟨(ju x o).2.1,(ju x o).2.2⟩)/\vX ps (ju x o).1 m':=by
 obtain⟨⟨σ,q⟩,hp⟩:=g;obtain⟨S,e⟩:=q.ju hx.rt hx.sl hx.zr hb hc hk;refine⟨(CN m o).1,?_,S,?_⟩;·rw[VY hx.rt q hx.sl hx.zr hb hc hk,e]
 .rcases (vD hx.rt q hx.sl hx.zr hb hc hk).r with ⟨e,he,hp',_⟩ | ⟨σ',z,mz,v,hp',_,_,_,_,hpr,_⟩;·rw[EW hp' he];exact hp
  .rw[BE hp'];show (uy mz).Progs=ps;rw[xG,hpr,hp]
theorem VA{l:List k8}(hl:∀o∈l,y6 o.Kind o.A o.B o.C=0/\o.Kind<=10)(hl2:l.length<=1000)(hb:x.S.Serial+l.length<9223372036854775807):∃m',jx m l=some m'/\vX ps (runs x l).1 m':=by
 have all:=Ao hx.rt hx.sl hx.zr l hb (λ_=>True) trivial (λ_ _ _ _ _ _=>trivial);unfold jx;simp only[jn];obtain⟨e,h1,h2⟩:∃e,lp (S:=Int × a8) (E:=a8) (λ((s11,s12):Int × a8)=>
   if (decide (s11<(l.length:Int))) then
    (ix l s11).bind λv15=>
    (bU s12 v15).bind λv16=>
    some (.inl (w9 (s11+1),v16.1))
   else
   some (.inr s12)) (0,m)=some e/\vX ps (runs x l).1 e:=by
  refine iC l.length (λk t=>vX ps (runs x (l.take k)).1 t) (λe=>vX ps (runs x l).1 e) (by omega) g (λk t hk hP=>?_) (λt hP=>⟨t,?_,?_⟩)
  .obtain⟨a1,a2,a3,a4,a5,_⟩:=all k (by omega);obtain⟨hc,hk'⟩:=hl _ (zh hk);obtain⟨m',e1',e2'⟩:=JA ⟨a1,a2,a3⟩ hP (by omega) hc hk';refine .inl ⟨m',?_,?_⟩
   .dsimp only;rw[zb (by simpa using hk),s7 hk,a0q,e1',a0q,o0 (n:=k) (by omega)]
   .rw[T2 hk,qn];exact e2'
  .dsimp only;rw[za (by simp)]
  .rw[zW] at hP;exact hP
 exact⟨e,by rw[h1];rfl,h2⟩
theorem RI(hg:Pg ps){t:g6}{ts:List g6}(hq:x.Q.L=t::ts)(hb:x.S.Serial<8000000000000000000):∃u us,m.Tasks=u::us/\u.Prog=t.Prog/\∃m',dz m u=some m'/\vX ps (Lj ps x t ts) m':=by
 obtain⟨⟨σ,q⟩,hp⟩:=g;have hR:=hx.rt.sh.sr;have htk:m.Tasks=tx σ t::ts.map (tx σ):=by rw[q.tk,hq,zU]
 have hl6:=DD hg.1 t.Prog;have hpr:(tx σ t).Prog=t.Prog:=by unfold tx;split <;> rfl
 have hkd:(tx σ t).Kind=t.Kind:=by
  unfold tx;split;·rename_i h;exact h.symm
  .rfl
 refine⟨_,_,htk,hpr,?_⟩;have pok:=HS hx hq;have pse:=DC hx hq;obtain⟨rok,_,rse⟩:=DN hx hq ps (by omega);have hnx:∀M:a8,M.Tasks=tx σ t::ts.map (tx σ)->bj (⟨M.Tasks,30⟩:g7)=some (⟨ts.map (tx σ),30⟩,tx σ t,0):=λM h=>by
  rw[Ay,h];rfl
 have run:∀M,vX ps (pre x t ts) M->∃M',((dP M.Progs (tx σ t).Prog).bind λv9=>jx M v9)=some M'/\vX ps (WK ps x t ts) M':=λM hM=>by
  rw[vE,a0q,hM.2,hpr];exact VA pok hM (hg.FW t.Prog) (by omega) (by omega)
 unfold dz;simp only[jn];by_cases hk:t.Kind=1
 .have hk':(tx σ t).Kind=1:=by rw[hkd];exact hk
  have hat:(tx σ t).At=σ t.At:=by unfold tx;rw[zb hk]
  obtain⟨hl,_⟩:=Hz hx.rt hq hk;have hfr:=lL hx.rt hq hk;have r6:=q.r6 hx.rt;have kb:((tx σ t).Kind==1)=true:=by simp[hk']
  simp only[kb,zY];rw[hat,show W1 m 5 (σ t.At)=some (eP m 5 (σ t.At)) from yL (q.bn hR) (q.bl hx.rt.sh) (q.Zj hx.rt (.inr hl)) (r:=5) (by omega),a0q,yO,a0q,hnx (eP m 5 (σ t.At)) (by
   show (lk m (σ t.At)).Tasks=_;rw[bL];exact htk),a0q]
  dsimp only;have S0:=(q.uR ts).Un (Eh hx.rt hq) (r:=5) (h:=t.At) (k:=Ey m (σ t.At)) (.inr hl) λhl' hs=>by
   have:=hx.rt.fair t.At hl hs;rw[J1] at this;rw[q.lY hx.rt.sh hl];exact this
  have S1:r8 σ (G8 (Sh.uR x ts) 5 t.At) (Iz (eP m 5 (σ t.At)) (ts.map (tx σ))):=by
   have e:Iz (eP m 5 (σ t.At)) (ts.map (tx σ))=Zo (if σ t.At≠0/\11<=Ey m (σ t.At) then uC (Iz m (ts.map (tx σ))) (σ t.At) else Iz m (ts.map (tx σ))) (m.Roots.set 5 (σ t.At)):=by
    unfold eP lk;split <;> rfl
   rw[e];exact S0
  have S2:r8 σ (wP x ts t.At) (Iz (eP m 5 (σ t.At)) (ts.map (tx σ))):=S1.Qi (dC (x:=Sh.uR x ts) hx.rt.sh.sr 5 t.At).sr t.At;rw[show I0 ⟨(eP m 5 (σ t.At)).Nodes,(eP m 5 (σ t.At)).Slots,(eP m 5 (σ t.At)).Gens,(eP m 5 (σ t.At)).Last,(eP m 5 (σ t.At)).Places,(eP m 5 (σ t.At)).Serial,(eP m 5 (σ t.At)).Roots,(eP m 5 (σ t.At)).b7,(eP m 5 (σ t.At)).Pairs,ts.map (tx σ),(eP m 5 (σ t.At)).Progs⟩=_ from lQ hfr S2,a0q];have G1:vX ps (pre x t ts) (uy (Iz (eP m 5 (σ t.At)) (ts.map (tx σ)))):=by
   refine⟨⟨σ,?_⟩,?_⟩;·unfold pre;rw[zb hk];exact S2.bI hfr
   .rw[xG];show (lk m (σ t.At)).Progs=ps;rw[bL];exact hp
  obtain⟨M',h1,⟨σ',S3⟩,h3⟩:=run _ G1;rw[vE,a0q] at h1 |-;rw[h1,a0q];have rr:=bY rok.rt (r:=5) (by decide) (h:=0) (.inl rfl);have S4:=S3.G8 (r:=5) rok.rt.sh rok.rt.fair (.inl rfl);rw[S3.gd.z] at S4;have r6':=S3.r6 rok.rt;rw[show W1 M' 5 0=some (eP M' 5 0) from yL (S3.bn rok.rt.sh.sr) (S3.bl rok.rt.sh) (.inl rfl) (r:=5) (by omega),a0q,lQ rr S4,a0q];refine⟨_,rfl,⟨σ',?_⟩,?_⟩;·unfold Lj;rw[zb hk];exact S4.bI rr
  .rw[xG];show (lk M' 0).Progs=ps;rw[bL];exact h3
 .have kb:((tx σ t).Kind==1)=false:=by rw[hkd];simp[hk]
  simp only[kb,zA,ul];rw[yO,a0q,hnx m htk,a0q];dsimp only;have G1:vX ps (pre x t ts) (Iz m (ts.map (tx σ))):=by
   refine⟨⟨σ,?_⟩,hp⟩;unfold pre;rw[za hk];exact q.uR ts
  obtain⟨M',h1,h2⟩:=run _ G1;rw[vE,a0q] at h1 |-;rw[show jx ⟨m.Nodes,m.Slots,m.Gens,m.Last,m.Places,m.Serial,m.Roots,m.b7,m.Pairs,ts.map (tx σ),m.Progs⟩ _=_ from h1,a0q];refine⟨_,rfl,?_⟩;unfold Lj;rw[za hk];exact h2
end
section
variable{ps:List (List k8)}{x:Hp}{m:a8}(hx:Oh x)(g:vX ps x m)(hg:Pg ps)
include hx g hg
theorem HF{f:Int}(hf:0<=f)(hf2:f<=1000000)(hb:x.S.Serial<7900000000000000000):∃m',gL m f=some (m',⟨(dn ps (x,f):Int),TV (dr ps (x,f))⟩)/\vX ps (dr ps (x,f)).1 m':=by
 obtain⟨a1,a2,a3⟩:=Jq ps (p:=(x,f)) hf;have all:=CK ps (p:=(x,f)) hx hf (by show x.S.Serial+f<_;omega);dsimp only at a1;unfold gL;simp only[jn];obtain⟨e,h1,h2⟩:∃e,lp (S:=Int × Int × a8) (E:=(a8 × g8) ⊕ (Int × a8)) (λ((s15,s16,s17):Int × Int × a8)=>
   if (decide ((s17.Tasks.length:Int) > 0)) then
    (ix s17.Tasks 0).bind λv20=>
    (bP s17.Progs v20).bind λv21=>
    if (decide (v21 > s15)) then
     some (.inr (.inl (s17,(⟨s16,12⟩:g8))))
    else
    (dz s17 v20).bind λv22=>
    some (.inl (w9 (s15-v21),w9 (s16+1),v22))
   else
   some (.inr (.inr (s16,s17)))) (f,0,m)=some e/\∃m',vX ps (dr ps (x,f)).1 m'/\((e = .inl (m',⟨(dn ps (x,f):Int),12⟩)/\TV (dr ps (x,f))=12)\/(e = .inr ((dn ps (x,f):Int),m')/\TV (dr ps (x,f))=0)):=by
  refine vk (λs=>∃k:Nat,k<=dn ps (x,f)/\s.1=(dN ps k (x,f)).2/\s.2.1=(k:Int)/\vX ps (dN ps k (x,f)).1 s.2.2) _ (λs=>dn ps (x,f)-s.2.1.toNat) ⟨0,zX _,rfl,rfl,g⟩ (by show dn ps (x,f)-_<_;omega) ?_;rintro⟨s1,s2,M⟩ ⟨k,hk,e1',e2',G⟩;dsimp only at e1' e2' G;subst e1' e2';obtain⟨b1,b2,b3,b4⟩:=all k;dsimp only at b2 b3 b4;obtain⟨⟨σ,q⟩,hp⟩:=id G;have hlen:M.Tasks.length=(dN ps k (x,f)).1.Q.L.length:=by rw[q.tk,zl]
  rcases zE k (dn ps (x,f)) with c | c
  .obtain⟨t,ts,e,cc⟩:=a3 k c;left;obtain⟨u,us,hu,hup,M',h3,h4⟩:=RI b1 G hg e (by omega);have hc:=sL ps t;have hcs:BD ps u=BD ps t:=by unfold BD;rw[hup]
   refine⟨((dN ps (k+1) (x,f)).2,((k+1:Nat):Int),M'),?_,⟨k+1,c,rfl,rfl,?_⟩,by show _-_<_-_;dsimp only;omega⟩
   .dsimp only;rw[zb (by rw[hlen,e];simp),hu];show ((bP M.Progs u).bind _)=_;rw[hp,xu hg.1,a0q,hcs,za (by simp;omega),h3,a0q,U2 (by omega) (by omega),o0,sM,pq ps e,zb cc]
   .dsimp only;rw[sM,pq ps e,zb cc];exact h4
  .have hkk:k=dn ps (x,f):=by omega
   subst hkk;right;cases e:(dN ps (dn ps (x,f)) (x,f)).1.Q.L with
   | nil=>
    refine⟨_,?_,M,G,.inr ⟨rfl,?_⟩⟩
    .dsimp only;rw[za (by rw[hlen,e];simp)]
    .unfold TV dr;rw[e];rfl
   | cons t ts=>
    have hc:¬BD ps t<=(dN ps (dn ps (x,f)) (x,f)).2:=λq=>a2 ((EO ps e).2 q);have htk:M.Tasks=tx σ t::ts.map (tx σ):=by rw[q.tk,e,zU]
    have hpr:(tx σ t).Prog=t.Prog:=by unfold tx;split <;> rfl
    have hcs:BD ps (tx σ t)=BD ps t:=by unfold BD;rw[hpr]
    refine⟨_,?_,M,G,.inl ⟨rfl,?_⟩⟩
    .dsimp only;rw[zb (by rw[hlen,e];simp),htk];show ((bP M.Progs (tx σ t)).bind _)=_;rw[hp,xu hg.1,a0q,hcs,zb (by simp;omega)]
    .unfold TV dr;rw[e];rfl
 obtain⟨m',h3,⟨rfl,h5⟩ | ⟨rfl,h5⟩⟩:=h2;·exact⟨m',by rw[h1,h5];rfl,h3⟩
 .exact⟨m',by rw[h1,h5];rfl,h3⟩
theorem TZ(hb:x.S.Serial<7000000000000000000)(row:List Int):∃m',lU m row=some (m',⟨(er ps x row).2.1,(er ps x row).2.2⟩)/\vX ps (er ps x row).1 m':=by
 unfold lU;rw[(EV row).1,a0q];by_cases h:(bO row).2=0
 .have hc:=CL h;have he:er ps x row=eo ps x (bO row).1:=by unfold er;rw[za (λc=>c h)]
  rw[za (by simpa using h),he];unfold eo;by_cases h11:(bO row).1.Kind=11
  .rw[zb (by simpa using h11),zb h11];obtain⟨⟨σ,q⟩,hp⟩:=g;obtain⟨m',k1,k2,k3⟩:=FI hx.rt hx.sl hx.zr q;rw[k1,a0q];exact⟨m',rfl,⟨σ,k2⟩,by rw[k3,hp]⟩
  .rw[za (by simpa using h11),za h11];by_cases h12:(bO row).1.Kind=12
   .rw[zb (by simpa using h12),zb h12];rw[h12] at hc;have:=Na hc;obtain⟨m',k1,k2⟩:=HF hx g hg (f:=(bO row).1.A) (by omega) (by omega) (by omega);rw[k1,a0q];exact⟨m',rfl,k2⟩
   .rw[za (by simpa using h12),za h12];have:=tG hc;obtain⟨m',k1,k2⟩:=JA hx g (by omega) hc (by omega);rw[k1,a0q];exact⟨m',rfl,k2⟩
 .have he:er ps x row=(x,0,(bO row).2):=by unfold er;rw[zb h]
  rw[zb (by simpa using h),he];exact⟨m,rfl,g⟩
def Za(p:Int × Int):g8:=⟨p.1,p.2⟩
theorem VB{rows:List (List Int)}(hl:rows.length<=1000)(hb:x.S.Serial<1000000000000):∃m',cG m rows=some (m',(iS ps x rows).2.map Za)/\vX ps (iS ps x rows).1 m':=by
 unfold cG;simp only[jn];obtain⟨e,h1,h2⟩:∃e,lp (S:=Int × a8 × (List g8)) (E:=(a8 × (List g8))) (λ((s15,s16,s17):Int × a8 × (List g8))=>
   if (decide (s15<(rows.length:Int))) then
    (ix rows s15).bind λv20=>
    (lU s16 v20).bind λv21=>
    (app 16 s17 [v21.2]).bind λv22=>
    some (.inl (w9 (s15+1),v21.1,v22))
   else
   some (.inr (s16,s17))) (0,m,[])=some e/\(e.2=(iS ps x rows).2.map Za/\vX ps (iS ps x rows).1 e.1):=by
  refine iC (T:=a8 × List g8) rows.length (λk t=>t.2=(iS ps x (rows.take k)).2.map Za/\vX ps (iS ps x (rows.take k)).1 t.1) _ (by omega) ⟨rfl,g⟩ (λk t hk hP=>?_) (λt hP=>⟨t,?_,?_⟩)
  .obtain⟨M,acc⟩:=t;obtain⟨hacc,hM⟩:=hP;dsimp only at hacc hM;obtain⟨a1,a2⟩:=Hu hg.1 hx (rows.take k) (by rw[zaf];omega);rw[zaf] at a2;obtain⟨m',e1',e2'⟩:=TZ a1 hM hg (by omega) rows[k];have hla:acc.length=k:=by rw[hacc,zl,Jt,zaf];omega
   refine .inl ⟨(m',acc ++ [⟨(er ps (iS ps x (rows.take k)).1 rows[k]).2.1,(er ps (iS ps x (rows.take k)).1 rows[k]).2.2⟩]),?_,?_,?_⟩
   .dsimp only;rw[zb (by simpa using hk),s7 hk,a0q,e1',a0q,Hd (by omega) (by omega),a0q,o0 (n:=k) (by omega)]
   .dsimp only;rw[T2 hk,sU,q9,hacc];rfl
   .rw[T2 hk,sU];exact e2'
  .dsimp only;rw[za (by simp)]
  .rw[zW] at hP;exact hP
 exact⟨e.1,by rw[h1];show some _=_;rw[<-h2.1],h2.2⟩
end
theorem Xj(l:List (List k8)):∃b,iq l=some b/\(b=true->l.length<=10/\∀p∈l,p.length<=10):=by
 unfold iq;simp only[jn];refine XN (Q:=λb=>b=true->l.length<=10/\(∀p∈l,p.length<=10)) (min l.length 10) (λk=>∀h:k<l.length,(l[k]).length<=10) (by have:min l.length 10<=10:=Nat.min_le_right ..;omega) (λk hk=>?_) ?_ (λhP=>?_) (λhP=>?_)
 .have hkl:k<l.length:=by omega
  have hk10:k<10:=by omega
  have c:((decide (((k:Nat):Int)<(l.length:Int)))&&(decide (((k:Nat):Int)<10)))=true:=by simp;omega
  by_cases q:(l[k]).length<=10
  .refine⟨_,?_,.inl ⟨λ_=>q,rfl⟩⟩;rw[zb c,s7 hkl,a0q,za (by simp;omega),o0]
  .refine⟨_,?_,.inr ⟨λh=>q (h hkl),rfl⟩⟩;rw[zb c,s7 hkl,a0q,zb (by simp;omega)]
 .rw[za (by simp;omega)]
 .refine⟨_,rfl,λh=>?_⟩;have h10:l.length<=10:=by have:=zbl h;omega
  refine⟨h10,λp hp=>?_⟩;obtain⟨k,hk,rfl⟩:=ww hp;exact hP k (by omega) hk
 .exact⟨false,rfl,λh=>by cases h⟩
theorem Tl(l:List (List Int))(m:Int):∃b,gz l m=some b/\(b=true->(l.length:Int)<=m):=by
 unfold gz;simp only[jn];refine XN (Q:=λb=>b=true->(l.length:Int)<=m) (min l.length 200) (λk=>∀h:k<l.length,(l[k]).length<=10) (by have:min l.length 200<=200:=Nat.min_le_right ..;omega) (λk hk=>?_) ?_ (λhP=>?_) (λhP=>?_)
 .have hkl:k<l.length:=by omega
  have hk10:k<200:=by omega
  have c:((decide (((k:Nat):Int)<(l.length:Int)))&&(decide (((k:Nat):Int)<200)))=true:=by simp;omega
  by_cases q:(l[k]).length<=10
  .refine⟨_,?_,.inl ⟨λ_=>q,rfl⟩⟩;rw[zb c,s7 hkl,a0q,za (by simp;omega),o0]
  .refine⟨_,?_,.inr ⟨λh=>q (h hkl),rfl⟩⟩;rw[zb c,s7 hkl,a0q,zb (by simp;omega)]
 .rw[za (by simp;omega)]
 .exact⟨_,rfl,λh=>zbl h⟩
 .exact⟨false,rfl,λh=>by cases h⟩
def DE:List (List k8):=[[(⟨2,2,5,0⟩:k8)]]
def nB:List (List Int):=[[1,0,1,0],[5,0,0,0],[3,0,0,0],[11,0,0,0],[12,9,0,0],[3,2,0,0],[11,0,0,0],[2,9,0,0]]
def Dt:a8:=⟨[],[0,0,0],[0,0,0],5,8,0,List.replicate 6 0,List.replicate 6 ⟨0,false,-1⟩,[],[],DE⟩
def noM:a8:=⟨[],[],[],0,0,0,[],[],[],[],[]⟩
def Yz(k:Nat)(l:Int)(p:Nat)(ps:List (List k8)):a8:=⟨[],List.replicate k 0,List.replicate k 0,l,p,0,List.replicate 6 0,List.replicate 6 ⟨0,false,-1⟩,[],[],ps⟩
theorem Oy(k:Nat)(l:Int)(p i:Nat):ce (qe k l p).S i=⟨0,0,z0⟩:=by
 unfold ce qe;dsimp only;rw[zd,List.getElem?_replicate];split <;> rfl
theorem Wg(k:Nat)(l:Int)(p:Nat)(ps:List (List k8)):r8 (λ_=>0) (qe k l p) (Yz k l p ps):=by
 have nt:∀i,¬Th (ce (qe k l p).S i):=λi=>by rw[Oy];unfold Th;decide
 have rep:∀(f:Nat->Int),(∀i,f i=0)->List.replicate k (0:Int)=(List.range (qe k l p).S.S.b7.length).map f:=λf hf=>by
  symm
  rw[List.eq_replicate_iff];refine⟨by rw[zl,zb9];exact List.length_replicate ..,λb hb=>?_⟩;obtain⟨i,_,rfl⟩:=zw.1 hb;exact hf i
 refine⟨⟨rfl,λh i a=>absurd a.2.1 (nt i)⟩,⟨List.Pairwise.nil,λn=>⟨λh=>(nomatch h),λ⟨i,_,t,_⟩=>absurd t (nt i)⟩⟩,rep _ λi=>?_,rep _ λi=>by rw[Oy],rfl,?_,rfl,rfl,rfl,List.Pairwise.nil,λq=>⟨λh=>(nomatch h),λ⟨a,v,h,_⟩=>?_⟩,rfl⟩
 .unfold PE;rw[za (nt i),Oy];rfl
 .show (p:Int)=((List.replicate p _).length:Nat);rw[List.length_replicate]
 .obtain⟨i,hi,_⟩:=h;have:=hi.2.1;rw[show (qe k l p).T=List.replicate p ⟨0,0,0⟩ from rfl,vF] at this;cases this
theorem Ug{n last places:Int}{ps:List (List k8)}(hl:ps.length<=12)(hp:∀p∈ps,p.length<=12) :
  (∃e E,e≠0/\X7 n last places ps=some (E,e)/\eH n last places ps=some (noM,e)/\(e=13\/e=1/\¬((1<=n/\n<=24)/\(0<=last/\last<=9)/\1<=places/\places<=8))) \/
  (∃k p:Nat,n=k/\places=p/\(1<=k/\k<=24)/\Pg ps/\Rs (qe k last p) 0/\X7 n last places ps=some (⟨qe k last p,ps⟩,0)/\eH n last places ps=some (Yz k last p ps,0)/\vX ps (qe k last p) (Yz k last p ps)):=by
 rcases Yx (n:=n) (last:=last) (places:=places) hl hp with ⟨e,e1,_,e3⟩ | ⟨k,p,rfl,rfl,hk,hm,hr,e1,_⟩
 .left;have he:e≠0:=by omega
  refine⟨e,_,he,e1,?_,e3⟩;unfold eH;rw[e1,a0q,zb (by simpa using he)];rfl
 .right;have hpg:fD ps=true:=by
   cases hq:fD ps with
   | true=>rfl
   | false=>
    have e2:gb ps=some (fD ps):=FY (by omega) hp;unfold X7 at e1;rw[e2,a0q,hq,zb (show (!false)=true from rfl)] at e1;exact absurd (wd (λp=>p.2) (zJ e1)) (by simp)
  refine⟨k,p,rfl,rfl,hk,YC hpg,hr,e1,?_,⟨_,Wg k last p ps⟩,rfl⟩;unfold eH;rw[e1,a0q,za (by simp),kU (by omega) (by omega),a0q,show mk 8 6 (0:Int)=some (List.replicate 6 0) from rfl,a0q];refine ss (a:=List.replicate 6 ⟨0,false,-1⟩) (by kernel_rfl) ?_;rfl
theorem Tm:gA=some true:=by
 have hp:∀p∈DE,p.length<=12:=λp h=>by
  have:p = [⟨2,2,5,0⟩]:=zp.1 h;subst this;decide
 rcases Ug (n:=3) (last:=5) (places:=8) (ps:=DE) (by decide) hp with ⟨e,E,he,e1,e2,_⟩ | ⟨k,p,hk,hpp,_,hg,hr0,e1,e2,G⟩
 .have h3:eH 3 5 8 DE=some (Dt,0):=by kernel_rfl
  rw[e2] at h3;exact absurd (wd (λp=>p.2) (zJ h3)) he
 .obtain rfl:k=3:=by omega
  obtain rfl:p=8:=by omega
  have h3:cG (Yz 3 5 8 DE) nB=some ((cG Dt nB).getD (Dt,[])):=by kernel_rfl
  obtain⟨m',k1,_⟩:=VB hr0.oh G hg (rows:=nB) (by decide) (by have:=hr0.aR;omega);rw[h3] at k1;have k2:(iS DE (qe 3 5 8) nB).2.map Za=((cG Dt nB).getD (Dt,[])).2:=(wd (λp=>p.2) (zJ k1)).symm;have k3:(iS DE (qe 3 5 8) nB).2.map XG=((cG Dt nB).getD (Dt,[])).2:=k2;have b1:=ZE hg.1 hr0.oh nB (by decide) (by have:=hr0.aR;omega);rw[k3] at b1;unfold gA;refine ss (a:=(Yz 3 5 8 DE,(0:Int))) e2 ?_;refine ss (a:=((⟨qe 3 5 8,DE⟩:n9),(0:Int))) e1 ?_;refine ss (a:=(cG Dt nB).getD (Dt,[])) h3 ?_;refine ss b1 ?_;kernel_rfl
theorem XY{l:List (List k8)}{rows:List (List Int)}{m:Int}{K:Option Bool}(h:iq l=some true->l.length<=10->(∀p∈l,p.length<=10)->(rows.length:Int)<=m->K=some true) :
  ((iq l).bind λv1=>(D3 ((!v1)==false) false (gz rows m)).bind λv2=>(D3 (((!v1)||(!v2))==false) false gA).bind λv3=>if (((!v1)||(!v2))||(!v3)) then (gA).bind λv4=>some v4 else K)=some true:=by
 obtain⟨b,h1,h2⟩:=Xj l;obtain⟨c,h3,h4⟩:=Tl rows m;rw[h1,a0q,Tm];cases b;·rfl
 .rw[show D3 ((!true)==false) false (gz rows m)=gz rows m from rfl,h3,a0q];cases c;·rfl
  .exact h h1 (h2 rfl).1 (h2 rfl).2 (h4 rfl)
theorem Xb{ps:List (List k8)}{x:Hp}{m:a8}(hx:Oh x)(g:vX ps x m)(ht:iq ps=some true):uM m=some true:=by
 obtain⟨⟨σ,q⟩,hp⟩:=g;have B:=q.bn hx.rt.sh.sr;have C:=q.bl hx.rt.sh;have nl:=B.nl;have hR:=hx.rt.sh;have r6:=q.r6 hx.rt;have c6:m.b7.length=6:=by rw[q.ce,zl,hR.c6]
 have tl:m.Tasks.length<=30:=by rw[q.tk,zl];exact hR.q30
 have pl8:m.Pairs.length<=8:=by
  rw[(q.perm hR).length_eq,zl];unfold jU;rw[zl];exact zO (zD ..) hR.hr.l8
 have gl:=B.gl;unfold uM;simp only[jn];refine db m.Nodes.length (λ_=>True) (by omega) trivial (λk hk _=>.inl ⟨?_,trivial⟩) (λ_=>⟨.inr (),?_,?_⟩)
 .have c:((decide (((k:Nat):Int)<(m.Nodes.length:Int)))&&(decide (((k:Nat):Int)<60)))=true:=by simp;omega
  have:=B.fl _ (zh hk);rw[zb c,s7 hk,a0q,za (by simp;omega),o0]
 .rw[za (by simp)]
 .have e:((((((((decide ((m.Nodes.length:Int)<=50))&&(decide ((m.Pairs.length:Int)<=20)))&&(decide ((m.Tasks.length:Int)<=100)))&&(decide ((m.b7.length:Int)<=20)))&&(decide ((m.Roots.length:Int)<=20)))&&(decide ((m.Slots.length:Int)<=30)))&&(decide ((m.Gens.length:Int)<=30))))=true:=by
   simp;omega
  dsimp only;rw[e,hp];simp only[t8,fX];rw[ht];rfl
theorem vX.r6{ps:List (List k8)}{x:Hp}{m:a8}(hx:Oh x)(g:vX ps x m):m.Roots.length=6:=by
 obtain⟨⟨σ,q⟩,_⟩:=g;exact q.r6 hx.rt
theorem vX.lives{ps:List (List k8)}{x:Hp}{m:a8}(hx:Oh x)(g:vX ps x m):az m=some (EA x):=by
 obtain⟨⟨σ,q⟩,_⟩:=g;exact Dm hx.rt.sh.sr q
theorem modelEngine{n last places:Int}{l:List (List k8)}{rows:List (List Int)}:iP n last places l rows=some true:=by
 unfold iP;refine XY λht hl hp hr=>?_;have hp12:∀p∈l,p.length<=12:=λp q=>by have:=hp p q;omega
 rcases Ug (n:=n) (last:=last) (places:=places) (ps:=l) (by omega) hp12 with ⟨e,E,he,e1,e2,_⟩ | ⟨k,p,rfl,rfl,hk,hg,hr0,e1,e2,G⟩
 .rw[e2,a0q,e1,a0q];dsimp only;rw[zb (by simp[he])];simp
 .have hs:=hr0.aR;rw[e2,a0q,e1,a0q];dsimp only;rw[za (by simp)];simp only[jn];refine Y8 (T:=n9 × a8) rows.length (λk' t=>t.1=⟨(iS l (qe k last p) (rows.take k')).1,l⟩/\vX l (iS l (qe k last p) (rows.take k')).1 t.2) (by omega) ⟨rfl,G⟩ (λi t hi hP=>.inl ?_) (λt hP=>⟨.inr (),?_,rfl⟩)
  .obtain⟨E,M⟩:=t;obtain⟨hE,hM⟩:=hP;dsimp only at hE hM;subst hE;obtain⟨a1,a2⟩:=Hu hg.1 hr0.oh (rows.take i) (by rw[zaf];omega);rw[zaf] at a2;obtain⟨m',k1,k2⟩:=TZ a1 hM hg (by omega) rows[i];have k3:=edo hg.1 a1 (by omega) rows[i];obtain⟨o1,o2⟩:=TX hg.1 a1 (by omega) rows[i];have hsn:(iS l (qe k last p) (rows.take (i+1))).1=(er l (iS l (qe k last p) (rows.take i)).1 rows[i]).1:=by
    rw[T2 hi,sU]
   generalize iS l (qe k last p) (rows.take i)=Y at *;refine⟨(⟨(er l Y.1 rows[i]).1,l⟩,m'),?_,by rw[hsn],by rw[hsn];exact k2⟩;dsimp only;rw[zb (by simpa using hi),s7 hi,a0q,k1,a0q,k3,a0q];have hl1:=k2.r6 o1;have hl2:=o1.rt.sh.r6;have hsr:=Kw o1.rt.sh.sr;generalize er l Y.1 rows[i]=R at *;unfold XG;simp only[t8,Bool.and_self,zbf,fX];rw[Xb o1 k2 ht,a0q];simp only[t8,zbf,zcu,fX];rw[XU o1.rt.sh,a0q,hl1,hl2];simp only[t8,zbf,zcu,zbt,fX];rw[k2.lives o1,a0q,Vp (ps:=l) o1.rt,a0q,Lw (by omega),a0q];simp only[zbf,zcu,zA,ul];refine db 6 (λ_=>True) (by omega) trivial (λj hj _=>.inl ⟨?_,trivial⟩) (λ_=>⟨.inr (),by simp,?_⟩)
   .obtain⟨⟨σ,q⟩,_⟩:=k2;rw[zb (by simp;omega),Dp o1.rt q (r:=(j:Int)) (by omega) (by omega),a0q,RK o1.rt.sh,a0q,Zt o1.rt.sh,a0q,q.said o1.rt,q.aR o1.rt (dD o1.rt.sh _),za (by simp),o0 (n:=j) (by omega)]
   .dsimp only;rw[o0 (n:=i) (by omega)]
  .dsimp only;rw[za (by simp)]
section
variable{σ:Int->Int}{x:Hp}{m:a8}(hx:Oh x)(q:r8 σ x m)
include hx q
end
section
variable{σ:Int->Int}{x:Hp}{m:a8}(hx:Oh x)(q:r8 σ x m)
include hx q
end
section
variable{σ:Int->Int}{x:Hp}{m:a8}(hx:Oh x)(q:r8 σ x m)
include hx q
end
end Go.Sh
