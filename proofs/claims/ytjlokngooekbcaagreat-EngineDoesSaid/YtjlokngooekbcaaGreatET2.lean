/- A part. -/
import Derived.Test.YtjlokngooekbcaaGreatET
set_option linter.unusedVariables false
set_option linter.unusedSimpArgs false
set_option linter.unusedSectionVars false
namespace Go.Sh
instance(s:a7)(h:Int)(i:Nat):Decidable (X6 s h i):=by unfold X6;infer_instance
abbrev YF(o:n7)(n:Int):n7:=⟨o.Serial,o.Strong,n,o.Prog,o.Started,o.Fields⟩
def pY(s:a7)(i:Nat)(d:Int):a7:=dH s i (YF (ce s i).Val ((ce s i).Val.Weak+d))
def Cp(s:a7)(i:Nat):a7:=I4 s i (if (ce s i).Gen=s.S.Last then ⟨3,(ce s i).Gen,z0⟩ else ⟨0,(ce s i).Gen+1,z0⟩)
def dY(s:a7)(i:Nat):Int:=1+(i:Int)+32*(ce s i).Gen
theorem Lg{s:a7}{i:Nat}(hi:i<s.S.Cells.length)(ht:Th (ce s i)):X6 s (dY s i) i:=⟨hi,ht,rfl⟩
theorem xD{s:a7}(hR:SR s){i:Nat}(hi:i<s.S.Cells.length):1<=dY s i:=by
 have:=hR.cell i hi;unfold dY;omega
section
variable{s:a7}(hR:SR s){i:Nat}(hi:i<s.S.Cells.length)(ht:Th (ce s i))
include hR hi ht
theorem Ab{d:Int}(hd:0<=(ce s i).Val.Weak+d):SR (pY s i d):=by
 have:=hR.ok i hi ht;exact hR.put hi ht rfl ⟨this.s1,this.s2,this.st,hd,this.p1,this.p2,this.fl⟩
theorem gb(d:Int)(j:Nat):ce (pY s i d) j=if j=i then ⟨(ce s i).State,(ce s i).Gen,YF (ce s i).Val ((ce s i).Val.Weak+d)⟩ else ce s j:=ml hi _ j
theorem mL{d:Int}(hd:0<=(ce s i).Val.Weak+d):Kn s (pY s i d):=by
 have hS:=Ab hR hi ht hd;refine⟨hS,O5 ..,PY hR hi rfl hS,λk j=>xz hi _,λk hk=>?_⟩;have q:=B5 hR hk;rw[Q5 hS ((yt hi _).2 q),Q5 hR q,gb hR hi ht];split
 .rename_i e;rw[e];exact⟨_,_,rfl⟩
 .exact⟨_,_,rfl⟩
theorem mM{d:Int}(hd:0<=(ce s i).Val.Weak+d){k:Int}(hk:k∈lv s):(ob (pY s i d) k).Strong=(ob s k).Strong:=by
 have hS:=Ab hR hi ht hd;have q:=B5 hR hk;rw[Q5 hS ((yt hi _).2 q),Q5 hR q,gb hR hi ht];split
 .rename_i e;rw[e]
 .rfl
omit ht in
theorem DZ:SR (Cp s i):=by
 have hc:=hR.cell i hi;have no:CX (oo z0):=⟨rfl,rfl,rfl,rfl,rfl,rfl⟩;unfold Cp;split;·exact hR.I4 hi ⟨by simp,by simp,hc.2.2.1,hc.2.2.2⟩ (λ_=>no) (λq=>absurd q (by unfold Th;simp))
 .refine hR.I4 hi ⟨by simp,by simp,?_,?_⟩ (λ_=>no) (λq=>absurd q (by unfold Th;simp));·show 0<=(ce s i).Gen+1;omega
  .show (ce s i).Gen+1<=s.S.Last;omega
omit hR ht in
theorem DW:∃c,(c.State=0\/c.State=3)/\Cp s i=I4 s i c/\∀j,ce (Cp s i) j=if j=i then c else ce s j:=by
 unfold Cp;split;·exact⟨_,.inr rfl,rfl,λj=>M2 hi _ j⟩
 .exact⟨_,.inl rfl,rfl,λj=>M2 hi _ j⟩
omit ht in
theorem DX (h2:(ce s i).State=2):lv (Cp s i)=lv s:=by
 obtain⟨c,c1,c2,_⟩:=DW (s:=s) hi;have hS:=DZ hR hi;rw[c2] at hS |-;rw[LJ hR hi (by omega) hS,zap];intro h hh;rw[zx];intro e;have:=(B5 hR hh).2.1;rw[e] at this;omega
omit ht in
theorem DY (h2:(ce s i).State=2) {k:Int} (hk:k∈lv s):ob (Cp s i) k=ob s k:=by
 obtain⟨c,c1,c2,_⟩:=DW (s:=s) hi;have hS:=DZ hR hi;rw[c2] at hS |-;refine LQ hR hi hS hk λe=>?_;have:=(B5 hR hk).2.1;rw[e] at this;omega
omit ht in
theorem WM {k:Int} {j:Nat}:X6 (Cp s i) k j↔X6 s k j/\j≠i:=by
 obtain⟨c,c1,c2,c3⟩:=DW (s:=s) hi;by_cases e:j=i
 .subst e;constructor
  .rintro⟨_,h,_⟩;rw[c3,zb rfl] at h;unfold Th at h;omega
  .rintro⟨_,h⟩;exact absurd rfl h
 .rw[c2,OI hi c e];simp[e]
theorem Tu(h2:(ce s i).State=2)(y:Int):jy (Cp s i) y=jy s y:=by
 unfold jy;rw[DX hR hi h2];congr 1;refine zG λx hx=>?_;unfold outs;rw[DY hR hi h2 hx]
end
def kY(x:Hp)(h:Int)(d:Int):Hp:=if X6 x.S h (E4 h) then wS x (pY x.S (E4 h) d) else x
def pC(x:Hp)(h:Int):Hp:=
 if X6 x.S h (E4 h) then
  (if (ce x.S (E4 h)).State=2/\(ce x.S (E4 h)).Val.Weak=1 then wS x (Cp (pY x.S (E4 h) (-1)) (E4 h)) else wS x (pY x.S (E4 h) (-1)))
 else x
abbrev jV(h call:Int):g9:=⟨h,h != 0,call⟩
def uM(x:Hp)(w:Nat):Int:=(x.Cells.getD w ⟨0,false,0⟩).Target
def eC(x:Hp)(w:Nat)(h call:Int):Hp:=pC (kY (wC x (x.Cells.set w (jV h call))) h 1) (uM x w)
theorem TS{l:List g9}{w:Nat}(hw:w<l.length)(c:g9){k:Int}(hk:k≠0):xg (l.set w c) k+(if l[w].Target=k then 1 else 0)=xg l k+if c.Target=k then 1 else 0:=by
 unfold xg;rw[List.countP_set hw];have e:∀d:g9,(((k != 0)&&(d.Target==k))=true)=(d.Target=k):=λd=>by simp[hk]
 simp only[e];have:(if l[w].Target=k then 1 else 0)<=l.countP λc=>(k != 0)&&(c.Target==k):=by
  split
  .rename_i q;exact zbo.2 ⟨l[w],zd hw,by simp[q,hk]⟩
  .exact t7 _
 omega
theorem tM{l:List g9}{i:Nat}(hi:i<l.length)(h0:l[i].Target≠0):0<xg l l[i].Target:=zbo.2 ⟨l[i],zd hi,by simp[h0]⟩
theorem IA{x:Hp}(hx:P5 x){w:Nat}(hw:w<6){h call:Int}(hh:h=0\/h∈lv x.S)(hc : -1<=call/\call<=5)(hq:II x.Q w=false):P5 (eC x w h call):=by
 have hR:=hx.sh.sr;have hwl:w<x.Cells.length:=by rw[hx.sh.c6];exact hw
 have htg:uM x w=x.Cells[w].Target:=by
  unfold uM;rw[zf,zc hwl];rfl
 have s1:jX (wC x (x.Cells.set w (jV h call))):=by
  have:=hx.sh;refine⟨this.sr,this.hr,this.r6,by simpa using this.c6,this.cap,this.q30,this.tk,this.td,this.rt,this.fl,this.pr,λi hi=>?_⟩;dsimp only at hi |-;rw[zb4];rw[zbm] at hi;split
  .rename_i e;subst e;dsimp only;refine⟨hc.1,hc.2,λq=>by simp[q],λq=>?_,λq=>?_⟩;·exact⟨_,(B5 hR (hh.resolve_left q)).d⟩
   .have q:h≠0:=by simpa using q
    exact⟨hh.resolve_left q,hq⟩
  .exact this.cl i hi
 have k2:∃s2,kY (wC x (x.Cells.set w (jV h call))) h 1=wS (wC x (x.Cells.set w (jV h call))) s2/\Kn x.S s2/\(∀k∈lv x.S,(ob s2 k).Strong=(ob x.S k).Strong) /\
   ∀i,i<x.S.S.Cells.length->(ce s2 i).State=(ce x.S i).State/\(ce s2 i).Gen=(ce x.S i).Gen/\(ce s2 i).Val.Fields=(ce x.S i).Val.Fields/\(ce s2 i).Val.Strong=(ce x.S i).Val.Strong/\(Th (ce x.S i)->(ce s2 i).Val.Weak=(ce x.S i).Val.Weak+if h=dY x.S i then 1 else 0):=by
  unfold kY;rcases hh with h0 | hh
  .have hno:¬X6 x.S h (E4 h):=λq=>by have:=q.Rf hR;omega
   rw[za hno];refine⟨x.S,rfl,(xa.refl hR).kn hR,λ_ _=>rfl,λi hi=>⟨rfl,rfl,rfl,rfl,λht=>?_⟩⟩;have:=xD hR hi;rw[za (by omega)];omega
  .have hp:=B5 hR hh;have hwk:=(hR.ok _ hp.1 (.inl hp.2.1)).wk;rw[zb hp.d];refine⟨_,rfl,mL hR hp.1 (.inl hp.2.1) (by omega),λk hk=>mM hR hp.1 (.inl hp.2.1) (by omega) hk,λi hi=>?_⟩;rw[gb hR hp.1 (.inl hp.2.1)];split
   .rename_i e;subst e;refine⟨rfl,rfl,rfl,rfl,λ_=>?_⟩;rw[zb (show h=dY x.S (E4 h) from hp.2.2)]
   .rename_i e;refine⟨rfl,rfl,rfl,rfl,λht=>?_⟩;rw[za];·omega
    .intro q;exact e (X6.one hR (q▸Lg hi ht) hp.d)
 obtain⟨s2,e2,kn2,st2,ce2⟩:=k2;have hR2:=kn2.sr;have len2:=kn2.len;have hS2:jX (wS (wC x (x.Cells.set w (jV h call))) s2):=s1.kn kn2;have hdl2:∀i,i<x.S.S.Cells.length->dY s2 i=dY x.S i:=λi hi=>by unfold dY;rw[(ce2 i hi).2.1]
 have th2:∀i,i<x.S.S.Cells.length->(Th (ce s2 i)↔Th (ce x.S i)):=λi hi=>by unfold Th;rw[(ce2 i hi).1]
 have wk2:∀i,i<x.S.S.Cells.length->Th (ce x.S i)->(ce s2 i).Val.Weak=(xg (x.Cells.set w (jV h call)) (dY x.S i):Int)+if uM x w=dY x.S i then 1 else 0:=λi hi ht=>by
  have h0:dY x.S i≠0:=by have:=xD hR hi;omega
  have:=TS hwl (jV h call) h0;rw[(ce2 i hi).2.2.2.2 ht,(hx.wk i hi ht).1,htg];dsimp only at this;unfold dY at this |-;by_cases a:h=1+(i:Int)+32*(ce x.S i).Gen <;> by_cases b:x.Cells[w].Target=1+(i:Int)+32*(ce x.S i).Gen
  .rw[zb a,zb b] at *;omega
  .rw[zb a,za b] at *;omega
  .rw[za a,zb b] at *;omega
  .rw[za a,za b] at *;omega
 have dd2:∀i,i<x.S.S.Cells.length->(ce s2 i).State=2->(ce s2 i).Val.Fields = []/\(ce s2 i).Val.Strong=0:=λi hi q=>by
  obtain⟨a,_,b,c,_⟩:=ce2 i hi;rw[a] at q;rw[b,c];exact ((hx.wk i hi (.inr q)).2 q).2
 have nms2:∀k,qP (wS (wC x (x.Cells.set w (jV h call))) s2) k=qP x k:=λk=>by
  unfold qP nZ;dsimp only;rw[kn2.jy]
 have fair2:cJ (wS (wC x (x.Cells.set w (jV h call))) s2) []:=hx.fair.mv kn2.lv st2 λk _=>by rw[nms2]
 unfold eC;rw[e2];unfold pC;dsimp only;by_cases hold:uM x w=0
 .have hno:¬X6 s2 (uM x w) (E4 (uM x w)):=λq=>by have:=q.Rf hR2;omega
  rw[za hno];refine⟨hS2,λi hi ht=>?_,fair2⟩;dsimp only at hi ht |-;rw[len2] at hi;have ht':=(th2 i hi).1 ht;have h0:=xD hR hi;have hw2:=wk2 i hi ht';rw[za (by omega)] at hw2;rw[show (1+(i:Int)+32*(ce s2 i).Gen)=dY x.S i from hdl2 i hi];refine⟨by omega,λq=>⟨?_,dd2 i hi q⟩⟩;have q':(ce x.S i).State=2:=by rw[<-(ce2 i hi).1];exact q
  have:=((hx.wk i hi ht').2 q').1;rw[(ce2 i hi).2.2.2.2 ht'];split <;> omega
 .obtain⟨p,hp⟩:∃p,X6 x.S (uM x w) p:=by
   rw[htg] at hold |-;exact (hx.sh.cl w hwl).2.2.2.1 hold
  have hpp:=hp.E4 hR;have hp2:X6 s2 (uM x w) p:=(kn2.ad _ _).2 hp;have hth:uM x w=dY x.S p:=hp.2.2;rw[hpp,zb hp2];have hpl2:=hp2.1;have hw2:=wk2 p hp.1 hp.2.1;rw[zb hth] at hw2;have hd:0<=(ce s2 p).Val.Weak+(-1):=by omega
  have kn3:=mL hR2 hpl2 hp2.2.1 hd;have hR3:=kn3.sr;have ce3:=gb hR2 hpl2 hp2.2.1 (-1);have hS3:jX (wS (wC x (x.Cells.set w (jV h call))) (pY s2 p (-1))):=hS2.kn kn3;have fair3:cJ (wS (wC x (x.Cells.set w (jV h call))) (pY s2 p (-1))) []:=fair2.mv kn3.lv (λk hk=>mM hR2 hpl2 hp2.2.1 hd hk) λk _=>by
   unfold qP nZ;dsimp only;rw[kn3.jy]
  have wk3:∀i,i<x.S.S.Cells.length->Th (ce x.S i)->(ce (pY s2 p (-1)) i).Val.Weak=(xg (x.Cells.set w (jV h call)) (dY x.S i):Int):=λi hi ht=>by
   rw[ce3];by_cases e:i=p
   .subst e;rw[zb rfl];dsimp only;omega
   .rw[za e,wk2 i hi ht,za];·omega
    .intro q;exact e (X6.one hR (q▸Lg hi ht) hp)
  have cs3:∀i,(ce (pY s2 p (-1)) i).State=(ce s2 i).State/\(ce (pY s2 p (-1)) i).Gen=(ce s2 i).Gen/\(ce (pY s2 p (-1)) i).Val.Fields=(ce s2 i).Val.Fields/\(ce (pY s2 p (-1)) i).Val.Strong=(ce s2 i).Val.Strong:=λi=>by
   rw[ce3];split
   .rename_i e;subst e;exact⟨rfl,rfl,rfl,rfl⟩
   .exact⟨rfl,rfl,rfl,rfl⟩
  by_cases hg:(ce s2 p).State=2/\(ce s2 p).Val.Weak=1
  .-- the slot is given back
   rw[zb hg];have hpl3:p<(pY s2 p (-1)).S.Cells.length:=by rw[kn3.len];exact hpl2
   have h23:(ce (pY s2 p (-1)) p).State=2:=by rw[(cs3 p).1];exact hg.1
   have hn0:xg (x.Cells.set w (jV h call)) (uM x w)=0:=by rw[hth];omega
   have hlv:=DX hR3 hpl3 h23;have hob:=λk hk=>DY (k:=k) hR3 hpl3 h23 hk;obtain⟨c,c1,c2,c3⟩:=DW (s:=pY s2 p (-1)) hpl3;refine⟨⟨DZ hR3 hpl3,hS3.hr,hS3.r6,hS3.c6,hS3.cap,hS3.q30,λt htt=>?_,hS3.td,λv hv=>?_,λv hv u hu=>?_,λk v hkv=>?_,λi hi=>?_⟩,λi hi ht=>?_,?_⟩
   .obtain⟨a,b,d⟩:=hS3.tk t htt;refine⟨a,b,?_⟩;dsimp only at d |-;rw[hlv];rcases d with ⟨d1,d2,d3⟩ | d;·exact .inl ⟨d1,d2,by rw[hob _ d2];exact d3⟩
    .exact .inr d
   .dsimp only;rw[hlv];exact hS3.rt v hv
   .dsimp only at hv hu |-;rw[hlv] at hv |-;rw[hob _ hv] at hu;exact hS3.fl v hv u hu
   .dsimp only;rw[hlv];exact hS3.pr k v hkv
   .obtain⟨a1,a2,a3,a4,a5⟩:=hS3.cl i hi;refine⟨a1,a2,a3,λq=>?_,λq=>?_⟩
    .obtain⟨j,hj⟩:=a4 q;refine⟨j,(WM hR3 hpl3).2 ⟨hj,λe=>?_⟩⟩;subst e;have e1:=(kn2.ad _ _).1 ((kn3.ad _ _).1 hj);have e2:(x.Cells.set w (jV h call))[i].Target=uM x w:=e1.2.2.trans hp.2.2.symm;have:=tM hi q;dsimp only at this;rw[e2] at this;omega
    .dsimp only;rw[hlv];exact a5 q
   .dsimp only at hi ht |-;rw[show (Cp (pY s2 p (-1)) p).S.Cells.length=x.S.S.Cells.length by rw[c2,Z6,kn3.len,len2]] at hi;rw[c3] at ht |-;split at ht;·unfold Th at ht;omega
    .rename_i e;rw[za e];have ht':Th (ce x.S i):=(th2 i hi).1 (by unfold Th at ht |-;rw[(cs3 i).1] at ht;exact ht);have:=wk3 i hi ht';rw[show (1+(i:Int)+32*(ce (pY s2 p (-1)) i).Gen)=dY x.S i by rw[(cs3 i).2.1];exact hdl2 i hi];refine⟨this,λq=>?_⟩;rw[(cs3 i).1] at q;rw[(cs3 i).2.2.1,(cs3 i).2.2.2,ce3,za e];refine⟨?_,dd2 i hi q⟩;have q':(ce x.S i).State=2:=by rw[<-(ce2 i hi).1];exact q
     have:=((hx.wk i hi ht').2 q').1;rw[(ce2 i hi).2.2.2.2 ht'];split <;> omega
   .refine fair3.mv hlv (λk hk=>by rw[hob k hk]) λk _=>?_;unfold qP nZ;dsimp only;rw[Tu hR3 hpl3 (.inr h23) h23]
  .rw[za hg];refine⟨hS3,λi hi ht=>?_,fair3⟩;dsimp only at hi ht |-;rw[kn3.len,len2] at hi;have ht':Th (ce x.S i):=(th2 i hi).1 (by unfold Th at ht |-;rw[(cs3 i).1] at ht;exact ht);have:=wk3 i hi ht';rw[show (1+(i:Int)+32*(ce (pY s2 p (-1)) i).Gen)=dY x.S i by rw[(cs3 i).2.1];exact hdl2 i hi];refine⟨this,λq=>?_⟩;rw[(cs3 i).1] at q;rw[(cs3 i).2.2.1,(cs3 i).2.2.2];refine⟨?_,dd2 i hi q⟩;rw[ce3];split
   .rename_i e;subst e;dsimp only;have:(ce s2 i).Val.Weak≠1:=λq2=>hg ⟨q,q2⟩;omega
   .have q':(ce x.S i).State=2:=by rw[<-(ce2 i hi).1];exact q
    have:=((hx.wk i hi ht').2 q').1;rw[(ce2 i hi).2.2.2.2 ht'];split <;> omega
def nB(c:g9):m9:=⟨c.Target,c.Intact,c.Call⟩
def hO(x:Hp):c5:=⟨sO x.S,x.Roots,x.Cells.map nB,x.T.map J7,gl x.Q⟩
structure HB (x:Hp):Prop where
 sb:SB x.S
 fb:FB x.S
 rb:LB x.Roots
 cb:∀c∈x.Cells,c.Target<=9223372036854775807
 tb:TB x.T
 qb:∀t∈x.Q.L,t.At<=9223372036854775807
theorem PU{β:Type}{b:Nat}{f:Int × List β->Option ((Int × List β) ⊕ List β)}(n:Nat)(g:Nat->β)(hb:0<b)(h:n*b<=140737488355328)
  (hs:∀(k:Nat) acc,k<n->f ((k:Int),acc)=(app b acc [g k]).bind λv=>some (.inl (A1 ((k:Int)+1),v)))(he:∀acc,f ((n:Int),acc)=some (.inr acc)):lp f (0,[])=some ((List.range n).map g):=by
 have hl:n*1<=n*b:=Nat.mul_le_mul_left _ hb;refine gH (eK n (λk l=>l=(List.range k).map g) (λe=>e=(List.range n).map g) (by omega) (by simp) ?_ ?_)
 .rintro k l hk rfl;have h3:(k+1)*b<=n*b:=zm _ hk;refine .inl ⟨(List.range (k+1)).map g,?_,rfl⟩;rw[hs k _ hk,B3 hb (by simp;omega),a1b,l6,List.range_succ,zaa];rfl
 .rintro l rfl;exact⟨_,he _,rfl⟩
theorem DG{R:Type}{f:Int->Option (Int ⊕ (Bool ⊕ Unit))}{κ:Bool ⊕ Unit->Option R}{Q:R->Prop}(n:Nat)(p:Nat->Prop)(hn:n<4611686018427387904)
  (hs:∀k:Nat,k<n->∃z,f (k:Int)=some z/\((p k/\z = .inl ((k+1:Nat):Int))\/(¬p k/\z = .inr (.inl false))))(he:f (n:Int)=some (.inr (.inr ())))
  (h1:(∀k,k<n->p k)->∃r,κ (.inr ())=some r/\Q r)(h0:(¬∀k,k<n->p k)->∃r,κ (.inl false)=some r/\Q r):∃r,(lp f 0).bind κ=some r/\Q r:=by
 obtain⟨e,e1,e2⟩:=Cx (f:=f) n (λk=>∀j,j<k->p j) (λe=>(e = .inr ()/\∀k,k<n->p k)\/(e = .inl false/\¬∀k,k<n->p k)) hn (λj hj=>by omega) (λk hk hP=>by
  obtain⟨z,z1,z2⟩:=hs k hk;rcases z2 with ⟨a,rfl⟩ | ⟨a,rfl⟩
  .refine .inl ⟨z1,λj hj=>?_⟩;rcases zy j k with q | q
   .exact hP j q
   .have:j=k:=by omega
    subst this;exact a
  .exact .inr ⟨_,z1,.inr ⟨rfl,λq=>a (q k hk)⟩⟩) (λhP=>⟨_,he,.inl ⟨rfl,hP⟩⟩)
 rw[e1];rcases e2 with ⟨rfl,h⟩ | ⟨rfl,h⟩;·exact h1 h
 .exact h0 h
theorem Ro{s:a7}(hR:SR s){h:Int}(hh:h∈lv s):cZ s h (ob s h)=s:=by
 have q:=B5 hR hh;unfold cZ dH;rw[Q5 hR q];have e:s.S.Cells.set (E4 h) ⟨(ce s (E4 h)).State,(ce s (E4 h)).Gen,(ce s (E4 h)).Val⟩=s.S.Cells:=by
  rw[show (⟨(ce s (E4 h)).State,(ce s (E4 h)).Gen,(ce s (E4 h)).Val⟩:c4)=ce s (E4 h) from rfl,F5 q.1];exact List.set_getElem_self q.1
 rw[e]
section
variable{x:Hp}(hR:SR x.S)
include hR
theorem PN{h:Int}(hh:h<=9223372036854775807):jx x h=some (decide (h∈lv x.S)):=by
 unfold jx;obtain⟨e,h1,h2⟩:=T0 (x8.2 hR) hh;rw[h1,a1b];congr 1;rw[zan,ww,zx,h2]
theorem mJ{h:Int}(hh:h<=9223372036854775807):ab (hO x) h=some (decide (h∈lv x.S)):=by
 unfold ab;obtain⟨e,h1,h2⟩:=T0 (x8.2 hR) hh;rw[show (hO x).S=sO x.S from rfl,iv x.S (by have:=hR.len;omega) hh,h1,zM,a1b];congr 1;rw[zan,ww,zx,h2]
theorem eM{h:Int}(hh:h<=9223372036854775807):M4 x h=some (decide (h=0\/h∈lv x.S)):=by
 unfold M4;by_cases q:h=0
 .subst q;simp[u5]
 .have e:(h==0)=false:=by simpa using q
  rw[e];simp only[zF,J9,za7];rw[PN hR hh,a1b];simp[q]
theorem mK{h:Int}(hh:h<=9223372036854775807):ae (hO x) h=some (decide (h=0\/h∈lv x.S)):=by
 unfold ae;by_cases q:h=0
 .subst q;simp[u5]
 .have e:(h==0)=false:=by simpa using q
  rw[e];simp only[zF,J9,za7];rw[mJ hR hh,a1b];simp[q]
theorem WX{c:Int}(hc:c<=9223372036854775807):pP c=some (W2 c):=by
 unfold pP hZ H8 W2;simp only[a1b];by_cases q:12<=c
 .rw[zb (by simpa using q),zb q,a1b]
 .rw[za (by simpa using q),za q,a1b];by_cases q2:c<0
  .rw[zb (show 0 > c from q2),zb q2];rfl
  .rw[za (show ¬0 > c from q2),za q2,G4 (by omega) (by omega)]
theorem GR{c:Int}(hc:c<=9223372036854775807):tS c=some (W2 c):=by
 unfold tS bq W2;simp only[a1b];by_cases q:12<=c
 .rw[zb (by simpa using q),zb q]
 .rw[za (by simpa using q),za q];by_cases q2:c<0
  .rw[zb (by simpa using q2),zb q2]
  .rw[za (by simpa using q2),za q2,G4 (by omega) (by omega)]
omit hR in
theorem QR {s:a7} (hR:SR s) {h:Int} (hh:h∈lv s) {n:Int} (hn:0<=n):L8 s h (CS (ob s h) n)=some (cZ s h (CS (ob s h) n),0):=by
 have:=L1 hR hh;exact uI (o:=CS (ob s h) n) hR hh rfl ⟨this.s1,this.s2,hn,this.wk,this.p1,this.p2,this.fl⟩
omit hR in
theorem uJ {s:a7} (hR:SR s) {h:Int} (hh:h∈lv s) {o:n7} (hs:o.Serial=(ob s h).Serial) (ho:Bp s o):O6 (sO s) h (oo o)=some (sO (cZ s h o),0):=by
 have:=I8 hR hh;rw[Rt s hR.len (by omega) o,uI hR hh hs ho];rfl
theorem lI{h:Int}(hh:h<=9223372036854775807)(hB:∀k∈lv x.S,(ob x.S k).Strong<=9223372036854775807):aL x h=some (D8 x h):=by
 unfold aL W0 D8 uL;obtain⟨e,h1,h2⟩:=T0 (x8.2 hR) hh;rw[h1,a1b];by_cases q:h∈lv x.S
 .have e0:=h2.2 q;subst e0;rw[zb q,WX hR (hB h q)];simp only[zF,zD,a1b];have:=QR hR q (E7 (L1 hR q).st);rw[this];rfl
 .have:(e==0)=false:=by simpa using λc=>q (h2.1 c)
  rw[this,za q];rfl
theorem pj{h:Int}(hh:h<=9223372036854775807)(hB:∀k∈lv x.S,(ob x.S k).Strong<=9223372036854775807):aR (hO x) h=some (hO (D8 x h)):=by
 unfold aR iI D8 uL;obtain⟨e,h1,h2⟩:=T0 (x8.2 hR) hh;have hg:G9 (hO x).S h=some (oo (ob x.S h),e):=by
  rw[show (hO x).S=sO x.S from rfl,iv x.S (by have:=hR.len;omega) hh,h1];rfl
 rw[hg,a1b];by_cases q:h∈lv x.S
 .have e0:=h2.2 q;subst e0;have hs:tS (oo (ob x.S h),(0:Int)).1.Strong=some (W2 (ob x.S h).Strong):=GR hR (hB h q);rw[zb q,hs,a1b];simp only[a1b,zau,zg,zU];have ok:=L1 hR q;have:=uJ (o:=CS (ob x.S h) (W2 (ob x.S h).Strong)) hR q rfl ⟨ok.s1,ok.s2,E7 ok.st,ok.wk,ok.p1,ok.p2,ok.fl⟩;rw[show O6 (hO x).S h ⟨(oo (ob x.S h)).Serial,W2 (ob x.S h).Strong,(oo (ob x.S h)).Weak,(oo (ob x.S h)).Prog,(oo (ob x.S h)).Started,(oo (ob x.S h)).Fields⟩=_ from this];rfl
 .have he:(e != 0)=true:=by simpa using λc=>q (h2.1 c)
  have hb:(oo (ob x.S h)).Strong<=9223372036854775807:=by
   rw[rm (x8.2 hR) hh q];decide
  rw[GR hR hb,a1b,a1b];simp only[he,zD];rw[za q];rfl
omit hR in
theorem Wt (c:Int) (h1 : -1000000<=c):dy c=some (kP c):=by
 unfold dy vm eE H8 kP;simp only[a1b];by_cases q:12<=c
 .rw[zb (by simpa using q),zb q];rfl
 .rw[za (by simpa using q),za q];by_cases q2:c<1
  .rw[zb (by simpa using q2),zb q2];rfl
  .rw[za (by simpa using q2),za q2,G4 (by omega) (by omega)];rfl
theorem eV{h:Int}(hh:h<=9223372036854775807):E2 x h=some (T2 x h):=by
 unfold E2 P2 T2 uL;obtain⟨e,h1,h2⟩:=T0 (x8.2 hR) hh;rw[h1,a1b];by_cases q:h∈lv x.S
 .have e0:=h2.2 q;subst e0;have ok:=L1 hR q;rw[zb q,Wt _ (by have:=ok.st;dsimp only;omega)];simp only[zF,zD,a1b];have:=QR hR q (Q3 ok.st);rw[this];rfl
 .have:(e==0)=false:=by simpa using λc=>q (h2.1 c)
  rw[this,za q];rfl
theorem gU{h:Int}(hh:h<=9223372036854775807):G0 (hO x) h=some (hO (T2 x h)):=by
 unfold G0 iI T2 uL;obtain⟨e,h1,h2⟩:=T0 (x8.2 hR) hh;have hg:G9 (hO x).S h=some (oo (ob x.S h),e):=by
  rw[show (hO x).S=sO x.S from rfl,iv x.S (by have:=hR.len;omega) hh,h1];rfl
 rw[hg,a1b];by_cases q:h∈lv x.S
 .have e0:=h2.2 q;subst e0;have ok:=L1 hR q;have put:∀n,0<=n->O6 (hO x).S h ⟨(oo (ob x.S h)).Serial,n,(oo (ob x.S h)).Weak,(oo (ob x.S h)).Prog,(oo (ob x.S h)).Started,(oo (ob x.S h)).Fields⟩=some (sO (cZ x.S h (CS (ob x.S h) n)),0):=λn hn=>
   uJ (o:=CS (ob x.S h) n) hR q rfl ⟨ok.s1,ok.s2,hn,ok.wk,ok.p1,ok.p2,ok.fl⟩
  have hs:(oo (ob x.S h)).Strong=(ob x.S h).Strong:=rfl;rw[zb q];unfold xP bq kP;simp only[a1b,hs];by_cases q1:12<=(ob x.S h).Strong
  .rw[zb (by simpa using q1),zb q1];simp only[a1b,zau,zg,zU];rw[put 12 (by decide)];rfl
  .rw[za (by simpa using q1),za q1];by_cases q2:(ob x.S h).Strong<1
   .rw[zb (by simpa using q2),zb q2];simp only[a1b,show ((11:Int) != 0)=true from rfl,zD];rw[show CS (ob x.S h) (ob x.S h).Strong=ob x.S h from rfl,Ro hR q]
   .rw[za (by simpa using q2),za q2,G4 (by omega) (by have:=ok.st;omega)];simp only[a1b,zau,zg,zU];rw[put _ (by omega)];rfl
 .have he:(e != 0)=true:=by simpa using λc=>q (h2.1 c)
  rw[za q,rm (x8.2 hR) hh q];unfold xP bq;simp only[a1b];rfl
end
theorem Oa{x:Hp}(hR:SR x.S)(hB:SB x.S):∀k∈lv x.S,(ob x.S k).Strong<=9223372036854775807:=λk hk=>(wg (x8.2 hR) hB hk).2
theorem lK(x:Hp)(h:Int):(D8 x h).Roots=x.Roots/\(D8 x h).Cells=x.Cells/\(D8 x h).T=x.T/\(D8 x h).Q=x.Q:=by
 rw[vV];exact⟨rfl,rfl,rfl,rfl⟩
theorem gi{x:Hp}(hR:SR x.S)(h:Int):SR (D8 x h).S:=(I0 hR h λc=>E7).sr
section
variable{x:Hp}(hx:P5 x)(hS:∀k∈lv x.S,(ob x.S k).Strong<=9223372036854775807)
include hx hS
theorem tH{h:Int}(hh:h=0\/h∈lv x.S):h<=9223372036854775807:=by
 rcases hh with q | q
 .omega
 .have:=I8 hx.sh.sr q;omega
theorem Mo(k:Int){h:Int}(hh:h<=9223372036854775807):bl x k h=some (if k<0\/5<k then (x,6) else if h=0\/h∈lv x.S then (H9 x k.toNat h,0) else (x,3)):=by
 have hR:=hx.sh.sr;have r6:=hx.sh.r6;unfold bl;by_cases hk:k<0\/5<k
 .rw[zb hk,zb (by rw[r6];simp;omega)]
 .rw[za hk,za (by rw[r6];simp;omega),eM hR hh,a1b];by_cases hn:h=0\/h∈lv x.S
  .rw[zb hn,zp hn,za (by simp)];obtain⟨n,rfl⟩:∃n:Nat,k=n:=⟨k.toNat,by omega⟩;have hn6:n<6:=by omega
   have hnl:n<x.Roots.length:=by omega
   have old:x.Roots[n]<=9223372036854775807:=tH hx hS (hx.sh.rt _ (zd hnl));have e1:=lK x h;have hn2:n<(D8 x h).Roots.length:=by rw[e1.1];exact hnl
   rw[r8 hnl,a1b];unfold G8 R1 O0;rw[lI hR hh hS,a1b];dsimp only;rw[O4 (by omega) (by rw[e1.1];omega),a1b,r8 hn2,a1b,a1b];have hrel:=eV (x:=wR (D8 x h) (x.Roots.set n h)) (gi hR h) old;rw[zV,e1.1,show E2 ⟨(D8 x h).S,x.Roots.set n h,(D8 x h).Cells,(D8 x h).T,(D8 x h).Q⟩ x.Roots[n]=_ from hrel];unfold H9;rw[zf,zc hnl];rfl
  .rw[za hn,zA hn,zb (by simp)]
theorem Kf(k:Int){h:Int}(hh:h<=9223372036854775807):W7 (hO x) k h=some (if k<0\/5<k then (hO x,6) else if h=0\/h∈lv x.S then (hO (H9 x k.toNat h),0) else (hO x,3)):=by
 have hR:=hx.sh.sr;have r6:=hx.sh.r6;unfold W7;by_cases hk:k<0\/5<k
 .rw[zb hk,zb (by simp;omega)]
 .rw[za hk,za (by simp;omega),mK hR hh,a1b];by_cases hn:h=0\/h∈lv x.S
  .rw[zb hn,zp hn,za (by simp)];obtain⟨n,rfl⟩:∃n:Nat,k=n:=⟨k.toNat,by omega⟩;have hnl:n<x.Roots.length:=by omega
   have hnl':n<(hO x).Roots.length:=hnl;have old:x.Roots[n]<=9223372036854775807:=tH hx hS (hx.sh.rt _ (zd hnl));have e1:=lK x h;have r6':(hO x).Roots.length=6:=r6;rw[r8 hnl',a1b,pj hR hh hS,a1b,O4 (by omega) (by rw[r6'];omega),a1b,r8 hnl',a1b];have hrel:=gU (x:=wR (D8 x h) (x.Roots.set n h)) (gi hR h) old;rw[zV];rw[show G0 ⟨(hO (D8 x h)).S,(hO x).Roots.set n h,(hO (D8 x h)).Cells,(hO (D8 x h)).T,(hO (D8 x h)).Q⟩ (hO x).Roots[n]=_ from hrel];unfold H9;rw[zf,zc hnl];rfl
  .rw[za hn,zA hn,zb (by simp)]
omit hx hS in
theorem YL {l:List Int} {n:Nat} (hn:n<l.length):wj l n=some (l[n],0)/\vO l n=some (l[n],0):=by
 constructor
 .unfold wj nA;rw[a1b,za (by simp;omega),r8 hn,a1b]
 .unfold vO;rw[za (by simp;omega),r8 hn,a1b]
omit hx hS in
theorem Vk {l:List Int} {k:Int} (hk:¬(0<=k/\k<l.length)):wj l k=some (0,5)/\vO l k=some (0,5):=by
 constructor
 .unfold wj nA;rw[a1b,zb (by simp;omega)]
 .unfold vO;rw[zb (by simp;omega)]
theorem wv(h k:Int)(hh:h<=9223372036854775807):(∃e,e≠0/\aZ x.S h k=some (0,e)/\eQ (sO x.S) h k=some (0,e)) \/
  (h∈lv x.S/\∃n:Nat,k=n/\∃hn:n<(ob x.S h).Fields.length,aZ x.S h k=some ((ob x.S h).Fields[n],0)/\eQ (sO x.S) h k=some ((ob x.S h).Fields[n],0)):=by
 have hR:=hx.sh.sr;obtain⟨e,h1,h2⟩:=T0 (x8.2 hR) hh;have hg:G9 (sO x.S) h=some (oo (ob x.S h),e):=by
  rw[iv x.S (by have:=hR.len;omega) hh,h1];rfl
 unfold aZ eQ;rw[h1,a1b,hg,a1b];by_cases q:h∈lv x.S
 .have:=h2.2 q;subst this;rw[za (by simp),za (by simp),show (oo (ob x.S h),(0:Int)).1.Fields=(ob x.S h).Fields from rfl];by_cases hk:0<=k/\k<(ob x.S h).Fields.length
  .right;obtain⟨n,rfl⟩:∃n:Nat,k=n:=⟨k.toNat,by omega⟩;have hn:n<(ob x.S h).Fields.length:=by omega
   refine⟨q,n,rfl,hn,?_,?_⟩
   .rw[(YL hn).1];rfl
   .rw[(YL hn).2];rfl
  .left;refine⟨5,by decide,?_,?_⟩
   .rw[(Vk hk).1];rfl
   .rw[(Vk hk).2];rfl
 .left;have he:(e != 0)=true:=by simpa using λc=>q (h2.1 c)
  refine⟨e,by simpa using he,?_,?_⟩;·simp only[he,zD]
  .simp only[he,zD]
theorem QQ{s:a7}(hR:SR s){h:Int}(hh:h∈lv s){n:Nat}(hn:n<(ob s h).Fields.length)(v:Int) :
  qB s h n v=some (cZ s h (pV (ob s h) ((ob s h).Fields.set n v)),0)/\xQ (sO s) h n v=some (sO (cZ s h (pV (ob s h) ((ob s h).Fields.set n v))),0):=by
 have ok:=L1 hR hh;have hf:=ok.fl;have hle:=I8 hR hh;have ho:Bp s (pV (ob s h) ((ob s h).Fields.set n v)):=⟨ok.s1,ok.s2,ok.st,ok.wk,ok.p1,ok.p2,by simpa using hf⟩;have h1:=uI (o:=pV (ob s h) ((ob s h).Fields.set n v)) hR hh rfl ho;have h2:=uJ (o:=pV (ob s h) ((ob s h).Fields.set n v)) hR hh rfl ho;constructor
 .unfold qB;rw[vA (x8.2 hR) hh,a1b,za (by simp)];unfold AY nA;dsimp only;rw[a1b,za (by simp;omega),Ac (by omega) (by omega),a1b];have e:Bk (List.replicate (ob s h).Fields.length (0:Int)) (ob s h).Fields=some (ob s h).Fields:=by
   unfold Bk;rw[zb (by simp)];simp
  rw[e,a1b,r8 hn,a1b,a1b,za (by simp),zV];dsimp only;rw[show L8 s h ⟨(ob s h).Serial,(ob s h).Strong,(ob s h).Weak,(ob s h).Prog,(ob s h).Started,(ob s h).Fields.set n v⟩=_ from h1];rfl
 .unfold xQ;rw[iv s (by have:=hR.len;omega) (by omega),vA (x8.2 hR) hh,zM,a1b,za (by simp)];unfold As;have hn':n<(oo (ob s h)).Fields.length:=hn;have hf':(oo (ob s h)).Fields.length<=4:=hf;dsimp only;rw[za (by simp;omega),O4 (by omega) (by omega),a1b,r8 hn',a1b,a1b,za (by simp),zV];dsimp only;rw[show O6 (sO s) h ⟨(oo (ob s h)).Serial,(oo (ob s h)).Strong,(oo (ob s h)).Weak,(oo (ob s h)).Prog,(oo (ob s h)).Started,(oo (ob s h)).Fields.set n v⟩=_ from h2];rfl
theorem Pt(h k v:Int)(hh:h<=9223372036854775807)(hv:v<=9223372036854775807) :
  (∃e,e≠0/\eH x h k v=some (x,e)/\gR (hO x) h k v=some (hO x,e)) \/
  (h∈lv x.S/\(v=0\/v∈lv x.S)/\∃n:Nat,k=n/\n<(ob x.S h).Fields.length/\eH x h k v=some (cq x h n v,0)/\gR (hO x) h k v=some (hO (cq x h n v),0)):=by
 have hR:=hx.sh.sr;unfold eH gR;rcases wv hx hS h k hh with ⟨e,he,f1,f2⟩ | ⟨hl,n,rfl,hn,f1,f2⟩
 .left;have he':(e != 0)=true:=by simpa using he
  refine⟨e,he,?_,?_⟩;·rw[f1,a1b,zb he']
  .rw[show (hO x).S=sO x.S from rfl,f2,a1b,zb he']
 .rw[f1,a1b,za (by simp),show (hO x).S=sO x.S from rfl,f2,a1b,za (by simp),eM hR hv,a1b,mK hR hv,a1b];by_cases hn2:v=0\/v∈lv x.S
  .right;refine⟨hl,hn2,n,rfl,hn,?_⟩;rw[zp hn2,za (by simp),za (by simp)];have BA:=I0 hR v (f:=W2) λc=>E7;have hR1:SR (D8 x v).S:=BA.sr;have hl1:h∈lv (D8 x v).S:=by rw[show lv (D8 x v).S=lv x.S from BA.lv];exact hl
   have hof:(ob (D8 x v).S h).Fields=(ob x.S h).Fields:=by
    obtain⟨m,e⟩:=BA.ob h hh;show (ob (uL x v W2).S h).Fields=_;rw[e]
   have hn1:n<(ob (D8 x v).S h).Fields.length:=by rw[hof];exact hn
   have old:(ob x.S h).Fields[n]<=9223372036854775807:=tH hx hS (hx.sh.fl h hl _ (zd hn));have ok:=L1 hR1 hl1;have sr2:SR (cZ (D8 x v).S h (pV (ob (D8 x v).S h) ((ob (D8 x v).S h).Fields.set n v))):=bN (o:=pV (ob (D8 x v).S h) ((ob (D8 x v).S h).Fields.set n v)) hR1 hl1 rfl ⟨ok.s1,ok.s2,ok.st,ok.wk,ok.p1,ok.p2,by simpa using ok.fl⟩;obtain⟨p1,p2⟩:=QQ hx hS hR1 hl1 hn1 v;have hd:(ob x.S h).Fields.getD n 0=(ob x.S h).Fields[n]:=by
    rw[zf,zc hn];rfl
   constructor
   .unfold J6 bH;rw[lI hR hv hS,a1b];dsimp only;rw[p1,a1b,a1b];have hrel:=eV (x:=wS (D8 x v) (cZ (D8 x v).S h (pV (ob (D8 x v).S h) ((ob (D8 x v).S h).Fields.set n v)))) sr2 old;rw[show E2 ⟨cZ (D8 x v).S h (pV (ob (D8 x v).S h) ((ob (D8 x v).S h).Fields.set n v)),(D8 x v).Roots,(D8 x v).Cells,(D8 x v).T,(D8 x v).Q⟩ (ob x.S h).Fields[n]=_ from hrel];unfold cq;rw[hd,hof];rfl
   .rw[pj hR hv hS,a1b,show (hO (D8 x v)).S=sO (D8 x v).S from rfl,p2,a1b];have hrel:=gU (x:=wS (D8 x v) (cZ (D8 x v).S h (pV (ob (D8 x v).S h) ((ob (D8 x v).S h).Fields.set n v)))) sr2 old;dsimp only;rw[show G0 ⟨sO (cZ (D8 x v).S h (pV (ob (D8 x v).S h) ((ob (D8 x v).S h).Fields.set n v))),(hO (D8 x v)).Roots,(hO (D8 x v)).Cells,(hO (D8 x v)).T,(hO (D8 x v)).Q⟩ (ob x.S h).Fields[n]=_ from hrel];unfold cq;rw[hd,hof];rfl
  .left;refine⟨3,by decide,?_,?_⟩;·rw[zA hn2,zb (by simp)]
   .rw[zA hn2,zb (by simp)]
theorem Uk(k v:Int)(hk:k<=9223372036854775807)(hv:v<=9223372036854775807) :
  (∃e,e≠0/\gM x k v=some (x,e)/\lA (hO x) k v=some (hO x,e)) \/
  (k∈lv x.S/\(v=0\/v∈lv x.S)/\∃r,V8 x.T k v=some r/\r.2.2=0/\gM x k v=some (lg x v r.1 r.2.1,0)/\lA (hO x) k v=some (hO (lg x v r.1 r.2.1),0)):=by
 have hR:=hx.sh.sr;unfold gM lA;by_cases k0:k=0
 .left;subst k0;exact⟨2,by decide,by simp,by simp⟩
 .rw[za (by simpa using k0),za (by simpa using k0),eM hR hk,a1b,mJ hR hk,a1b,eM hR hv,mK hR hv];have hkk:(k=0\/k∈lv x.S)↔k∈lv x.S:=by simp[k0]
  by_cases hl:k∈lv x.S/\(v=0\/v∈lv x.S)
  .obtain⟨hl,hn⟩:=hl;rw[zp (hkk.2 hl),zp hl,zp hn];simp only[zbq,zF,J9,a1b,Bool.or_self,zg,zU];obtain⟨r,r1,r2,r3,r4,r5⟩:=NT hx.sh.hr k v;rw[r1,a1b,show (hO x).T=x.T.map J7 from rfl,r4,a1b];by_cases h0:r.2.2=0
   .right;refine⟨hl,hn,r,rfl,h0,?_⟩;have e1:(r.2.2 != 0)=false:=by simpa using h0
    have old:r.2.1<=9223372036854775807:=by
     rcases r5 with ⟨_,rfl⟩ | ⟨_,_,⟨i,hi,rfl⟩ | ⟨_,rfl⟩⟩ | ⟨_,_,⟨i,hi,rfl⟩ | ⟨d,_,_,_,_,rfl⟩ | ⟨_,_,rfl⟩⟩;·simp
     .exact tH hx hS (.inr (hx.sh.pr k _ ⟨i,hi,rfl⟩).2)
     .simp
     .exact tH hx hS (.inr (hx.sh.pr k _ ⟨i,hi,rfl⟩).2)
     .simp
     .simp
    constructor
    .rw[e1];simp only[zg,zU];unfold L0 Y4;rw[lI hR hv hS,a1b,a1b];dsimp only;have hrel:=eV (x:=wT (D8 x v) r.1) (gi hR v) old;rw[show E2 ⟨(D8 x v).S,(D8 x v).Roots,(D8 x v).Cells,r.1,(D8 x v).Q⟩ r.2.1=_ from hrel];rfl
    .dsimp only;rw[e1];simp only[zg,zU];rw[pj hR hv hS,a1b];have hrel:=gU (x:=wT (D8 x v) r.1) (gi hR v) old;rw[show G0 ⟨(hO (D8 x v)).S,(hO (D8 x v)).Roots,(hO (D8 x v)).Cells,r.1.map J7,(hO (D8 x v)).Q⟩ r.2.1=_ from hrel];rfl
   .left;have e1:(r.2.2 != 0)=true:=by simpa using h0
    refine⟨r.2.2,h0,by rw[zb e1],by dsimp only;rw[zb e1]⟩
  .left;refine⟨3,by decide,?_,?_⟩
   .by_cases hl2:k∈lv x.S
    .have:¬(v=0\/v∈lv x.S):=λq=>hl ⟨hl2,q⟩;rw[zp (hkk.2 hl2),zA this];rfl
    .rw[zA λq=>hl2 (hkk.1 q)];rfl
   .by_cases hl2:k∈lv x.S
    .have:¬(v=0\/v∈lv x.S):=λq=>hl ⟨hl2,q⟩;rw[zp hl2,zA this];rfl
    .rw[zA hl2];rfl
end
theorem Lu{s:a7}(hR:SR s){h:Int}{i:Nat}(q:X6 s h i):P7 s.S h=some ((Cp s i).S,0):=by
 have hi:=q.1;have hc:=hR.cell i hi;have l9:=hR.l9;unfold P7 Cp;rw[jl hR q,a1b,za (by simp),GS hi,a1b];by_cases g:(ce s i).Gen=s.S.Last
 .rw[zb (by simpa using g),zb g,lX rfl hi hR.len];rfl
 .rw[za (by simpa using g),za g,lX rfl hi hR.len,G4 (by omega) (by omega)];rfl
theorem PR{s:a7}{i:Nat}(hi:i<s.S.Cells.length):ix (sO s).Cells (i:Int)=some (cO (ce s i)):=by
 rw[Ms,GS hi];rfl
theorem Mt(s:a7)(i:Nat)(c:c4):sO (I4 s i c)=⟨(sO s).Cells.set i (cO c),s.S.Last,s.Serial⟩:=by
 unfold sO I4;rw[zcg]
theorem AX(t:l4)(p:y9)(hl:t.Cells.length<=1000)(hp:p.Cells.length=t.Cells.length):aP t p=some ⟨(List.range t.Cells.length).map λk=>⟨(p.Cells.getD k ⟨0,0,0⟩).State,(p.Cells.getD k ⟨0,0,0⟩).Gen,(t.Cells.getD k ⟨0,0,oo z0⟩).Val⟩,t.Last,t.Serial⟩:=by
 unfold aP;simp only[jn];rw[PU (b:=80) t.Cells.length (λk=>⟨(p.Cells.getD k ⟨0,0,0⟩).State,(p.Cells.getD k ⟨0,0,0⟩).Gen,(t.Cells.getD k ⟨0,0,oo z0⟩).Val⟩) (by omega) (by omega) (λk acc hk=>?_) (λacc=>by simp)];·rfl
 .have hk2:k<p.Cells.length:=by omega
  simp only[zo,hk,zt,zD,r8 hk,r8 hk2,a1b];rw[zf,zc hk2,zf,zc hk];rfl
theorem PC{s:a7}(hR:SR s){h:Int}{i:Nat}(q:X6 s h i):oX (sO s) h=some (sO (Cp s i)):=by
 have hi:=q.1;have hc:=hR.cell i hi;have l9:=hR.l9;have hlen:=hR.len;have hr:=q.Rf hR;have hH:qT h:=((rR hR).2 q).2.1;have hsl:(h-1) % 32=i:=((rR hR).2 q).2.2.1;have J7:i<(pl (sO s)).Cells.length:=by rw[cC,C9];exact hi
 have key:∀st g,(st:Int)=st->aP (sO s) ⟨(pl (sO s)).Cells.set i ⟨st,g,0⟩,(pl (sO s)).Last⟩=some ⟨(sO s).Cells.set i ⟨st,g,oo (ce s i).Val⟩,s.S.Last,s.Serial⟩:=λst g _=>by
  rw[AX _ _ (by rw[C9];omega) (by simp[cC])];congr 1;congr 1;refine zbc (by simp) λk h1 h2=>?_;have hk:k<s.S.Cells.length:=by simpa[C9] using h1
  have hk2:k<(sO s).Cells.length:=by rw[C9];exact hk
  have hk3:k<(pl (sO s)).Cells.length:=by rw[cC];exact hk2
  simp only[wt,List.getElem_range,zb4];have e1:(sO s).Cells.getD k ⟨0,0,oo z0⟩=cO (ce s k):=by
   rw[zf,zc hk2,F5 hk];simp[sO]
  have e2:((pl (sO s)).Cells.set i ⟨st,g,0⟩).getD k ⟨0,0,0⟩=if k=i then ⟨st,g,0⟩ else xJ k (cO (ce s k)):=by
   rw[kS J7];split;·rfl
   .rw[zf,zc hk3,F5 hk];simp[pl,sO]
  rw[e1,e2];by_cases e:k=i
  .subst e;rw[zb rfl,zb rfl];rfl
  .rw[za e,za (za2 e)];rw[F5 hk];simp[sO,xJ,cO]
 have fin:∀st g,(bV ⟨(sO s).Cells.set i ⟨st,g,oo (ce s i).Val⟩,s.S.Last,s.Serial⟩ (i:Int) ⟨0,0,0,0,false,[]⟩)=some (sO (I4 s i ⟨st,g,z0⟩)):=λst g=>by
  unfold bV;have hi2:i<((sO s).Cells.set i ⟨st,g,oo (ce s i).Val⟩).length:=by simp[C9];exact hi
  rw[O4 (by omega) (by simp[C9];omega),a1b,r8 hi2,a1b,Mt];simp[cO,oo,List.set_set]
 unfold oX Ap Cp;rw[dF _ (by rw[C9];omega),a1b,rQ s (by omega),jl hR q,a1b,za (by simp)];rw[Hn (by rw[C9];exact hi),a1b];have hgen:(xJ i ((sO s).Cells[i]'(by rw[C9];exact hi))).Gen=(ce s i).Gen:=by
  rw[F5 hi];simp[xJ,sO,cO]
 have hlast:(pl (sO s)).Last=s.S.Last:=rfl;have w3:∀c:z6,Z5 (pl (sO s)) (i:Int) c=some ⟨(pl (sO s)).Cells.set i c,(pl (sO s)).Last⟩:=λc=>by
  unfold Z5;rw[O4 (by omega) (by rw[cC,C9];omega),a1b,r8 J7,a1b,zV]
 rw[hgen,hlast,oV,zb hH,hsl];by_cases g:(ce s i).Gen=s.S.Last
 .rw[zb (by simp[g]),zb g,w3,a1b,a1b,za (by simp),key _ _ rfl,a1b,a1b,fin];rfl
 .rw[za (by simp;omega),za g,w3,a1b,a1b,za (by simp),key _ _ rfl,a1b,a1b,G4 (by omega) (by omega),fin];rfl
section
variable{x:Hp}(hR:SR x.S)
include hR
theorem Cy{h d:Int}(hh:h<=9223372036854775807)(hw:X6 x.S h (E4 h) -> -1000<=(ce x.S (E4 h)).Val.Weak+d/\(ce x.S (E4 h)).Val.Weak+d<=1000):cS x h d=some (kY x h d):=by
 unfold cS kY;by_cases q:X6 x.S h (E4 h)
 .have:=hw q;rw[zb q,jl hR q,a1b];simp only[zF,zD];rw[GS q.1,a1b,G4 (by omega) (by omega),Fu hR q,a1b];rfl
 .have hno:∀i,¬X6 x.S h i:=λi hi=>q (by rw[hi.E4 hR];exact hi);rw[za q,mi hR hh hno,a1b];have:((if h=0 then 2 else 3:Int)==0)=false:=by simpa using dt h
  simp only[this,zg,zU]
theorem Iv{h:Int}(hh:h<=9223372036854775807)(hw:X6 x.S h (E4 h)->1<=(ce x.S (E4 h)).Val.Weak/\(ce x.S (E4 h)).Val.Weak<=1000):fu x h=some (pC x h):=by
 unfold fu;rw[Cy hR hh (λq=>by have:=hw q;omega),a1b];unfold kY pC;by_cases q:X6 x.S h (E4 h)
 .have hw:=hw q;rw[zb q,zb q];have VK:=Ab hR q.1 q.2.1 (d:=-1) (by omega);have q1:X6 (pY x.S (E4 h) (-1)) h (E4 h):=(xz q.1 _).2 q;dsimp only;rw[jl VK q1,a1b,za (by simp),GS q1.1,a1b,gb hR q.1 q.2.1,zb rfl];dsimp only;by_cases c:(ce x.S (E4 h)).State=2/\(ce x.S (E4 h)).Val.Weak=1
  .rw[zb c,zb (by simp[c.1,c.2]),Lu VK q1,a1b];rfl
  .rw[za c,za (by simp only[zj,ww];omega)]
 .have hno:∀i,¬X6 x.S h i:=λi hi=>q (by rw[hi.E4 hR];exact hi);rw[za q,za q,mi hR hh hno,a1b];have:((if h=0 then 2 else 3:Int) != 0)=true:=by simpa using dt h
  simp only[this,zD]
theorem Oc{h:Int}(hh:h<=9223372036854775807)(hw:X6 x.S h (E4 h)->1<=(ce x.S (E4 h)).Val.Weak/\(ce x.S (E4 h)).Val.Weak<=1000):aS (hO x) h=some (hO (pC x h)):=by
 have hl:=hR.len;unfold aS;rw[show (hO x).S=sO x.S from rfl,dF _ (by rw[C9];omega),a1b,rQ x.S hh];unfold pC;by_cases q:X6 x.S h (E4 h)
 .have hw:=hw q;have hr:=q.Rf hR;rw[zb q,jl hR q,a1b,za (by simp),PR q.1,a1b];have VK:=Ab hR q.1 q.2.1 (d:=-1) (by omega);have q1:X6 (pY x.S (E4 h) (-1)) h (E4 h):=(xz q.1 _).2 q;have hs:O6 (sO x.S) h (oo (YF (ce x.S (E4 h)).Val ((ce x.S (E4 h)).Val.Weak + -1)))=some (sO (pY x.S (E4 h) (-1)),0):=by
   rw[Rt x.S hl hh,Fu hR q];rfl
  have hw64:A1 ((cO (ce x.S (E4 h))).Val.Weak-1)=(ce x.S (E4 h)).Val.Weak + -1:=by
   show A1 ((ce x.S (E4 h)).Val.Weak-1)=_;rw[G4 (by omega) (by omega)];omega
  rw[hw64];rw[show O6 (sO x.S) h ⟨(cO (ce x.S (E4 h))).Val.Serial,(cO (ce x.S (E4 h))).Val.Strong,(ce x.S (E4 h)).Val.Weak + -1,(cO (ce x.S (E4 h))).Val.Prog,(cO (ce x.S (E4 h))).Val.Started,(cO (ce x.S (E4 h))).Val.Fields⟩=_ from hs,a1b,PR q1.1,a1b,gb hR q.1 q.2.1,zb rfl];by_cases c:(ce x.S (E4 h)).State=2/\(ce x.S (E4 h)).Val.Weak=1
  .rw[zb c,zb (by simp[cO,c.1,c.2]),PC VK q1,a1b];rfl
  .rw[za c,za (by simp only[cO,zj,ww,up];omega)];rfl
 .have hno:∀i,¬X6 x.S h i:=λi hi=>q (by rw[hi.E4 hR];exact hi);rw[za q,mi hR hh hno,a1b];have:((if h=0 then 2 else 3:Int) != 0)=true:=by simpa using dt h
  simp only[this,zD]
end
theorem RE{l:List g9}(hl:l.length<=1000){n:Nat}(hn:n<l.length)(h call:Int):uY l n h call=some (l.set n (jV h call),l[n].Target,0):=by
 unfold uY lW ba;simp only[a1b];rw[za (by simp;omega),Ac (by omega) (by omega),a1b];have e:Bk (List.replicate l.length (⟨0,false,0⟩:g9)) l=some l:=by
  unfold Bk;rw[zb (by simp)];simp
 rw[e,a1b,a1b,r8 hn,a1b,a1b,zV]
theorem KA{l:List g9}(hl:l.length<=1000){n:Nat}(hn:n<l.length)(h call:Int):xR (l.map nB) n h call=some ((l.set n (jV h call)).map nB,l[n].Target,0):=by
 unfold xR;have hn':n<(l.map nB).length:=by simpa using hn
 rw[za (by simp;omega),O4 (by omega) (by simp;omega),a1b,r8 hn',a1b,a1b,zV,zcg];simp[nB]
theorem Xm(l:List g9)(h:Int):xg l h<=l.length:=za5
theorem Ve{x:Hp}(hx:P5 x)(k h call:Int)(hh:h<=9223372036854775807)(hc : -1<=call/\call<=5) :
  (∃e,e≠0/\bm x k h call=some (x,e)/\dM (hO x) k h call=some (hO x,e)) \/
  ((h=0\/h∈lv x.S)/\∃n:Nat,k=n/\n<6/\II x.Q n=false/\bm x k h call=some (eC x n h call,0)/\dM (hO x) k h call=some (hO (eC x n h call),0)):=by
 have hR:=hx.sh.sr;have c6:=hx.sh.c6;have q30:=hx.sh.q30;unfold bm dM;by_cases hk:k<0\/5<k
 .left;have e1:((decide (k<0))||(decide (k>=(x.Cells.length:Int))))=true:=by rw[c6];simp;omega
  have e2:((decide (k<0))||(decide (k > 5)))=true:=by simp;omega
  refine⟨7,by decide,?_,?_⟩;·rw[e1];rfl
  .rw[e2];rfl
 .obtain⟨n,rfl⟩:∃n:Nat,k=n:=⟨k.toNat,by omega⟩;have hn6:n<6:=by omega
  have e1:((decide ((n:Int)<0))||(decide ((n:Int)>=(x.Cells.length:Int))))=false:=by rw[c6];simp;omega
  have e2:((decide ((n:Int)<0))||(decide ((n:Int) > 5)))=false:=by simp;omega
  rw[e1,e2];simp only[zF,J9,za7];have hwq:iV x.Q n=some (II x.Q n):=UR (by omega);have hwr:eT (hO x).Q n=some (II x.Q n):=Mb (by omega);rw[hwq,a1b,hwr,a1b,eM hR hh,a1b,mK hR hh,a1b];by_cases hw:II x.Q n=true
  .left;rw[zb hw,zb hw];exact⟨7,by decide,rfl,rfl⟩
  .have hw:II x.Q n=false:=by simpa using hw
   rw[hw,za (show ¬(false=true) by decide),za (show ¬(false=true) by decide)];by_cases hl:h=0\/h∈lv x.S
   .right;refine⟨hl,n,rfl,hn6,hw,?_⟩;have hnl:n<x.Cells.length:=by omega
    rw[zp hl,za (by simp),za (by simp),RE (by omega) hnl,a1b,show (hO x).Cells=x.Cells.map nB from rfl,KA (by omega) hnl,a1b];have htg:uM x n=x.Cells[n].Target:=by
     unfold uM;rw[zf,zc hnl];rfl
    have wkb:∀i,i<x.S.S.Cells.length->Th (ce x.S i)->0<=(ce x.S i).Val.Weak/\(ce x.S i).Val.Weak<=6:=λi hi ht=>by
     have:=(hx.wk i hi ht).1;have:=Xm x.Cells (1+(i:Int)+32*(ce x.S i).Gen);omega
    have mk1:∃s2,kY (wC x (x.Cells.set n (jV h call))) h 1=wS (wC x (x.Cells.set n (jV h call))) s2/\SR s2/\(∀k i,X6 s2 k i↔X6 x.S k i)/\(∀i,i<x.S.S.Cells.length->Th (ce x.S i)->(ce x.S i).Val.Weak<=(ce s2 i).Val.Weak/\(ce s2 i).Val.Weak<=(ce x.S i).Val.Weak+1) /\
      (h≠0->G9 (sO x.S) h=some (oo (ce x.S (E4 h)).Val,0)/\O6 (sO x.S) h (oo (YF (ce x.S (E4 h)).Val ((ce x.S (E4 h)).Val.Weak+1)))=some (sO s2,0))/\(h=0->s2=x.S):=by
     unfold kY;by_cases h0:h=0
     .have hno:¬X6 x.S h (E4 h):=λq=>by have:=q.Rf hR;omega
      rw[za hno];exact⟨x.S,rfl,hR,λ_ _=>Iff.rfl,λi _ _=>by omega,λq=>absurd h0 q,λ_=>rfl⟩
     .have hll:=hl.resolve_left h0;have hp:=B5 hR hll;have hb:=wkb _ hp.1 (.inl hp.2.1);rw[zb hp.d];have kn:=mL hR hp.1 (.inl hp.2.1) (d:=1) (by omega);refine⟨_,rfl,kn.sr,kn.ad,λi hi ht=>?_,λ_=>⟨?_,?_⟩,λq=>absurd q h0⟩
      .rw[gb hR hp.1 (.inl hp.2.1)];split;·rename_i e;subst e;dsimp only;omega
       .omega
      .rw[iv x.S (by have:=hR.len;omega) hh,Wl hR hp];rfl
      .rw[Rt x.S hR.len hh,Fu hR hp.d];rfl
    obtain⟨s2,m1,m2,m3,m4,m5,m6⟩:=mk1;have hold:uM x n<=9223372036854775807:=by
     by_cases q:uM x n=0
     .omega
     .obtain⟨p,hp⟩:=(hx.sh.cl n hnl).2.2.2.1 (by rw[<-htg];exact q);have:=hp.Rf hR;rw[htg];omega
    have hun:X6 s2 (uM x n) (E4 (uM x n))->1<=(ce s2 (E4 (uM x n))).Val.Weak/\(ce s2 (E4 (uM x n))).Val.Weak<=1000:=λq=>by
     have q':=(m3 _ _).1 q;have r:=q'.Rf hR;have:=(hx.wk _ q'.1 q'.2.1).1;have hp:0<xg x.Cells x.Cells[n].Target:=tM hnl (by rw[<-htg];omega);rw[<-htg,q'.2.2] at hp;have:=m4 _ q'.1 q'.2.1;have:=wkb _ q'.1 q'.2.1;omega
    have u1:=Iv (x:=wS (wC x (x.Cells.set n (jV h call))) s2) m2 hold hun;have u2:=Oc (x:=wS (wC x (x.Cells.set n (jV h call))) s2) m2 hold hun;have hwb:X6 x.S h (E4 h) -> -1000<=(ce x.S (E4 h)).Val.Weak+1/\(ce x.S (E4 h)).Val.Weak+1<=1000:=λq=>by
     have:=wkb _ q.1 q.2.1;omega
    have mm:=Cy (x:=wC x (x.Cells.set n (jV h call))) (d:=1) hR hh hwb;constructor
    .dsimp only;rw[show cS ⟨x.S,x.Roots,x.Cells.set n (jV h call),x.T,x.Q⟩ h 1=_ from mm,a1b,m1,<-htg,u1,a1b];unfold eC;rw[m1]
    .unfold eC;rw[m1];dsimp only;by_cases h0:h=0
     .rw[za (by simpa using h0),<-htg];rw[m6 h0] at u2 |-;rw[show aS ⟨(hO x).S,(hO x).Roots,(x.Cells.set n (jV h call)).map nB,(hO x).T,(hO x).Q⟩ (uM x n)=_ from u2,a1b]
     .obtain⟨g1,g2⟩:=m5 h0;have hp:=B5 hR (hl.resolve_left h0);have hb:=wkb _ hp.1 (.inl hp.2.1);rw[zb (by simpa using h0),show (hO x).S=sO x.S from rfl,g1,a1b];have e:A1 ((oo (ce x.S (E4 h)).Val).Weak+1)=(ce x.S (E4 h)).Val.Weak+1:=by
       show A1 ((ce x.S (E4 h)).Val.Weak+1)=_;rw[G4 (by omega) (by omega)]
      dsimp only;rw[e];rw[show O6 (sO x.S) h ⟨(oo (ce x.S (E4 h)).Val).Serial,(oo (ce x.S (E4 h)).Val).Strong,(ce x.S (E4 h)).Val.Weak+1,(oo (ce x.S (E4 h)).Val).Prog,(oo (ce x.S (E4 h)).Val).Started,(oo (ce x.S (E4 h)).Val).Fields⟩=_ from g2,a1b,<-htg];dsimp only;rw[show aS ⟨sO s2,(hO x).Roots,(x.Cells.set n (jV h call)).map nB,(hO x).T,(hO x).Q⟩ (uM x n)=_ from u2,a1b]
   .left;rw[zA hl];refine⟨3,by decide,?_,?_⟩ <;> rw[zb (by rfl)]
section
variable{x:Hp}(hx:P5 x)(hS:∀k∈lv x.S,(ob x.S k).Strong<=9223372036854775807)
include hx hS
end
abbrev tz:l5:=⟨0,0,0⟩
abbrev YD:g9:=⟨0,false,0⟩
theorem H4{α:Type}{l:List α}{i:Nat}(h:i<l.length)(d:α):l.getD i d=l[i]:=by
 rw[zf,zc h];rfl
def TkP(x:Hp)(t:l5):Prop:=0<=t.Prog/\t.Prog<=5/\((t.Kind=1/\t.At∈lv x.S/\(ob x.S t.At).Started=true)\/(t.Kind=2/\0<=t.At/\t.At<=5))
def Vj(a b:l5):Prop:=a.Kind=b.Kind/\a.At=b.At
instance(a b:l5):Decidable (Vj a b):=by unfold Vj;infer_instance
section
variable{x:Hp}(hR:SR x.S)
include hR
theorem UW(hq:x.Q.L.length<=1000)(hB:∀t∈x.Q.L,t.At<=9223372036854775807):∃b,qo (hO x)=some b/\(b=true↔((∀t∈x.Q.L,TkP x t)/\x.Q.L.Pairwise (λa b=>¬Vj a b)/\x.Q.Cap=30/\x.Q.L.length<=30)):=by
 have hlen:(hO x).Q.L.length=x.Q.L.length:=by simp[hO,gl]
 unfold qo;simp only[jn];rw[hlen];refine DG x.Q.L.length (λi=>TkP x (x.Q.L.getD i tz)/\∀k,k<i->¬Vj (x.Q.L.getD k tz) (x.Q.L.getD i tz)) (by omega) (λi hi=>?_) (by simp) (λhall=>?_) (λhno=>?_)
 .have hi':i<(hO x).Q.L.length:=by rw[hlen];exact hi
  have hg:(hO x).Q.L[i]=⟨(x.Q.L.getD i tz).Kind,(x.Q.L.getD i tz).At,(x.Q.L.getD i tz).Prog⟩:=by
   rw[H4 hi];simp[hO,gl,su]
  have hat:=hB _ (zd hi);rw[<-H4 hi tz] at hat;simp only[zo,hi,zt,zD,r8 hi',a1b,hg];generalize ht:x.Q.L.getD i tz=t at hat;by_cases c1:((((t.Kind != 1)&&(t.Kind != 2))||(decide (t.Prog<0)))||(decide (t.Prog > 5)))=true
  .rw[zb c1];refine⟨_,rfl,.inr ⟨λq=>?_,rfl⟩⟩;obtain⟨⟨q1,q2,q3⟩,_⟩:=q;simp only[t8,zj,za8,zci,up] at c1;rcases q3 with q3 | q3 <;> omega
  .rw[za c1];have c1':(t.Kind=1\/t.Kind=2)/\0<=t.Prog/\t.Prog<=5:=by
    simp only[t8,zj,za8,zci,up] at c1;omega
   refine DG i (λk=>¬Vj (x.Q.L.getD k tz) t) (by omega) (λk hk=>?_) (by simp) (λhall=>?_) (λhno=>?_)
   .have hk1:k<x.Q.L.length:=by omega
    have hk':k<(hO x).Q.L.length:=by rw[hlen];exact hk1
    have hgk:(hO x).Q.L[k]=⟨(x.Q.L.getD k tz).Kind,(x.Q.L.getD k tz).At,(x.Q.L.getD k tz).Prog⟩:=by
     rw[H4 hk1];simp[hO,gl,su]
    simp only[zo,hk,zt,zD,r8 hk',a1b,hgk];by_cases c:Vj (x.Q.L.getD k tz) t
    .rw[zb (by simpa[Vj] using c)];exact⟨_,rfl,.inr ⟨λq=>q c,rfl⟩⟩
    .rw[za (by simpa[Vj] using c),l6];exact⟨_,rfl,.inl ⟨c,rfl⟩⟩
   .dsimp only;obtain⟨e,h1,h2⟩:=T0 (x8.2 hR) hat;rw[show (hO x).S=sO x.S from rfl,iv x.S (by have:=hR.len;omega) hat,h1,zM,a1b];by_cases c2:TkP x t
    .rw[za,l6];·exact⟨_,rfl,.inl ⟨⟨c2,hall⟩,rfl⟩⟩
     .obtain⟨_,_,q | q⟩:=c2
      .have:=h2.2 q.2.1;simp[q.1,this,oo,q.2.2]
      .simp[q.1];omega
    .rw[zb];·exact⟨_,rfl,.inr ⟨λq=>c2 q.1,rfl⟩⟩
     .simp only[t8,zj,ww,za8,zci,zbg,up,oo];rcases c1'.1 with k1 | k2
      .left;refine⟨k1,zP λq=>c2 ⟨c1'.2.1,c1'.2.2,.inl ⟨k1,?_,?_⟩⟩⟩;·exact h2.1 (zP λq2=>q (.inl q2))
       .cases hst:(ob x.S t.At).Started;·exact absurd (.inr hst) q
        .rfl
      .right;refine⟨k2,?_⟩;have:¬(0<=t.At/\t.At<=5):=λq=>c2 ⟨c1'.2.1,c1'.2.2,.inr ⟨k2,q.1,q.2⟩⟩;omega
   .exact⟨_,rfl,.inr ⟨λq=>hno q.2,rfl⟩⟩
 .refine⟨_,rfl,?_⟩;rw[zj,ww,zx];constructor
  .rintro⟨a,b⟩;refine⟨λt ht=>?_,?_,a,by first | exact_mod_cast b | (simp[hO,gl] at b;omega)⟩
   .obtain⟨i,hi,rfl⟩:=q9 ht;have:=(hall i hi).1;rwa [H4 hi] at this
   .rw[zbx];intro i j hi hj hij;have:=(hall j hj).2 i hij;rwa [H4 hi,H4 hj] at this
  .rintro⟨_,_,a,b⟩;exact⟨a,by first | exact_mod_cast b | (simp[hO,gl];omega)⟩
 .refine⟨false,rfl,?_⟩;simp only[zg,false_iff];rintro⟨a,b,_⟩;refine hno λi hi=>⟨?_,λk hk=>?_⟩
  .rw[H4 hi];exact a _ (zd hi)
  .have hk1:k<x.Q.L.length:=by omega
   rw[H4 hi,H4 hk1];exact zbx.1 b k i hk1 hi hk
theorem TP(hT:HR x.T)(hB:HB x)(hr:x.Roots.length<=1000):∃b,qn (hO x)=some b/\(b=true↔((∀h∈x.Roots,h=0\/h∈lv x.S)/\(∀h∈lv x.S,∀v∈(ob x.S h).Fields,v=0\/v∈lv x.S)/\∀k v,Has x.T k v->k∈lv x.S/\v∈lv x.S)):=by
 have hlen:(hO x).Roots.length=x.Roots.length:=rfl;have h24:=H2 (x8.2 hR);unfold qn;simp only[jn];refine DG x.Roots.length (λi=>x.Roots.getD i 0=0\/x.Roots.getD i 0∈lv x.S) (by omega) (λi hi=>?_) (by simp[hlen]) (λhall=>?_) (λhno=>?_)
 .have hb:=hB.rb _ (zd hi);rw[hlen];simp only[zo,hi,zt,zD];rw[show (hO x).Roots=x.Roots from rfl,r8 hi,a1b,mK hR hb,a1b,H4 hi];by_cases c:x.Roots[i]=0\/x.Roots[i]∈lv x.S
  .rw[zp c,za (by simp),l6];exact⟨_,rfl,.inl ⟨c,rfl⟩⟩
  .rw[zA c,zb (by simp)];exact⟨_,rfl,.inr ⟨c,rfl⟩⟩
 .dsimp only;have hall':∀h∈x.Roots,h=0\/h∈lv x.S:=λh hh=>by
   obtain⟨i,hi,rfl⟩:=q9 hh;have:=hall i hi;rwa [H4 hi] at this
  rw[show (hO x).S=sO x.S from rfl,km (x8.2 hR),a1b];refine DG (lv x.S).length (λi=>∀v∈(ob x.S ((lv x.S).getD i 0)).Fields,v=0\/v∈lv x.S) (by omega) (λi hi=>?_) (by simp) (λhall2=>?_) (λhno=>?_)
  .have hm:=zd hi;have hle:=LH (x8.2 hR) hi;have hfl:=(L1 hR hm).fl;simp only[zo,hi,zt,zD];rw[r8 hi,a1b,iv x.S (by have:=hR.len;omega) hle,vA (x8.2 hR) hm,zM,a1b,H4 hi];have hff:(oo (ob x.S (lv x.S)[i])).Fields=(ob x.S (lv x.S)[i]).Fields:=rfl;dsimp only;rw[hff];refine DG (ob x.S (lv x.S)[i]).Fields.length (λk=>(ob x.S (lv x.S)[i]).Fields.getD k 0=0\/(ob x.S (lv x.S)[i]).Fields.getD k 0∈lv x.S) (by omega) (λk hk=>?_) (by simp) (λhall3=>?_) (λhno=>?_)
   .have hp:=B5 hR hm;have hb:(ob x.S (lv x.S)[i]).Fields[k]<=9223372036854775807:=by
     have e:=Q5 hR hp;exact Vs.1 hB.fb _ hp.1 _ (by rw[<-e];exact zd hk)
    simp only[zo,hk,zt,zD];rw[r8 hk,a1b,mK hR hb,a1b,H4 hk];by_cases c:(ob x.S (lv x.S)[i]).Fields[k]=0\/(ob x.S (lv x.S)[i]).Fields[k]∈lv x.S
    .rw[zp c,za (by simp),l6];exact⟨_,rfl,.inl ⟨c,rfl⟩⟩
    .rw[zA c,zb (by simp)];exact⟨_,rfl,.inr ⟨c,rfl⟩⟩
   .dsimp only;rw[l6];refine⟨_,rfl,.inl ⟨λv hv=>?_,rfl⟩⟩;obtain⟨k,hk,rfl⟩:=q9 hv;have:=hall3 k hk;rwa [H4 hk] at this
   .refine⟨_,rfl,.inr ⟨λq=>hno λk hk=>?_,rfl⟩⟩;rw[H4 hk];exact q _ (zd hk)
  .dsimp only;have hall2':∀h∈lv x.S,∀v∈(ob x.S h).Fields,v=0\/v∈lv x.S:=λh hh=>by
    obtain⟨i,hi,rfl⟩:=q9 hh;have:=hall2 i hi;rwa [H4 hi] at this
   have h8:=iG hT.l8;rw[show (hO x).T=x.T.map J7 from rfl,vU hT,a1b,wd];refine DG (aO x.T).length (λi=>((aO x.T).getD i ⟨0,0⟩).Key∈lv x.S/\((aO x.T).getD i ⟨0,0⟩).Val∈lv x.S) (by omega) (λi hi=>?_) (by simp) (λhall3=>?_) (λhno=>?_)
   .have hi':i<((aO x.T).map pp).length:=by simpa using hi
    have hb:=hB.tb.has (cg.1 (zd hi));simp only[zo,hi,zt,zD];rw[r8 hi',a1b,wt,mJ hR hb.1,a1b,H4 hi];by_cases c:(aO x.T)[i].Key∈lv x.S
    .rw[zp c];simp only[zbq,zF,J9,za7];rw[mJ hR hb.2,a1b];by_cases c2:(aO x.T)[i].Val∈lv x.S
     .rw[zp c2,za (by simp),l6];exact⟨_,rfl,.inl ⟨⟨c,c2⟩,rfl⟩⟩
     .rw[zA c2,zb (by simp)];exact⟨_,rfl,.inr ⟨λq=>c2 q.2,rfl⟩⟩
    .rw[zA c];simp only[Bool.not_false,show ((true==false):Bool)=false from rfl,oU,a1b,zch,zD];exact⟨_,rfl,.inr ⟨λq=>c q.1,rfl⟩⟩
   .refine⟨true,rfl,?_⟩;simp only[true_iff];refine⟨hall',hall2',λk v hkv=>?_⟩;obtain⟨i,hi,e⟩:=q9 (cg (p:=⟨k,v⟩).2 hkv);have:=hall3 i hi;rw[H4 hi,e] at this;exact this
   .refine⟨false,rfl,?_⟩;simp only[zg,false_iff];rintro⟨_,_,q⟩;refine hno λi hi=>?_;rw[H4 hi];exact q _ _ (cg.1 (zd hi))
  .refine⟨false,rfl,?_⟩;simp only[zg,false_iff];rintro⟨_,q,_⟩;refine hno λi hi=>?_;rw[H4 hi];exact q _ (zd hi)
 .refine⟨false,rfl,?_⟩;simp only[zg,false_iff];rintro⟨q,_⟩;refine hno λi hi=>?_;rw[H4 hi];exact q _ (zd hi)
def ClP(x:Hp)(i:Nat)(c:g9):Prop:=-1<=c.Call/\c.Call<=5/\(c.Target=0->c.Intact=false)/\(c.Target≠0->∃p,X6 x.S c.Target p)/\(c.Intact=true->c.Target∈lv x.S/\II x.Q i=false)
theorem Te(hl:x.Cells.length<=1000)(hq:x.Q.L.length<=1000)(hB:∀c∈x.Cells,c.Target<=9223372036854775807):∃b,qm (hO x)=some b/\(b=true↔∀i (hi:i<x.Cells.length),ClP x i x.Cells[i]):=by
 have hlen:(hO x).Cells.length=x.Cells.length:=by simp[hO]
 unfold qm;simp only[jn];rw[hlen];refine DG x.Cells.length (λi=>ClP x i (x.Cells.getD i YD)) (by omega) (λi hi=>?_) (by simp) (λhall=>⟨true,rfl,?_⟩) (λhno=>⟨false,rfl,?_⟩)
 .have hi':i<(hO x).Cells.length:=by rw[hlen];exact hi
  have hg:(hO x).Cells[i]=⟨(x.Cells.getD i YD).Target,(x.Cells.getD i YD).Intact,(x.Cells.getD i YD).Call⟩:=by
   rw[H4 hi];simp[hO,nB]
  have hb:=hB _ (zd hi);rw[<-H4 hi YD] at hb;simp only[zo,hi,zt,zD,r8 hi',a1b,hg];generalize x.Cells.getD i YD=c at hb;rw[show (hO x).S=sO x.S from rfl,dF _ (by rw[C9];have:=hR.len;omega),a1b];rw[rQ x.S hb];obtain⟨z,z1,z2⟩:∃z,y8 x.S.S c.Target=some z/\(z.2=0↔∃p,X6 x.S c.Target p):=by
   by_cases q:∃p,X6 x.S c.Target p
   .obtain⟨p,hp⟩:=q;exact⟨_,jl hR hp,by simp;exact⟨p,hp⟩⟩
   .refine⟨_,mi hR hb (λp hp=>q ⟨p,hp⟩),?_⟩;simp only[q,iff_false];exact dt _
  rw[z1,a1b];by_cases c1:((((decide (c.Call<(-1)))||(decide (c.Call > 5)))||((c.Target==0)&&c.Intact))||((c.Target != 0)&&(z.2 != 0)))=true
  .rw[c1];simp only[show ((true==false):Bool)=false from rfl,zay,oU,a1b,zch,zD];refine⟨_,rfl,.inr ⟨λq=>?_,rfl⟩⟩;obtain⟨q1,q2,q3,q4,q5⟩:=q;simp only[t8,zj,up,ww,za8,zci] at c1;rcases c1 with ((c1 | c1) | c1) | c1
   .omega
   .omega
   .have:=q3 c1.1;rw[this] at c1;exact absurd c1.2 (by decide)
   .exact c1.2 (z2.2 (q4 c1.1))
  .have c1:((((decide (c.Call<(-1)))||(decide (c.Call > 5)))||((c.Target==0)&&c.Intact))||((c.Target != 0)&&(z.2 != 0)))=false:=by simpa using c1
   have c1' : -1<=c.Call/\c.Call<=5/\(c.Target=0->c.Intact=false)/\(c.Target≠0->∃p,X6 x.S c.Target p):=by
    simp only[Bool.or_eq_false_iff,Bool.and_eq_false_iff,zba,beq_eq_false_iff_ne,zci,bne_eq_false_iff_eq] at c1;refine⟨by omega,by omega,λq=>c1.1.2.resolve_left (λq2=>q2 q),λq=>z2.1 (c1.2.resolve_left q)⟩
   rw[c1];simp only[zF,wn,za7];cases hin:c.Intact
   .simp only[show ((false==true):Bool)=false from rfl,oU,a1b,zay,zg,zU];rw[l6];exact⟨_,rfl,.inl ⟨⟨c1'.1,c1'.2.1,λ_=>hin,c1'.2.2.2,λq=>by rw[hin] at q;cases q⟩,rfl⟩⟩
   .simp only[zF,J9,wn];rw[mJ hR hb,a1b];by_cases c2:c.Target∈lv x.S
    .rw[zp c2];simp only[zbq,zF,J9,za7];rw[show eT (hO x).Q i=some (II x.Q i) from Mb hq,a1b];cases hwt:II x.Q i
     .rw[za (by decide),l6];exact⟨_,rfl,.inl ⟨⟨c1'.1,c1'.2.1,c1'.2.2.1,c1'.2.2.2,λ_=>⟨c2,hwt⟩⟩,rfl⟩⟩
     .rw[zb rfl];refine⟨_,rfl,.inr ⟨λq=>?_,rfl⟩⟩;have:=(q.2.2.2.2 hin).2;rw[hwt] at this;cases this
    .rw[zA c2];simp only[Bool.not_false,show ((true==false):Bool)=false from rfl,oU,a1b,zch,zD];exact⟨_,rfl,.inr ⟨λq=>c2 (q.2.2.2.2 hin).1,rfl⟩⟩
 .simp only[true_iff];intro i hi;have:=hall i hi;rwa [H4 hi] at this
 .simp only[zg,false_iff];intro q;refine hno λi hi=>?_;rw[H4 hi];exact q i hi
omit hR in
theorem Qp (l:List g9) (hl:l.length<=1000) (h:Int):mY (l.map nB) h=some (xg l h:Int):=by
 unfold mY;simp only[jn];rw[wd,vz l (λ(b:Int) c=>if ((h != 0)&&(c.Target==h))=true then b+1 else b) id (λk b=>0<=b/\b<=k) (by omega) (by omega) (λk hk b hI=>?_) (λb _=>by simp),a1b]
 .congr 1;have:∀(l:List g9) (n:Int),l.foldl (λ(b:Int) c=>if ((h != 0)&&(c.Target==h))=true then b+1 else b) n=n+(xg l h:Int):=λl=>by
   induction l with
   | nil=>intro n;simp[xg]
   | cons c l ih=>
    intro n;rw[zah,ih];unfold xg;rw[List.countP_cons];split <;> simp_all <;> omega
  rw[id,this];omega
 .have hk':k<(l.map nB).length:=by simpa using hk
  simp only[zo,hk,zt,zD,r8 hk',a1b,wt,nB];by_cases c:((h != 0)&&(l[k].Target==h))=true
  .rw[zb c,zb (by rw[Bool.and_comm];exact c),G4 (by omega) (by omega),l6];exact⟨rfl,by omega⟩
  .rw[za c,za (by rw[Bool.and_comm];exact c),l6];exact⟨rfl,by omega⟩
omit hR in
theorem Xa {s:a7} {i:Nat} (hi:i<s.S.Cells.length):ix (sO s).Cells (i:Int)=some ⟨(ce s i).State,(ce s i).Gen,⟨(ce s i).Val.Serial,(ce s i).Val.Strong,(ce s i).Val.Weak,(ce s i).Val.Prog,(ce s i).Val.Started,(ce s i).Val.Fields⟩⟩:=PR hi
theorem Vf(hl:x.Cells.length<=1000):∃b,qp (hO x)=some b/\(b=true↔Wk x):=by
 have hlen:(hO x).S.Cells.length=x.S.S.Cells.length:=by simp[hO,sO]
 have h24:=hR.len;have l9:=hR.l9;unfold qp;simp only[jn];rw[hlen];refine DG x.S.S.Cells.length (λi=>Th (ce x.S i)->(ce x.S i).Val.Weak=(xg x.Cells (1+(i:Int)+32*(ce x.S i).Gen):Int)/\((ce x.S i).State=2->1<=(ce x.S i).Val.Weak/\(ce x.S i).Val.Fields = []/\(ce x.S i).Val.Strong=0)) (by omega) (λi hi=>?_) (by simp) (λhall=>⟨true,rfl,by simp only[true_iff];exact λi hi=>hall i hi⟩) (λhno=>⟨false,rfl,by simp only[zg,false_iff];exact λq=>hno λi hi=>q i hi⟩);have hc:=hR.cell i hi;simp only[zo,hi,zt,zD];rw[show (hO x).S=sO x.S from rfl,Xa hi,a1b];dsimp only;by_cases ht:Th (ce x.S i)
 .rw[za (by unfold Th at ht;simp only[zj,za8,zci];omega)];unfold sg;rw[jG,zb ⟨by omega,by omega,hc.2.2.1,by omega⟩,a1b,a1b,show (hO x).Cells=x.Cells.map nB from rfl,Qp x.Cells hl,a1b];by_cases g:(ce x.S i).Val.Weak=(xg x.Cells (1+(i:Int)+32*(ce x.S i).Gen):Int)/\((ce x.S i).State=2->1<=(ce x.S i).Val.Weak/\(ce x.S i).Val.Fields = []/\(ce x.S i).Val.Strong=0)
  .rw[za,l6];·exact⟨_,rfl,.inl ⟨λ_=>g,rfl⟩⟩
   .obtain⟨g1,g2⟩:=g;simp only[t8,zj,za8,zci,ww,up,not_or,not_and,Decidable.not_not];refine⟨g1,λq=>?_⟩;obtain⟨a,b,c⟩:=g2 q;rw[b];exact⟨⟨by omega,by simp⟩,c⟩
  .rw[zb];·exact⟨_,rfl,.inr ⟨λq=>g (q ht),rfl⟩⟩
   .simp only[t8,zj,za8,zci,ww,up];by_cases g1:(ce x.S i).Val.Weak=(xg x.Cells (1+(i:Int)+32*(ce x.S i).Gen):Int)
    .right;refine zP λq=>g ⟨g1,λq2=>?_⟩;have q:¬(((ce x.S i).Val.Weak<1\/((ce x.S i).Val.Fields.length:Int) > 0)\/¬(ce x.S i).Val.Strong=0):=λq3=>q ⟨q2,q3⟩;refine⟨by omega,zQ (by omega),by omega⟩
    .exact .inl g1
 .rw[zb (by unfold Th at ht;simp only[zj,za8,zci];omega),l6];exact⟨_,rfl,.inl ⟨λq=>absurd q ht,rfl⟩⟩
omit hR in
theorem JH (l:List Int) (hl:l.length<=1000):lp (S:=Int × (List Int)) (E:=(List Int)) (λ((s17,s18):Int × (List Int))=>
   if (decide (s17<(l.length:Int))) then
     (ix l s17).bind λv25=>
     if (v25 != 0) then
      (app 8 s18 [v25]).bind λv26=>
      some (.inl (A1 (s17+1),v26))
     else
     some (.inl (A1 (s17+1),s18))
   else
   some (.inr s18)) (0,[])=some (nz l):=by
 rw[H6 l (λb x=>if (x != 0)=true then b ++ [x] else b) id (λk b=>b.length<=k) (by omega) (by simp) (λk hk b hI=>?_) (λb _=>by simp)]
 .rw[foldl_filter];rfl
 .simp only[zo,hk,zt,zD,r8 hk,a1b];rw[l6];by_cases c:(l[k] != 0)=true
  .rw[zb c,zb c,B3 (by omega) (by simp;omega),a1b];exact⟨rfl,by simp;omega⟩
  .rw[za c,za c];exact⟨rfl,by omega⟩
omit hR in
theorem LU (hl:x.Roots.length<=1000) (hq:x.Q.L.length<=1000):(nZ x).length<=2000:=by
 unfold nZ xf;rw[zT,wd];have:=JB x.Roots;have:(x.Q.L.filter (·.Kind==1)).length<=x.Q.L.length:=zN ..;omega
omit hR in
theorem Uh (hl:x.Roots.length<=1000) (hq:x.Q.L.length<=1000):qk (hO x)=some (nZ x):=by
 unfold qk;simp only[jn];rw[show (hO x).Roots=x.Roots from rfl,show lp _ _=_ from JH x.Roots hl,a1b,show pd (hO x).Q=some (xf x.Q) from XO hq,a1b];have:=LU hl hq;unfold nZ at this |-;rw[zT] at this;rw[B3 (by omega) (by omega)];rfl
omit hR in
theorem GB:Gf x.S x.T (nZ x)↔cJ x []:=by
 constructor
 .intro h k hk hlt;have:=h k hk hlt;unfold AK inr at this;rw[zb hk] at this;rw[S0];unfold qP;omega
 .intro h k hk hlt;have:=h k hk hlt;rw[S0] at this;unfold qP at this;unfold AK inr;rw[zb hk];omega
end
theorem GP(x:Hp)(hB:HB x)(hc:x.S.S.Cells.length<=1000)(hr:x.Roots.length<=1000)(hl:x.Cells.length<=1000)(ht:x.T.length<=1000)(hq:x.Q.L.length<=1000):∃b,ql (hO x)=some b/\(b=true↔P5 x):=by
 unfold ql;obtain⟨b1,e1,h1⟩:=RV (sO x.S) (by rw[C9];exact hc);obtain⟨b2,e2,h2⟩:=NR x.T ht;rw[show (hO x).S=sO x.S from rfl,e1,a1b,show (hO x).T=x.T.map J7 from rfl,e2];have hno:∀ {P:Prop},¬P->(false=true↔P):=λq=>by simp[q]
 cases b1
 .refine⟨false,by simp[u5],hno λq=>?_⟩;have:=h1.2 (x8.2 q.sh.sr);cases this
 .have hR:=x8.1 (h1.1 rfl);cases b2
  .refine⟨false,by simp[u5],hno λq=>?_⟩;have:=h2.2 q.sh.hr;cases this
  .have hT:=h2.1 rfl;simp only[zbq,zF,J9,a1b,Bool.or_self,za7];by_cases hlen:x.Roots.length=6/\x.Cells.length=6
   .rw[za (by simp[hO];omega)];obtain⟨b3,e3,h3⟩:=UW hR hq hB.qb;rw[e3,a1b];cases b3
    .refine⟨false,by simp[u5],hno λq=>?_⟩;have:=h3.2 ⟨q.sh.tk,q.sh.td,q.sh.cap,q.sh.q30⟩;cases this
    .obtain⟨t1,t2,t3,t4⟩:=h3.1 rfl;obtain⟨b4,e4,h4⟩:=TP hR hT hB hr;simp only[zF,J9,wn];rw[e4,a1b];cases b4
     .refine⟨false,by simp[u5],hno λq=>?_⟩;have:=h4.2 ⟨q.sh.rt,q.sh.fl,q.sh.pr⟩;cases this
     .obtain⟨n1,n2,n3⟩:=h4.1 rfl;obtain⟨b5,e5,h5⟩:=Te hR hl hq hB.cb;simp only[zF,J9,wn];rw[e5,a1b];cases b5
      .refine⟨false,by simp[u5],hno λq=>?_⟩;have:=h5.2 q.sh.cl;cases this
      .have c1:=h5.1 rfl;obtain⟨b6,e6,h6⟩:=Vf hR hl;simp only[zF,J9,wn];rw[e6,a1b];cases b6
       .refine⟨false,by simp[u5],hno λq=>?_⟩;have:=h6.2 q.wk;cases this
       .have w1:=h6.1 rfl;simp only[zF,J9,wn];rw[Uh hr hq,a1b,Nj (x8.2 hR) hT hB.sb (by have:=LU hr hq;omega),a1b];refine⟨_,rfl,?_⟩;rw[zx,GB];exact⟨λq=>⟨⟨hR,hT,hlen.1,hlen.2,t3,t4,t1,t2,n1,n2,n3,c1⟩,w1,q⟩,λq=>q.fair⟩
   .rw[zb (by simp[hO];omega)];exact⟨false,rfl,hno λq=>hlen ⟨q.sh.r6,q.sh.c6⟩⟩
section
variable{x:Hp}(hx:P5 x)(hB:HB x)
include hx hB
end
theorem Yb{l:List m9}(h:l.length<=100000):ub l l=some true:=by
 unfold ub;rw[za (by simp)];simp only[jn];refine N6 l.length (λ_=>True) (by omega) trivial (λk hk _=>.inl ⟨?_,trivial⟩) (λ_=>⟨.inr (),by simp,rfl⟩);rw[zb (by simpa using hk),r8 hk,a1b,a1b,za (by simp),l6 (by omega)]
def SL(x:Hp):Prop:=∀k∈lv x.S,(ob x.S k).Strong<=9223372036854775807
theorem SB.sl{x:Hp}(hR:SR x.S)(h:SB x.S):SL x:=λk hk=>Oa hR h k hk
theorem Vw{x:Hp}(hx:P5 x)(hS:SL x):HB x:=by
 have hR:=hx.sh.sr;have bd:∀v,v=0\/v∈lv x.S->v<=9223372036854775807:=λv q=>by
  rcases q with q | q
  .omega
  .have:=I8 hR q;omega
 refine⟨ZK.2 λi hi=>?_,Vs.2 λi hi v hv=>?_,λv hv=>bd v (hx.sh.rt v hv),λc hc=>?_,λp hp=>?_,λt ht=>?_⟩
 .by_cases t:Th (ce x.S i)
  .rcases t with t | t
   .have q:At x.S (1+(i:Int)+32*(ce x.S i).Gen) i:=⟨hi,t,rfl⟩;have:=hS _ ((gn hR).2 ⟨i,q⟩);rwa [Q5 hR q] at this
   .have:=((hx.wk i hi (.inr t)).2 t).2.2;omega
  .have:=(hR.no i hi t).2.1;simp only[oo] at this;omega
 .by_cases t:Th (ce x.S i)
  .rcases t with t | t
   .have q:At x.S (1+(i:Int)+32*(ce x.S i).Gen) i:=⟨hi,t,rfl⟩;have hm:=(gn hR).2 ⟨i,q⟩;exact bd v (hx.sh.fl _ hm v (by rw[Q5 hR q];exact hv))
   .rw[((hx.wk i hi (.inr t)).2 t).2.1] at hv;cases hv
  .have:=(hR.no i hi t).2.2.2.2.2;simp only[oo] at this;rw[zQ this] at hv;cases hv
 .obtain⟨i,hi,rfl⟩:=q9 hc;by_cases e:x.Cells[i].Target=0
  .omega
  .obtain⟨p,hp⟩:=(hx.sh.cl i hi).2.2.2.1 e;have:=hp.Rf hR;omega
 .obtain⟨i,hi,rfl⟩:=q9 hp;have e:pt x.T i=x.T[i]:=by
   unfold pt;rw[zf,zc hi];rfl
  by_cases s1:(pt x.T i).State=1
  .obtain⟨a,b⟩:=hx.sh.pr (pt x.T i).Key (pt x.T i).Val ⟨i,⟨hi,s1,rfl⟩,rfl⟩;rw[e] at a b;exact⟨bd _ (.inr a),bd _ (.inr b)⟩
  .obtain⟨a,b⟩:=(hx.sh.hr.st i hi).2 s1;rw[e] at a b;omega
 .obtain⟨_,_,q | q⟩:=hx.sh.tk t ht;·exact bd _ (.inr q.2.1)
  .omega
theorem VJ{s:a7}(hR:SR s):Sm s:=by
 refine⟨by have:=hR.len;omega,λi hi=>?_⟩;by_cases t:Th (ce s i)
 .have:=(hR.ok i hi t).fl;rw[F5 hi] at this;omega
 .have:=(hR.no i hi t).2.2.2.2.2;simp only[oo] at this;rw[F5 hi] at this;omega
theorem Yc{x:Hp}(h:jX x):uv (hO x) (hO x)=some true:=by
 have sm:=VJ h.sr;have h1:=h.r6;have h2:=h.c6;have h3:=h.hr.l8;have h4:=h.q30;unfold uv;rw[show (hO x).S=sO x.S from rfl,MJ _ (by rw[C9];have:=sm.1;omega) (λi hi=>by
  have:=sm.2 i (by rw[C9] at hi;exact hi);simp only[sO,wt,cO,oo];omega),a1b]
 simp only[zF,J9,wn];rw[show (hO x).Roots=x.Roots from rfl,yU (by omega),a1b];simp only[zF,J9,wn];rw[Yb (by simp[hO];omega),a1b];simp only[zF,J9,wn];rw[NS (by simp[hO];omega),a1b];simp only[zF,J9,wn];rw[show (hO x).Q=gl x.Q from rfl,XL (by omega),a1b]
theorem TA(c:Int):W2 c<=12:=by unfold W2;split <;> (try split) <;> omega
theorem Tl{c:Int}(h:c<=9223372036854775807):kP c<=9223372036854775807:=by unfold kP;split <;> (try split) <;> omega
theorem SL.of{x y:Hp}(h:SL x)(hl:lv y.S=lv x.S)(hs:∀k∈lv x.S,(ob y.S k).Strong=(ob x.S k).Strong):SL y:=λk hk=>by
 rw[hl] at hk;rw[hs k hk];exact h k hk
theorem SL.st{x:Hp}(h:SL x)(hR:SR x.S)(v:Int){f:Int->Int}(hf:∀c,0<=c->0<=f c)(hb:∀c,c<=9223372036854775807->f c<=9223372036854775807):SL (uL x v f):=λk hk=>by
 rw[(I0 hR v hf).lv] at hk;rw[wb hR v hf hk];split;·exact hb _ (h k hk)
 .exact h k hk
theorem SL.D8{x:Hp}(h:SL x)(hR:SR x.S)(v:Int):SL (D8 x v):=h.st hR v (λc=>E7) λc _=>by have:=TA c;omega
theorem SL.rls{x:Hp}(h:SL x)(hR:SR x.S)(v:Int):SL (T2 x v):=h.st hR v (λc=>Q3) λc hc=>Tl hc
theorem Kd{x:Hp}(hR:SR x.S)(v:Int):SR (T2 x v).S:=(I0 hR v λc=>Q3).sr
theorem iR{x:Hp}(hR:SR x.S)(h:SL x)(r:Nat)(v:Int):SL (H9 x r v):=by
 unfold H9;exact SL.rls (x:=wR (D8 x v) (x.Roots.set r v)) (h.D8 hR v) (gi hR v) _
theorem Nk{x:Hp}(hR:SR x.S)(hS:SL x){h:Int}(hh:h∈lv x.S)(k:Nat)(v:Int):SL (cq x h k v):=by
 have BA:=I0 hR v (f:=W2) λc=>E7;have hR1:SR (D8 x v).S:=BA.sr;have hl1:h∈lv (D8 x v).S:=by rw[show lv (D8 x v).S=lv x.S from BA.lv];exact hh
 have hof:(ob (D8 x v).S h).Fields=(ob x.S h).Fields:=by
  obtain⟨m,e⟩:=BA.ob h (by have:=I8 hR hh;omega);show (ob (uL x v W2).S h).Fields=_;rw[e]
 have ok:=L1 hR1 hl1;have ho:Bp (D8 x v).S (pV (ob (D8 x v).S h) ((ob x.S h).Fields.set k v)):=⟨ok.s1,ok.s2,ok.st,ok.wk,ok.p1,ok.p2,by have:=ok.fl;rw[hof] at this;simpa using this⟩;have sr2:=bN (o:=pV (ob (D8 x v).S h) ((ob x.S h).Fields.set k v)) hR1 hl1 rfl ho;unfold cq;refine SL.rls (x:=wS (D8 x v) (cZ (D8 x v).S h (pV (ob (D8 x v).S h) ((ob x.S h).Fields.set k v)))) ?_ sr2 _;refine (hS.D8 hR v).of (gj hR1 hl1 rfl ho) λj hj=>?_;dsimp only;rw[eX (o:=pV (ob (D8 x v).S h) ((ob x.S h).Fields.set k v)) hR1 hl1 rfl ho (by have:=I8 hR1 hj;omega)];split;·rename_i e;rw[e]
 .rfl
theorem QJ{x:Hp}(hR:SR x.S)(hS:SL x)(v:Int)(t:Tb)(old:Int):SL (lg x v t old):=by
 unfold lg;exact SL.rls (x:=wT (D8 x v) t) (hS.D8 hR v) (gi hR v) _
theorem Xi{x:Hp}(hR:SR x.S)(hS:SL x)(h:Int){d:Int}(hd:X6 x.S h (E4 h)->0<=(ce x.S (E4 h)).Val.Weak+d):SL (kY x h d):=by
 unfold kY;split
 .rename_i q;exact hS.of (mL hR q.1 q.2.1 (hd q)).lv λk hk=>mM hR q.1 q.2.1 (hd q) hk
 .exact hS
theorem MG{x:Hp}(hR:SR x.S)(hS:SL x)(h:Int)(hd:X6 x.S h (E4 h)->1<=(ce x.S (E4 h)).Val.Weak):SL (pC x h):=by
 unfold pC;split
 .rename_i q;have hd:=hd q;have kn:=mL (d:=-1) hR q.1 q.2.1 (by omega);have s1:SL (wS x (pY x.S (E4 h) (-1))):=hS.of kn.lv λk hk=>mM hR q.1 q.2.1 (by omega) hk;split
  .rename_i c;have hi1:E4 h<(pY x.S (E4 h) (-1)).S.Cells.length:=by rw[kn.len];exact q.1
   have hce:ce (pY x.S (E4 h) (-1)) (E4 h)=⟨(ce x.S (E4 h)).State,(ce x.S (E4 h)).Gen,YF (ce x.S (E4 h)).Val ((ce x.S (E4 h)).Val.Weak + -1)⟩:=by
    rw[gb hR q.1 q.2.1,zb rfl]
   have h2:(ce (pY x.S (E4 h) (-1)) (E4 h)).State=2:=by rw[hce];exact c.1
   exact s1.of (DX kn.sr hi1 h2) λk hk=>by
    dsimp only;rw[DY kn.sr hi1 h2 hk]
  .exact s1
 .exact hS
theorem RC{x:Hp}(hx:P5 x)(hS:SL x){n:Nat}(hn:n<6)(h call:Int):SL (eC x n h call):=by
 have hR:=hx.sh.sr;have hnl:n<x.Cells.length:=by have:=hx.sh.c6;omega
 have ok:∀k i,X6 x.S k i->0<=(ce x.S i).Val.Weak:=λk i q=>(hR.ok i q.1 q.2.1).wk;have tw:∀i,X6 x.S (uM x n) i->1<=(ce x.S i).Val.Weak:=λi q=>by
  have htg:uM x n=x.Cells[n].Target:=by
   unfold uM;rw[zf,zc hnl];rfl
  have r:=q.Rf hR;have p:=tM hnl (by rw[<-htg];omega);rw[<-htg,q.2.2] at p;have:=(hx.wk i q.1 q.2.1).1;omega
 unfold eC;have s1:SL (kY (wC x (x.Cells.set n (jV h call))) h 1):=Xi (x:=wC x (x.Cells.set n (jV h call))) hR hS h λq=>by
  have:=ok _ _ q;dsimp only;omega
 by_cases q:X6 x.S h (E4 h)
 .have e:kY (wC x (x.Cells.set n (jV h call))) h 1=wS (wC x (x.Cells.set n (jV h call))) (pY x.S (E4 h) 1):=by
   unfold kY;rw[zb q]
  have hd:=ok _ _ q;have kn:=mL (d:=1) hR q.1 q.2.1 (by omega);rw[e] at s1 |-;refine MG kn.sr s1 _ λq2=>?_;dsimp only at q2 |-;have q3:=(kn.ad _ _).1 q2;have:=tw _ q3;rw[gb hR q.1 q.2.1];split
  .rename_i e2;rw[e2] at this;show 1<=(ce x.S (E4 h)).Val.Weak+1;omega
  .exact this
 .have e:kY (wC x (x.Cells.set n (jV h call))) h 1=wC x (x.Cells.set n (jV h call)):=by
   unfold kY;rw[za q]
  rw[e] at s1 |-;exact MG (x:=wC x (x.Cells.set n (jV h call))) hR s1 _ λq2=>tw _ q2
section
variable{x:Hp}(hx:P5 x)(hS:SL x)
include hx hS
end
def wm(x:Hp):Prop:=Sm x.S/\x.Roots.length<=20/\x.Cells.length<=20/\x.T.length<=20/\x.Q.L.length<=60
instance(x:Hp):Decidable (wm x):=by unfold wm;infer_instance
theorem jX.a0B{x:Hp}(h:jX x):wm x:=by
 have h1:=h.r6;have h2:=h.c6;have h3:=h.hr.l8;have h4:=h.q30;exact⟨VJ h.sr,by omega,by omega,by omega,by omega⟩
def a0D:Hp:=⟨⟨⟨[],0⟩,0⟩,[],[],[],⟨[],0⟩⟩
theorem AS(x:Hp)(h:Int)(f:Int->Int):(uL x h f).Roots=x.Roots/\(uL x h f).Cells=x.Cells/\(uL x h f).T=x.T/\(uL x h f).Q=x.Q:=by
 unfold uL;split <;> exact⟨rfl,rfl,rfl,rfl⟩
theorem iQ(x:Hp)(r:Nat)(h:Int):(H9 x r h).Roots=x.Roots.set r h/\(H9 x r h).Cells=x.Cells/\(H9 x r h).T=x.T/\(H9 x r h).Q=x.Q:=by
 obtain⟨a,b,c,d⟩:=AS (wR (D8 x h) (x.Roots.set r h)) (x.Roots.getD r 0) kP;obtain⟨a',b',c',d'⟩:=AS x h W2;exact⟨a,b.trans b',c.trans c',d.trans d'⟩
section
variable{x:Hp}(hB:HB x)
include hB
end
abbrev Nf(o:n7):n7:=⟨o.Serial,0,o.Weak,o.Prog,o.Started,[]⟩
def Of(s:a7)(i:Nat):c4:=
 if (ce s i).Val.Weak=0 then (if (ce s i).Gen=s.S.Last then ⟨3,(ce s i).Gen,z0⟩ else ⟨0,(ce s i).Gen+1,z0⟩) else ⟨2,(ce s i).Gen,Nf (ce s i).Val⟩
def DV(s:a7)(d:Int):a7:=I4 s (E4 d) (Of s (E4 d))
def mB(s:a7)(ds:List Int):a7:=ds.foldl DV s
theorem WK(s:a7)(i:Nat):(Of s i).State≠1:=by
 unfold Of;split;·split <;> simp
 .simp
theorem JK{s:a7}(hR:SR s){a b:Int}(ha:a∈lv s)(hb:b∈lv s)(h:a≠b):E4 a≠E4 b:=λe=>by
 have h1:=B5 hR ha;have h2:=B5 hR hb;rw[e] at h1;exact h (h1.2.2.trans h2.2.2.symm)
section
variable{s:a7}(hR:SR s){d:Int}(hd:d∈lv s)
include hR hd
theorem Js:SR (DV s d):=by
 have q:=B5 hR hd;have hc:=hR.cell _ q.1;have ho:=hR.ok _ q.1 (.inl q.2.1);have no:CX (oo z0):=⟨rfl,rfl,rfl,rfl,rfl,rfl⟩;unfold DV Of;split
 .split;·exact hR.I4 q.1 ⟨by simp,by simp,hc.2.2.1,hc.2.2.2⟩ (λ_=>no) (λq=>absurd q (by unfold Th;simp))
  .refine hR.I4 q.1 ⟨by simp,by simp,?_,?_⟩ (λ_=>no) (λq=>absurd q (by unfold Th;simp));·show 0<=(ce s (E4 d)).Gen+1;omega
   .show (ce s (E4 d)).Gen+1<=s.S.Last;omega
 .exact hR.I4 q.1 ⟨by simp,by simp,hc.2.2.1,hc.2.2.2⟩ (λq=>absurd (.inr rfl) q) (λ_=>⟨⟨ho.s1,ho.s2,ms _,ho.wk,ho.p1,ho.p2,t7 _⟩,.inl q.2.1,rfl⟩)
theorem PD(j:Nat):ce (DV s d) j=if j=E4 d then Of s (E4 d) else ce s j:=M2 (B5 hR hd).1 _ j
theorem WI:lv (DV s d)=(lv s).filter λh=>decide (h≠d):=by
 have hS:=Js hR hd;unfold DV at hS |-;have hc:=WK s (E4 d);rw[LJ hR (B5 hR hd).1 hc hS];refine zat λh hh=>za0.2 ⟨λq e=>q (by rw[e]),λq=>JK hR hh hd q⟩
theorem WJ{k:Int}(hk:k∈lv s)(hne:k≠d):ob (DV s d) k=ob s k:=by
 have hS:=Js hR hd;unfold DV at hS |-;exact LQ hR (B5 hR hd).1 hS hk (JK hR hk hd hne)
end
structure Gn (s s':a7) (ds:List Int):Prop where
 sr:SR s'
 len:s'.S.Cells.length=s.S.Cells.length
 last:s'.S.Last=s.S.Last
 aV:s'.Serial=s.Serial
 lv:lv s'=(lv s).filter λh=>decide (h∉ds)
 ob:∀k∈Sh.lv s,k∉ds->ob s' k=ob s k
 ce:∀j,ce s' j=if j∈ds.map E4 then Of s j else ce s j
theorem dw:∀(ds:List Int) {s:a7} (hR:SR s),ds.Nodup->(∀d∈ds,d∈lv s)->Gn s (mB s ds) ds
 | [],s,hR,_,_=>⟨hR,rfl,rfl,rfl,(zap.2 (λa _=>by simp)).symm,λ_ _ _=>rfl,λj=>by simp[mB]⟩
 | d::ds,s,hR,hn,hm=>by
  rw[zam] at hn;have hd:=hm d (zl ..);have hlv:=WI hR hd;have hm':∀e∈ds,e∈lv (DV s d):=λe he=>by
   rw[hlv,zn,zx];exact⟨hm e (zC _ he),λq=>hn.1 (q▸he)⟩
  have ih:=dw ds (Js hR hd) hn.2 hm';refine⟨ih.sr,ih.len.trans (Z6 ..),ih.last,ih.aV,?_,λk hk hne=>?_,λj=>?_⟩
  .show lv (mB (DV s d) ds)=_;rw[ih.lv,hlv,List.filter_filter];refine zat λh hh=>?_;rw[zan];simp only[zj,zx,zY,not_or];exact⟨λq=>⟨q.2,q.1⟩,λq=>⟨q.2,q.1⟩⟩
  .show ob (mB (DV s d) ds) k=_;rw[zY,not_or] at hne;rw[ih.ob k (by rw[hlv,zn,zx];exact⟨hk,hne.1⟩) hne.2,WJ hR hd hk hne.1]
  .show ce (mB (DV s d) ds) j=_;have hg:∀e∈ds,E4 e≠E4 d:=λe he=>JK hR (hm e (zC _ he)) hd λq=>hn.1 (q▸he);rw[ih.ce];by_cases h1:j∈ds.map E4
   .obtain⟨e,he,rfl⟩:=zZ.1 h1;rw[zb h1,zb (by rw[u8];exact zC _ h1)];unfold Of;rw[PD hR hd,za (hg e he)];rfl
   .rw[za h1,PD hR hd,u8];by_cases h2:j=E4 d
    .subst h2;rw[zb rfl,zb (zl ..)]
    .rw[za h2,za];rw[zY];exact λq=>q.elim h2 h1
theorem CT{α:Type}(p:α->Bool)(f:α->Nat):∀l:List α,(l.map f).sum=((l.filter p).map f).sum+((l.filter λx => !p x).map f).sum
 | []=>rfl
 | x::l=>by
  rw[u8,zbr,CT p f l,rx,rx];cases p x <;> simp <;> omega
theorem It(f:Int->List Int)(y:Int):∀l:List Int,Y9 (l.flatMap f) y=(l.map λx=>Y9 (f x) y).sum
 | []=>S0 y
 | x::l=>by rw[za3,L9,It f y l,u8,zbr]
theorem Gn.jy{s s':a7}{ds:List Int}(hR:SR s)(hn:ds.Nodup)(hm:∀d∈ds,d∈Sh.lv s)(g:Gn s s' ds)(y:Int):jy s' y+Y9 (ds.flatMap (outs s)) y=jy s y:=by
 unfold Sh.jy;rw[g.lv,CT (λh=>decide (h∉ds)) (λx=>Y9 (outs s x) y) (Sh.lv s),It];have h1:((Sh.lv s).filter λh=>decide (h∉ds)).map (λx=>Y9 (outs s' x) y)=((Sh.lv s).filter λh=>decide (h∉ds)).map λx=>Y9 (outs s x) y:=zG λx hx=>by
  rw[zn,zx] at hx;unfold Sh.outs;rw[g.ob x hx.1 hx.2]
 have h2:((Sh.lv s).filter λx => !decide (x∉ds)).Perm ds:=by
  rw[List.perm_ext_iff_of_nodup ((tI (x8.2 hR)).filter _) hn];intro a;rw[zn];simp only[decide_not,Bool.not_not,zx];exact⟨λq=>q.2,λq=>⟨hm a q,q⟩⟩
 rw[h1,(h2.map λx=>Y9 (outs s x) y).sum_nat]
theorem He{L:List l5}(hd:L.Pairwise λa b=>¬(a.Kind=b.Kind/\a.At=b.At))(k:Int):((L.filter (·.Kind==k)).map (·.At)).Nodup:=by
 unfold List.Nodup;rw[List.pairwise_map];refine (hd.filter _).imp_of_mem λ{a b} ha hb h e=>?_;rw[zn,ww] at ha hb;exact h ⟨ha.2.trans hb.2.symm,e⟩
theorem AU{L:List l5}{m:List Int}(hd:L.Pairwise λa b=>¬(a.Kind=b.Kind/\a.At=b.At))(h:∀t∈L,(t.Kind=1/\t.At∈m)\/(t.Kind=2/\0<=t.At/\t.At<=5)):L.length<=m.length+6:=by
 have h1:L.length=(L.filter (·.Kind==1)).length+(L.filter (·.Kind==2)).length:=by
  rw[sZ (λt:l5=>t.Kind==1) L];congr 2;refine zat λt ht=>?_;rcases h t ht with q | q
  .simp[q.1]
  .simp[q.1]
 have h2:=iD (He hd 1) (m:=m) λa ha=>by
  obtain⟨t,ht,rfl⟩:=zZ.1 ha;rw[zn,ww] at ht;rcases h t ht.1 with q | q
  .exact q.2
  .omega
 have h3:=iD (He hd 2) (m:=[0,1,2,3,4,5]) λa ha=>by
  obtain⟨t,ht,rfl⟩:=zZ.1 ha;rw[zn,ww] at ht;rcases h t ht.1 with q | q
  .omega
  .simp only[zY,List.not_mem_nil,or_false];omega
 rw[wd] at h2 h3;simp only[zE,un] at h3;omega
theorem jW{q:TQ}{w:Int}:II q w=true↔∃t∈q.L,t.Kind=2/\t.At=w:=by
 unfold II;rw[List.any_eq_true];simp
theorem tK{q:TQ}{h:Int}:h∈xf q↔∃t∈q.L,t.Kind=1/\t.At=h:=by
 unfold xf;rw[zZ];simp only[zn,ww];exact⟨λ⟨t,⟨a,b⟩,c⟩=>⟨t,a,b,c⟩,λ⟨t,a,b,c⟩=>⟨t,⟨a,b⟩,c⟩⟩
abbrev cz:g9:=⟨0,false,0⟩
def gy(ds:List Int)(c:g9):Bool:=c.Intact&&c.Target != 0&&decide (c.Target∈ds)
def oA(ds:List Int)(c:g9):g9:=if gy ds c then ⟨c.Target,false,c.Call⟩ else c
def wo(l:List g9)(ds:List Int):List g9:=l.map (oA ds)
def cls(l:List g9)(ds:List Int):List Nat:=(List.range l.length).filter λw=>gy ds (l.getD w cz)&&decide (0<=(l.getD w cz).Call)
def qX(l:List g9)(ds:List Int):List l5:=(cls l ds).map λ(w:Nat)=>⟨2,(w:Int),(l.getD w cz).Call⟩
theorem DA(ds:List Int)(c:g9):(oA ds c).Target=c.Target/\(oA ds c).Call=c.Call/\((oA ds c).Intact=true↔c.Intact=true/\gy ds c=false):=by
 unfold oA;cases h:gy ds c
 .rw[za (by simp)];simp
 .rw[zb rfl];simp
theorem TR(l:List g9)(ds:List Int)(h:Int):xg (wo l ds) h=xg l h:=by
 unfold xg wo;rw[List.countP_map];congr 1;funext c
 simp only[Function.comp_apply,(DA ds c).1]
theorem gA{l:List g9}{ds:List Int}{t:l5}:t∈qX l ds↔∃w,∃hw:w<l.length,t=⟨2,(w:Int),l[w].Call⟩/\gy ds l[w]=true/\0<=l[w].Call:=by
 unfold qX cls;rw[zZ];constructor
 .rintro⟨w,hw,rfl⟩;rw[zn,zcc] at hw;obtain⟨h1,h2⟩:=hw;have e:l.getD w cz=l[w]:=by rw[zf,zc h1];rfl
  rw[e] at h2 |-;rw[zj,zx] at h2;exact⟨w,h1,rfl,h2.1,h2.2⟩
 .rintro⟨w,hw,rfl,h2,h3⟩;have e:l.getD w cz=l[w]:=by rw[zf,zc hw];rfl
  refine⟨w,?_,by rw[e]⟩;rw[zn,zcc,e,zj,zx];exact⟨hw,h2,h3⟩
theorem Cf(l:List g9)(ds:List Int):(qX l ds).Pairwise λa b=>¬(a.Kind=b.Kind/\a.At=b.At):=by
 unfold qX cls;rw[List.pairwise_map];refine (zb1 _ (List.nodup_range (n:=l.length))).imp λ{a b} h=>?_;rintro⟨_,e⟩;dsimp only at e;omega
def jb(x:Hp)(ds:List Int)(t:Tb):Hp:=⟨mB x.S ds,x.Roots,wo x.Cells ds,t,⟨x.Q.L++qX x.Cells ds,x.Q.Cap⟩⟩
theorem yQ(q:TQ)(l:List l5)(c:Int)(h:∀t∈l,t.Kind≠1):xf ⟨q.L++l,c⟩=xf q:=by
 unfold xf;dsimp only;rw[zak];have:l.filter (λt=>t.Kind==1) = []:=by
  rw[List.filter_eq_nil_iff];intro t ht;simpa using h t ht
 rw[this,my]
theorem MZ{x:Hp}(hx:P5 x){ds:List Int}(hn:ds.Nodup)(hm:∀d∈ds,d∈lv x.S)
  (ho:∀d∈ds,d∉nZ x)(hf:∀h∈lv x.S,h∉ds->∀v∈(ob x.S h).Fields,v∉ds)(hp:∀k v,Has x.T k v->k∉ds->v∉ds)
  {t:Tb}{vals:List Int}(ht:HR t)(h1:∀k v,Has t k v↔k∉ds/\Has x.T k v)(h2:∀y,own t y+Y9 vals y=own x.T y) :
  jX (jb x ds t)/\Wk (jb x ds t)/\cJ (jb x ds t) (ds.flatMap (outs x.S)++vals):=by
 have hS:=hx.sh;have hR:=hS.sr;have g:=dw ds hR hn hm;have hlv:∀h,h∈lv (mB x.S ds)↔h∈lv x.S/\h∉ds:=λh=>by rw[g.lv,zn,zx]
 have hlen:(lv x.S).length<=24:=H2 (x8.2 hR);have hcl:∀w (hw:w<x.Cells.length),gy ds x.Cells[w]=true->x.Cells[w].Intact=true:=λw hw q=>by
  unfold gy at q;rw[zj,zj] at q;exact q.1.1
 have htd:(x.Q.L++qX x.Cells ds).Pairwise λa b=>¬(a.Kind=b.Kind/\a.At=b.At):=by
  rw[zbb];refine⟨hS.td,Cf ..,λa ha b hb q=>?_⟩;obtain⟨w,hw,rfl,hh,_⟩:=gA.1 hb;have:=((hS.cl w hw).2.2.2.2 (hcl w hw hh)).2;rw[zbf] at this;exact this (jW.2 ⟨a,ha,q.1,q.2⟩)
 have htk:∀t∈x.Q.L++qX x.Cells ds,0<=t.Prog/\t.Prog<=5/\((t.Kind=1/\t.At∈lv (mB x.S ds)/\(ob (mB x.S ds) t.At).Started=true)\/(t.Kind=2/\0<=t.At/\t.At<=5)):=λt htt=>by
  rcases zB.1 htt with q | q
  .obtain⟨a,b,c⟩:=hS.tk t q;refine⟨a,b,?_⟩;rcases c with ⟨c1,c2,c3⟩ | c
   .have hnd:t.At∉ds:=λhd=>ho _ hd (zB.2 (.inr (tK.2 ⟨t,q,c1,rfl⟩)));exact .inl ⟨c1,(hlv _).2 ⟨c2,hnd⟩,by rw[g.ob _ c2 hnd];exact c3⟩
   .exact .inr c
  .obtain⟨w,hw,rfl,hh,hc⟩:=gA.1 q;have c6:=hS.c6;have:=(hS.cl w hw).2.1;exact⟨hc,this,.inr ⟨rfl,by dsimp only;omega,by dsimp only;omega⟩⟩
 have hq30:(x.Q.L++qX x.Cells ds).length<=30:=by
  have:=AU (m:=lv x.S) htd λt htt=>by
   rcases (htk t htt).2.2 with q | q
   .exact .inl ⟨q.1,((hlv _).1 q.2.1).1⟩
   .exact .inr q
  omega
 have hwts:∀i:Nat,II x.Q i=false->(∀hi:i<x.Cells.length,gy ds x.Cells[i]=false)->II ⟨x.Q.L++qX x.Cells ds,x.Q.Cap⟩ i=false:=λi q1 q2=>by
  rw[zbf] at q1 |-;intro q;obtain⟨t,ht,a,b⟩:=jW.1 q;rcases zB.1 ht with c | c
  .exact q1 (jW.2 ⟨t,c,a,b⟩)
  .obtain⟨w,hw,rfl,hh,_⟩:=gA.1 c;dsimp only at b;have:w=i:=by omega
   subst this;rw[q2 hw] at hh;cases hh
 refine⟨⟨g.sr,ht,hS.r6,?_,hS.cap,hq30,htk,htd,λh hh=>?_,λh hh v hv=>?_,λk v hkv=>?_,λi hi=>?_⟩,λi hi hti=>?_,λh hh hlt=>?_⟩
 .unfold jb wo;rw[wd];exact hS.c6
 .rcases hS.rt h hh with q | q
  .exact .inl q
  .have h0:h≠0:=λe=>qO hR (e▸q);exact .inr ((hlv h).2 ⟨q,λhd=>ho h hd (zB.2 (.inl (mO.2 ⟨hh,h0⟩)))⟩)
 .obtain⟨a,b⟩:=(hlv h).1 hh;have hv':v∈(ob x.S h).Fields:=by
   have e:=g.ob h a b;unfold jb at hv;rwa [e] at hv
  rcases hS.fl h a v hv' with q | q
  .exact .inl q
  .exact .inr ((hlv v).2 ⟨q,hf h a b v hv'⟩)
 .obtain⟨a,b⟩:=(h1 k v).1 hkv;obtain⟨c,d⟩:=hS.pr k v b;exact⟨(hlv k).2 ⟨c,a⟩,(hlv v).2 ⟨d,hp k v b a⟩⟩
 .have hi':i<x.Cells.length:=by
   unfold jb wo at hi;simpa using hi
  have e:(jb x ds t).Cells[i]=oA ds x.Cells[i]:=wt _;obtain⟨a1,a2,a3,a4,a5⟩:=hS.cl i hi';obtain⟨b1,b2,b3⟩:=DA ds x.Cells[i];rw[e,b1,b2];refine⟨a1,a2,λq=>?_,λq=>?_,λq=>?_⟩
  .rw[zbf];intro q2;rw[a3 q] at b3;exact absurd (b3.1 q2).1 (by decide)
  .obtain⟨p,hp1,hp2,hp3⟩:=a4 q;refine⟨p,by show p<(mB x.S ds).S.Cells.length;rw[g.len];exact hp1,?_⟩;show Th (ce (mB x.S ds) p)/\_=1+(p:Int)+32*(ce (mB x.S ds) p).Gen;rw[g.ce];split
   .have hw:=(hx.wk p hp1 hp2).1;have:=tM hi' q;rw[hp3] at this;unfold Of;rw[za (by omega)];exact⟨.inr rfl,hp3⟩
   .exact⟨hp2,hp3⟩
  .obtain⟨c1,c2⟩:=b3.1 q;obtain⟨d1,d2⟩:=a5 c1;have h0:x.Cells[i].Target≠0:=λe=>qO hR (e▸d1);refine⟨(hlv _).2 ⟨d1,λhd=>?_⟩,hwts i d2 λ_=>c2⟩;have:gy ds x.Cells[i]=true:=by
    unfold gy;simp[c1,h0,hd]
   rw[this] at c2;cases c2
 .have hi':i<x.S.S.Cells.length:=by
   have:=g.len;have hi:i<(mB x.S ds).S.Cells.length:=hi;omega
  show (ce (mB x.S ds) i).Val.Weak=(xg (wo x.Cells ds) (1+(i:Int)+32*(ce (mB x.S ds) i).Gen):Int)/\((ce (mB x.S ds) i).State=2->_);have hti':Th (ce (mB x.S ds) i):=hti;show _/\((ce (mB x.S ds) i).State=2->1<=(ce (mB x.S ds) i).Val.Weak/\(ce (mB x.S ds) i).Val.Fields = []/\(ce (mB x.S ds) i).Val.Strong=0);rw[TR];rw[g.ce] at hti' |-;split
  .rename_i q;rw[zb q] at hti';obtain⟨d,hd,rfl⟩:=zZ.1 q;have hp:=B5 hR (hm d hd);have hw:=(hx.wk _ hi' (.inl hp.2.1)).1;unfold Of at hti' |-;split at hti'
   .exfalso;unfold Th at hti';split at hti' <;> simp at hti'
   .rename_i q2;rw[za q2];have:=(hR.ok _ hi' (.inl hp.2.1)).wk;exact⟨hw,λ_=>⟨by dsimp only;omega,rfl,rfl⟩⟩
  .rename_i q;rw[za q] at hti';exact hx.wk i hi' hti'
 .obtain⟨a,b⟩:=(hlv h).1 hh;have e:=g.ob h a b;have e':ob (jb x ds t).S h=ob x.S h:=e;rw[e'] at hlt |-;have hf:=hx.fair h a hlt;rw[S0] at hf;rw[hf];have i1:=g.jy hR hn hm h;have i2:=h2 h;have i3:xf ⟨x.Q.L++qX x.Cells ds,x.Q.Cap⟩=xf x.Q:=yQ _ _ _ λt ht=>by
   obtain⟨w,_,rfl,_⟩:=gA.1 ht;simp
  unfold qP nZ jb;dsimp only;rw[i3,L9 (ds.flatMap (outs x.S)),L9];omega
theorem AG:∀(l:List Int) {x:Hp},jX x->Wk x->cJ x l->P5 (l.foldl T2 x)
 | [],x,h1,h2,h3=>⟨h1,h2,h3⟩
 | v::l,x,h1,h2,h3=>AG l (h1.st v λc=>Q3) (h2.st h1.sr v λc=>Q3) (uE h1.sr h3)
abbrev ez(o:n7):n7:=⟨o.Serial,o.Strong,o.Weak,o.Prog,true,o.Fields⟩
abbrev wE(x:Hp)(h:Int):l5:=⟨1,h,(ob x.S h).Prog⟩
noncomputable def gO(x:Hp)(h:Int):Hp:=D8 ⟨cZ x.S h (ez (ob x.S h)),x.Roots,x.Cells,x.T,⟨x.Q.L ++ [wE x h],x.Q.Cap⟩⟩ h
theorem vL{x:Hp}(hx:P5 x){h:Int}(hh:h∈lv x.S)(hp:0<=(ob x.S h).Prog)(hs:(ob x.S h).Started=false):P5 (gO x h):=by
 have hS:=hx.sh;have hR:=hS.sr;have oko:=L1 hR hh;have ho:Bp x.S (ez (ob x.S h)):=⟨oko.s1,oko.s2,oko.st,oko.wk,oko.p1,oko.p2,oko.fl⟩;have r1:=bN (o:=ez (ob x.S h)) hR hh rfl ho;have l1:=gj (o:=ez (ob x.S h)) hR hh rfl ho;have o1:∀j,j∈lv x.S->ob (cZ x.S h (ez (ob x.S h))) j=if j=h then ez (ob x.S h) else ob x.S j:=λj hj=>by
  have:=I8 hR hj;exact eX (o:=ez (ob x.S h)) hR hh rfl ho (by omega)
 have hlen:(lv x.S).length<=24:=H2 (x8.2 hR);have s1:jX (wS x (cZ x.S h (ez (ob x.S h)))):=hS.of r1 l1 (λk i q=>(Km (o:=ez (ob x.S h)) hR hh rfl ho).2 q) (λk hk q=>by
  rw[o1 k hk];split;·rfl
  .exact q) λk hk v hv=>by
  rw[o1 k hk] at hv;split at hv;·rename_i e;subst e;exact hS.fl k hk v hv
  .exact hS.fl k hk v hv
 have w1:Wk (wS x (cZ x.S h (ez (ob x.S h)))):=λi hi ht=>by
  have J7:=B5 hR hh;have hc:=Ft (o:=ez (ob x.S h)) hR hh rfl ho i;dsimp only at hi ht |-;rw[hc] at ht |-;have hi':i<x.S.S.Cells.length:=by unfold cZ at hi;rwa [O5] at hi
  split at ht
  .rename_i e;subst e;rw[zb rfl];dsimp only;have:=hx.wk _ hi' (.inl J7.2.1);rw[Q5 hR J7];exact⟨this.1,λq=>absurd q (by rw[J7.2.1];decide)⟩
  .rename_i e;rw[za e];exact hx.wk i hi' ht
 have htd:(x.Q.L ++ [wE x h]).Pairwise λa b=>¬(a.Kind=b.Kind/\a.At=b.At):=by
  rw[zbb];refine⟨hS.td,by simp,λa ha b hb q=>?_⟩;rw[zO] at hb;subst hb;dsimp only at q;rcases (hS.tk a ha).2.2 with c | c
  .rw[q.2,hs] at c;exact absurd c.2.2 (by decide)
  .omega
 have htk:∀t∈x.Q.L ++ [wE x h],0<=t.Prog/\t.Prog<=5/\((t.Kind=1/\t.At∈lv (cZ x.S h (ez (ob x.S h)))/\(ob (cZ x.S h (ez (ob x.S h))) t.At).Started=true)\/(t.Kind=2/\0<=t.At/\t.At<=5)):=λt ht=>by
  rcases zB.1 ht with q | q
  .exact s1.tk t q
  .rw[zO] at q;subst q;refine⟨hp,oko.p2,.inl ⟨rfl,by rw[l1];exact hh,?_⟩⟩;dsimp only;rw[o1 h hh,zb rfl]
 have hq30:(x.Q.L ++ [wE x h]).length<=30:=by
  have:=AU (m:=lv x.S) htd λt ht=>by
   rcases (htk t ht).2.2 with q | q
   .exact .inl ⟨q.1,by rw[<-l1];exact q.2.1⟩
   .exact .inr q
  omega
 have s2:jX ⟨cZ x.S h (ez (ob x.S h)),x.Roots,x.Cells,x.T,⟨x.Q.L ++ [wE x h],x.Q.Cap⟩⟩:=by
  refine⟨s1.sr,s1.hr,s1.r6,s1.c6,s1.cap,hq30,htk,htd,s1.rt,s1.fl,s1.pr,λi hi=>?_⟩;obtain⟨a,b,c,d,e⟩:=s1.cl i hi;refine⟨a,b,c,d,λq=>⟨(e q).1,?_⟩⟩;have:=(e q).2;rw[zbf] at this |-;intro q2;obtain⟨t,ht,k1,k2⟩:=jW.1 q2;rcases zB.1 ht with q3 | q3
  .exact this (jW.2 ⟨t,q3,k1,k2⟩)
  .rw[zO] at q3;subst q3;dsimp only at k1;omega
 have w2:Wk ⟨cZ x.S h (ez (ob x.S h)),x.Roots,x.Cells,x.T,⟨x.Q.L ++ [wE x h],x.Q.Cap⟩⟩:=w1;refine⟨s2.st h λc=>E7,w2.st s2.sr h λc=>E7,λk hk hlt=>?_⟩;have hk':k∈lv x.S:=by
  have:lv (gO x h).S=lv x.S:=(I0 s2.sr h λc=>E7).lv.trans l1;rw[<-this];exact hk
 have hst:(ob (gO x h).S k).Strong=if k=h then W2 (ob x.S k).Strong else (ob x.S k).Strong:=by
  have:=wb (x:=⟨cZ x.S h (ez (ob x.S h)),x.Roots,x.Cells,x.T,⟨x.Q.L ++ [wE x h],x.Q.Cap⟩⟩) s2.sr h (f:=W2) (λc=>E7) (k:=k) (by rw[<-l1] at hk';exact hk');refine zbv this ?_;dsimp only;rw[o1 k hk'];by_cases e:k=h
  .subst e;rw[zb rfl,zb rfl,zb rfl]
  .rw[za e,za e,za e]
 have hnm:qP (gO x h) k=qP x k+if k=h then 1 else 0:=by
  have:=xX (x:=⟨cZ x.S h (ez (ob x.S h)),x.Roots,x.Cells,x.T,⟨x.Q.L ++ [wE x h],x.Q.Cap⟩⟩) s2.sr h (f:=W2) (λc=>E7) k;refine zbv this ?_;have hi:=Ly (o:=ez (ob x.S h)) hR hh rfl ho k;dsimp only at hi;have h0:k≠0:=λe=>qO hR (e▸hk');unfold qP nZ xf;dsimp only;rw[zak,zaa,L9,L9,L9];have:Y9 (List.map (·.At) (List.filter (λt:l5=>t.Kind==1) [wE x h])) k=if k=h then 1 else 0:=by
   show Y9 [h] k=_;rw[I1,S0];by_cases e:k=h
   .rw[zb ⟨e.symm,h0⟩,zb e]
   .rw[za (λq=>e q.1.symm),za e]
  rw[this];omega
 rw[hst] at hlt |-;rw[hnm,S0];have hpos:=(L1 hR hk').st;by_cases e:k=h
 .rw[zb e] at hlt |-;rw[zb e];have:=hx.fair k hk' (by unfold W2 at hlt;split at hlt <;> omega);rw[S0] at this;unfold W2 at hlt |-;split at hlt;·omega
  .rename_i q;rw[za q,za (by omega)];omega
 .rw[za e] at hlt |-;rw[za e];have:=hx.fair k hk' hlt;rw[S0] at this;exact this
noncomputable def zr(x:Hp):List Int:=(lv x.S).filter λh=>(ob x.S h).Strong==0
theorem cI{x:Hp}{h:Int}:h∈zr x↔h∈lv x.S/\(ob x.S h).Strong=0:=by
 unfold zr;rw[zn,ww]
theorem FY{x:Hp}(hx:P5 x){z:Int}(hz:z∈zr x):qP x z=0:=by
 obtain⟨a,b⟩:=cI.1 hz;have:=hx.fair z a (by omega);rw[S0] at this;omega
theorem Iu{l:List Int}{h:Int}(h0:h≠0)(e:Y9 l h=0):h∉l:=λq=>by
 have:=dU.2 ⟨h0,q⟩;omega
theorem PT{α:Type}(f:α->Nat):∀ {l:List α} {a:α},a∈l->f a<=(l.map f).sum
 | b::l,a,h=>by
  rw[u8,zbr];rcases zY.1 h with e | e
  .subst e;omega
  .have:=PT f e;omega
theorem Ed{s:a7}{a y:Int}(ha:a∈lv s):Y9 (outs s a) y<=jy s y:=PT (λx=>Y9 (outs s x) y) ha
theorem Ep{t:Tb}{k v:Int}(h:Has t k v)(h0:v≠0):0<own t v:=zbo.2 ⟨⟨k,v⟩,cg.2 h,by simp[h0]⟩
def nC(t:Tb)(ks:List Int):Tb × List Int:=(Z7 t ks).getD (t,[])
theorem iY{t:Tb}(hT:HR t)(ks:List Int)(hks:ks.length<=1000):Z7 t ks=some (nC t ks)/\HR (nC t ks).1/\(nC t ks).2.length<=ks.length/\fN (t.map J7) ks=some ((nC t ks).1.map J7,(nC t ks).2) /\
  (∀k v,Has (nC t ks).1 k v↔k∉ks/\Has t k v)/\∀y,own (nC t ks).1 y+Y9 (nC t ks).2 y=own t y:=by
 obtain⟨a,had,h1,h2,h3,h4,h5,h6,h7,h8,h9⟩:=IE hT ks hks;have:nC t ks=(a,had):=by unfold nC;rw[h1];rfl
 rw[this];exact⟨h1,h2,h4,h5,h6,h9⟩
noncomputable def fU(x:Hp)(ds:List Int):Hp:=(ds.flatMap (outs x.S)++(nC x.T ds).2).foldl T2 (jb x ds (nC x.T ds).1)
theorem iO:∀(l:List Int) {x:Hp},SR x.S->xa x.S (l.foldl T2 x).S/\l.foldl T2 x=wS x (l.foldl T2 x).S
 | [],x,h=>⟨xa.refl h,rfl⟩
 | v::l,x,h=>by
  have k1:=I0 h v (f:=kP) λc=>Q3;obtain⟨k2,e⟩:=iO l (x:=T2 x v) k1.sr;refine⟨k1.trans k2,?_⟩;show l.foldl T2 (T2 x v)=wS x (l.foldl T2 (T2 x v)).S;rw[e,XX x v]
theorem Cc{x:Hp}(hx:P5 x){ds:List Int}(hn:ds.Nodup)(hm:∀d∈ds,d∈lv x.S)
  (ho:∀d∈ds,d∉nZ x)(hf:∀h∈lv x.S,h∉ds->∀v∈(ob x.S h).Fields,v∉ds)(hp:∀k v,Has x.T k v->k∉ds->v∉ds):P5 (fU x ds):=by
 have hl:ds.length<=24:=we (iD hn hm) (H2 (x8.2 hx.sh.sr));obtain⟨_,w1,_,_,w2,w3⟩:=iY hx.sh.hr ds (by omega);obtain⟨a,b,c⟩:=MZ hx hn hm ho hf hp w1 w2 w3;exact AG _ a b c
theorem IX{x:Hp}(hR:SR x.S){ds:List Int}(hn:ds.Nodup)(hm:∀d∈ds,d∈lv x.S):lv (fU x ds).S=(lv x.S).filter λh=>decide (h∉ds):=by
 have g:=dw ds hR hn hm;exact (iO (ds.flatMap (outs x.S)++(nC x.T ds).2) (x:=jb x ds (nC x.T ds).1) g.sr).1.lv.trans g.lv
theorem IY{x:Hp}(hR:SR x.S){ds:List Int}(hn:ds.Nodup)(hm:∀d∈ds,d∈lv x.S){k:Int}(hk:k∈lv x.S)(hd:k∉ds):∃n,ob (fU x ds).S k=CS (ob x.S k) n:=by
 have g:=dw ds hR hn hm;have hr:=I8 hR hk;obtain⟨n,e⟩:=(iO (ds.flatMap (outs x.S)++(nC x.T ds).2) (x:=jb x ds (nC x.T ds).1) g.sr).1.ob k (by omega);refine⟨n,?_⟩;have e':ob (fU x ds).S k=_:=e;have g':ob (jb x ds (nC x.T ds).1).S k=ob x.S k:=g.ob k hk hd;rw[e',g']
theorem sN{x:Hp}(hR:SR x.S){ds:List Int}(hn:ds.Nodup)(hm:∀d∈ds,d∈lv x.S):(fU x ds).Roots=x.Roots/\(fU x ds).Cells=wo x.Cells ds/\(fU x ds).T=(nC x.T ds).1/\(fU x ds).Q=⟨x.Q.L++qX x.Cells ds,x.Q.Cap⟩:=by
 have g:=dw ds hR hn hm;have e:=(iO (ds.flatMap (outs x.S)++(nC x.T ds).2) (x:=jb x ds (nC x.T ds).1) g.sr).2;have e':fU x ds=wS (jb x ds (nC x.T ds).1) (fU x ds).S:=e;rw[e'];exact⟨rfl,rfl,rfl,rfl⟩
theorem Bi{x:Hp}(hx:P5 x){z:Int}(hz:z∈zr x):P5 (fU x [z]):=by
 obtain⟨a,b⟩:=cI.1 hz;have h0:z≠0:=λe=>qO hx.sh.sr (e▸a);have hn:=FY hx hz;unfold qP at hn;refine Cc hx (by simp) (by simpa using a) (λd hd=>?_) (λh hh hne v hv q=>?_) (λk v hkv _ q=>?_)
 .rw[zO] at hd;subst hd;exact Iu h0 (by omega)
 .rw[zO] at q;subst q;have:=Ed (y:=v) hh;have h1:=dU.2 ⟨h0,show v∈outs x.S h from mO.2 ⟨hv,h0⟩⟩;omega
 .rw[zO] at q;subst q;have:=Ep hkv h0;omega
def due(o:n7):Bool:=decide (0<=o.Prog) && !o.Started
noncomputable def Mz(x:Hp):Hp:=match zr x with
 | []=>x
 | z::_=>if due (ob x.S z) then gO x z else fU x [z]
noncomputable def xl:Nat->Hp->Hp
 | 0,x=>x
 | n+1,x=>xl n (Mz x)
theorem dT(n:Nat)(x:Hp):xl (n+1) x=Mz (xl n x):=by
 induction n generalizing x with
 | zero=>rfl
 | succ n ih=>exact ih (Mz x)
theorem qC{x:Hp}(h:zr x = []):Mz x=x:=by unfold Mz;rw[h]
theorem iU{x:Hp}{z:Int}{l:List Int}(h:zr x=z::l):Mz x=if due (ob x.S z) then gO x z else fU x [z]:=by unfold Mz;rw[h]
theorem NZ{x:Hp}(hx:P5 x):P5 (Mz x):=by
 cases h:zr x with
 | nil=>rw[qC h];exact hx
 | cons z l=>
  have hz:z∈zr x:=by rw[h];exact zl ..
  rw[iU h];split
  .rename_i q;unfold due at q;rw[zj,zx,zbg] at q;exact vL hx (cI.1 hz).1 q.1 q.2
  .exact Bi hx hz
theorem bz{x:Hp}(hx:P5 x)(n:Nat):P5 (xl n x):=by
 induction n with
 | zero=>exact hx
 | succ n ih=>rw[dT];exact NZ ih
section
variable{x:Hp}(hR:SR x.S){h:Int}(hh:h∈lv x.S)
include hR hh
theorem mS:xa (cZ x.S h (ez (ob x.S h))) (gO x h).S/\(gO x h).Roots=x.Roots/\(gO x h).Cells=x.Cells/\(gO x h).T=x.T/\(gO x h).Q=⟨x.Q.L ++ [wE x h],x.Q.Cap⟩:=by
 have oko:=L1 hR hh;have r1:=bN (o:=ez (ob x.S h)) hR hh rfl ⟨oko.s1,oko.s2,oko.st,oko.wk,oko.p1,oko.p2,oko.fl⟩;refine⟨I0 (x:=⟨cZ x.S h (ez (ob x.S h)),x.Roots,x.Cells,x.T,⟨x.Q.L ++ [wE x h],x.Q.Cap⟩⟩) r1 h λc=>E7,?_⟩;have e:gO x h=wS ⟨cZ x.S h (ez (ob x.S h)),x.Roots,x.Cells,x.T,⟨x.Q.L ++ [wE x h],x.Q.Cap⟩⟩ (gO x h).S:=vV _ h;rw[e];exact⟨rfl,rfl,rfl,rfl⟩
theorem Ey:lv (gO x h).S=lv x.S:=by
 have oko:=L1 hR hh;exact (mS hR hh).1.lv.trans (gj (o:=ez (ob x.S h)) hR hh rfl ⟨oko.s1,oko.s2,oko.st,oko.wk,oko.p1,oko.p2,oko.fl⟩)
theorem Am{k:Int}(hk:k∈lv x.S):∃n,ob (gO x h).S k=CS (if k=h then ez (ob x.S h) else ob x.S k) n:=by
 have oko:=L1 hR hh;have hr:=I8 hR hk;obtain⟨n,e⟩:=(mS hR hh).1.ob k (by omega);refine⟨n,?_⟩;rw[e,eX (o:=ez (ob x.S h)) hR hh rfl ⟨oko.s1,oko.s2,oko.st,oko.wk,oko.p1,oko.p2,oko.fl⟩ (by omega)]
end
noncomputable def mu(x:Hp):Nat:=(lv x.S).length+((lv x.S).filter λh => !(ob x.S h).Started).length
theorem Zo{x:Hp}(hR:SR x.S):mu x<=48:=by
 have h1:(lv x.S).length<=24:=H2 (x8.2 hR);have h2:((lv x.S).filter λh => !(ob x.S h).Started).length<=(lv x.S).length:=zN ..;unfold mu;omega
theorem Yl{x:Hp}(hx:P5 x)(h:zr x ≠ []):mu (Mz x)<mu x:=by
 cases hz:zr x with
 | nil=>exact absurd hz h
 | cons z l=>
  have hzm:z∈zr x:=by rw[hz];exact zl ..
  have hzl:=(cI.1 hzm).1;have hR:=hx.sh.sr;rw[iU hz];split
  .rename_i q;unfold due at q;rw[zj,zx,zbg] at q;unfold mu;rw[Ey hR hzl];have:=filter_lt (p:=λh => !(ob (gO x z).S h).Started) (q:=λh => !(ob x.S h).Started) (l:=lv x.S) (λk hk hp=>by
    obtain⟨n,e⟩:=Am hR hzl hk;rw[e] at hp;split at hp;·exact absurd hp (by simp)
    .exact hp) z hzl (by rw[q.2];rfl) (by
    obtain⟨n,e⟩:=Am hR hzl hzl;rw[e,zb rfl];rfl)
   omega
  .unfold mu;have hn:([z]:List Int).Nodup:=by simp
   have hm:∀d ∈ [z],d∈lv x.S:=by simpa using hzl
   rw[IX hR hn hm,List.filter_filter];have h1:((lv x.S).filter λh=>decide (h ∉ [z])).length<((lv x.S).filter λ_=>true).length:=filter_lt (λ_ _ _=>rfl) z hzl rfl (by simp);rw[zap.2 (λ_ _=>rfl)] at h1;have h2:((lv x.S).filter λa=>(!(ob (fU x [z]).S a).Started)&&decide (a ∉ [z])).length<=((lv x.S).filter λh => !(ob x.S h).Started).length:=by
    rw[<-zbn,<-zbn];refine List.countP_mono_left λa ha hp=>?_;rw[zj,zx] at hp;obtain⟨n,e⟩:=IY hR hn hm ha hp.2;rw[e] at hp;exact hp.1
   omega
noncomputable def da(x:Hp):Hp:=xl 100 x
theorem vY{x:Hp}(hx:P5 x):∃n,n<=48/\zr (xl n x) = []/\(∀j,j<n->zr (xl j x) ≠ [])/\da x=xl n x:=by
 have key:∀m,(∃n,n<=m/\zr (xl n x) = [])\/mu (xl m x)+m<=mu x:=by
  intro m;induction m with
  | zero=>exact .inr (zI _)
  | succ m ih=>
   rcases ih with ⟨n,h1,h2⟩ | ih;·exact .inl ⟨n,by omega,h2⟩
   .by_cases q:zr (xl m x) = []
    .exact .inl ⟨m,by omega,q⟩
    .have:=Yl (bz hx m) q;rw[<-dT] at this;exact .inr (by omega)
 have h48:=Zo hx.sh.sr;have hex:∃n,n<=48/\zr (xl n x) = []:=by
  rcases key 49 with ⟨n,h1,h2⟩ | h
  .rcases zy n 49 with q | q
   .exact⟨n,by omega,h2⟩
   .rcases key 48 with h | h
    .exact h
    .have:mu (xl 48 x)=0:=by omega
     refine⟨48,zI _,?_⟩;have hl:(lv (xl 48 x).S).length=0:=by unfold mu at this;omega
     unfold zr;rw[zQ hl];rfl
  .omega
 obtain⟨n,⟨hn,hz⟩,hmin⟩:=Y3 hex;refine⟨n,hn,hz,λj hj q=>?_,?_⟩
 .have:=hmin j ⟨by omega,q⟩;omega
 .have:∀k,xl (n+k) x=xl n x:=λk=>by
   induction k with
   | zero=>rfl
   | succ k ih=>rw[show n+(k+1)=(n+k)+1 by omega,dT,ih,qC hz]
  have h100:=this (100-n);rw[show n+(100-n)=100 by omega] at h100;exact h100
theorem eY{x:Hp}(hx:P5 x):P5 (da x):=bz hx 100
theorem CQ{x:Hp}(hx:P5 x):zr (da x) = []:=by
 obtain⟨n,_,h,_,e⟩:=vY hx;rw[e];exact h
theorem Ij{x:Hp}(h:zr x = []):da x=x:=by
 have:∀n,xl n x=x:=λn=>by
  induction n with
  | zero=>rfl
  | succ n ih=>rw[dT,ih,qC h]
 exact this 100
section
variable{x:Hp}(hR:SR x.S)
include hR
theorem dC{h:Int}(hh:h∈lv x.S):h<=9223372036854775807:=by have:=I8 hR hh;omega
theorem vx{h:Int}(hh:h∈lv x.S):A7 x.S h=some (ob x.S h,0):=by
 obtain⟨e,h1,h2⟩:=T0 (x8.2 hR) (dC hR hh);rw[h1,h2.2 hh]
theorem tj{h:Int}(hh:h∈lv x.S):G9 (sO x.S) h=some (oo (ob x.S h),0):=by
 have:=hR.len;rw[iv x.S (by omega) (dC hR hh),vx hR hh];rfl
theorem zero_eq:cX x=some (zr x):=by
 have h24:(lv x.S).length<=24:=H2 (x8.2 hR);unfold cX;simp only[jn];rw[dB (x8.2 hR),a1b];rw[H6 (lv x.S) (λb h=>if (ob x.S h).Strong==0 then b ++ [h] else b) id (λk b=>b.length<=k) (by omega) (zI _) (λk hk b hb=>?_) (λb hb=>by simp)]
 .rw[foldl_filter];rfl
 .simp only[zo,hk,zt,zD,r8 hk,a1b,vx hR (zd hk)];by_cases c:((ob x.S (lv x.S)[k]).Strong==0)=true
  .rw[zb c,zb c,B3 (by omega) (by simp;omega),a1b,l6];exact⟨rfl,by simp;omega⟩
  .rw[za c,za c,l6];exact⟨rfl,by omega⟩
theorem KE:lC (hO x)=some (zr x):=by
 have h24:(lv x.S).length<=24:=H2 (x8.2 hR);unfold lC;simp only[jn];rw[show (hO x).S=sO x.S from rfl,km (x8.2 hR),a1b];rw[H6 (lv x.S) (λb h=>if (ob x.S h).Strong==0 then b ++ [h] else b) id (λk b=>b.length<=k) (by omega) (zI _) (λk hk b hb=>?_) (λb hb=>by simp)]
 .rw[foldl_filter];rfl
 .simp only[zo,hk,zt,zD,r8 hk,a1b,tj hR (zd hk)];by_cases c:((ob x.S (lv x.S)[k]).Strong==0)=true
  .rw[show ((oo (ob x.S (lv x.S)[k])).Strong==0)=true from c,zb rfl,zb c,B3 (by omega) (by simp;omega),a1b,l6];exact⟨rfl,by simp;omega⟩
  .rw[za (show ¬((oo (ob x.S (lv x.S)[k])).Strong==0)=true from c),za c,l6];exact⟨rfl,by omega⟩
theorem NU:jN (hO x)=some (decide (zr x = [])):=by
 unfold jN;rw[KE hR,a1b];congr 1;cases zr x <;> simp
 omega
end
noncomputable def VH(x:Hp)(h:Int):Hp:=if h∈lv x.S/\due (ob x.S h)=true then gO x h else x
theorem FA{s:a7}(hR:SR s){h:Int}(hl:h∈lv s):Bp s (ez (ob s h)):=by
 have oko:=L1 hR hl;exact⟨oko.s1,oko.s2,oko.st,oko.wk,oko.p1,oko.p2,oko.fl⟩
theorem LY(o:n7):N9 o=some (due o):=by
 unfold N9 due;congr 1
section
variable{x:Hp}(hx:P5 x)(hS:SL x){h:Int}(hh:h<=9223372036854775807)
include hx hS hh
theorem An(hl:h∈lv x.S)(hd:due (ob x.S h)=true):x.Q.L.length<30:=by
 have hb:0<=(ob x.S h).Prog/\(ob x.S h).Started=false:=by
  unfold due at hd;rw[zj,zx,zbg] at hd;exact hd
 have:=(vL hx hl hb.1 hb.2).sh.q30;rw[(mS hx.sh.sr hl).2.2.2.2] at this;simp at this;omega
theorem CG:U6 x h=some (VH x h):=by
 have hR:=hx.sh.sr;have cap:=hx.sh.cap;obtain⟨e,h1,h2⟩:=T0 (x8.2 hR) hh;unfold U6 VH;rw[h1,a1b];by_cases hl:h∈lv x.S
 .have e0:e=0:=h2.2 hl;subst e0;have e1:(((0:Int) != 0)==false)=true:=rfl;simp only[e1,J9,LY,a1b];cases hd:due (ob x.S h);·rw[zb (by simp),za (by simp)]
  .rw[za (by simp),zb ⟨hl,rfl⟩];have hr:=An hx hS hh hl hd;have hok:=FA hR hl;have l1:=gj (o:=ez (ob x.S h)) hR hl rfl hok;have r1:=bN (o:=ez (ob x.S h)) hR hl rfl hok;rw[uI (o:=ez (ob x.S h)) hR hl rfl hok,a1b,VL _ (by omega),a1b];have et:Rx x.Q ⟨1,h,(ob x.S h).Prog⟩=(⟨x.Q.L ++ [wE x h],x.Q.Cap⟩,0):=by
    unfold Rx;rw[za (by omega)]
   rw[et];dsimp only;rw[lI r1 hh (λk hk=>?_),a1b];·rfl
   .dsimp only at hk |-;rw[l1] at hk;rw[eX (o:=ez (ob x.S h)) hR hl rfl hok (dC hR hk)];split;·exact hS h hl
    .exact hS k hk
 .have e0:e≠0:=λq=>hl (h2.1 q);have e1:(e != 0)=true:=by simpa using e0
  rw[e1];simp only[show ((true==false)=true)=False by simp,u5,zU,a1b,zch,zD];rw[za (λq=>hl q.1)]
theorem Pf:nb (hO x) h=some (decide (h∈lv x.S)&&due (ob x.S h)):=by
 have hR:=hx.sh.sr;have hlen:=hR.len;obtain⟨e,h1,h2⟩:=T0 (x8.2 hR) hh;unfold nb;rw[show (hO x).S=sO x.S from rfl,iv x.S (by omega) hh,h1,zM,a1b,mJ hR hh,a1b];unfold due oo;rw[Bool.and_assoc]
theorem Ht:eU (hO x) h=some (hO (VH x h)):=by
 have hR:=hx.sh.sr;have cap:=hx.sh.cap;unfold eU VH;rw[Pf hx hS hh,a1b];by_cases hl:h∈lv x.S
 .rw[zp hl,wn];cases hd:due (ob x.S h);·rw[zb (by simp),za (by simp)]
  .rw[za (by simp),zb ⟨hl,rfl⟩];have hr:=An hx hS hh hl hd;have hok:=FA hR hl;have l1:=gj (o:=ez (ob x.S h)) hR hl rfl hok;have r1:=bN (o:=ez (ob x.S h)) hR hl rfl hok;rw[show (hO x).S=sO x.S from rfl,tj hR hl,a1b];have es:O6 (sO x.S) h (oo (ez (ob x.S h)))=some (sO (cZ x.S h (ez (ob x.S h))),0):=uJ hR hl rfl hok;have es':O6 (sO x.S) h ⟨(oo (ob x.S h)).Serial,(oo (ob x.S h)).Strong,(oo (ob x.S h)).Weak,(oo (ob x.S h)).Prog,true,(oo (ob x.S h)).Fields⟩=some (sO (cZ x.S h (ez (ob x.S h))),0):=es;rw[es',a1b];have ea:jL (hO x).Q ⟨1,h,(oo (ob x.S h)).Prog⟩=some (gl ⟨x.Q.L ++ [wE x h],x.Q.Cap⟩,0):=by
    have:=VI (q:=x.Q) (wE x h) (by omega);have et:Rx x.Q (wE x h)=(⟨x.Q.L ++ [wE x h],x.Q.Cap⟩,0):=by
     unfold Rx;rw[za (by omega)]
    rw[et] at this;exact this
   rw[ea,a1b];have er:=pj (x:=⟨cZ x.S h (ez (ob x.S h)),x.Roots,x.Cells,x.T,⟨x.Q.L ++ [wE x h],x.Q.Cap⟩⟩) r1 hh (λk hk=>by
    dsimp only at hk |-;rw[l1] at hk;rw[eX (o:=ez (ob x.S h)) hR hl rfl hok (dC hR hk)];split;·exact hS h hl
    .exact hS k hk)
   have er':aR ⟨sO (cZ x.S h (ez (ob x.S h))),(hO x).Roots,(hO x).Cells,(hO x).T,gl ⟨x.Q.L ++ [wE x h],x.Q.Cap⟩⟩ h=_:=er;dsimp only;rw[er',a1b];rfl
 .rw[zA hl,zay];rw[zb (by simp),za (λq=>hl q.1)]
end
noncomputable def Zg(x:Hp)(l:List Int):List Int:=l.foldl (λb h=>if h∈lv x.S/\h∉b then b ++ [h] else b) []
theorem GZ{x:Hp}{z:Int}(hz:z∈lv x.S):Zg x [z] = [z]:=by
 unfold Zg;simp[hz]
section
variable{x:Hp}(hR:SR x.S)
include hR
theorem tG(l:List Int)(hl:l.length<=1000)(hb:∀h∈l,h<=9223372036854775807):W9 x l=some (Zg x l):=by
 unfold W9;simp only[jn];have key:=H6 (f:=λ((s20,s21,s22):Int × (List (Int × Bool)) × (List Int))=>
   if (decide (s20<(l.length:Int))) then
     (ix l s20).bind λv32=>
     (A7 x.S v32).bind λv33=>
     if ((v33.2==0)==true) then
      if (!((D1 s21 v32).getD (false:Bool))) then
       (app 8 s22 [v32]).bind λv34=>
       some (Sum.inl (A1 (s20+1),(u9 s21 v32 true),v34))
      else
      some (.inl (A1 (s20+1),s21,s22))
     else
     some (.inl (A1 (s20+1),s21,s22))
   else
   some (.inr s22)) l (λ(b:List (Int × Bool) × List Int) h=>if h∈lv x.S/\h∉b.2 then (u9 b.1 h true,b.2 ++ [h]) else b) (λb=>b.2) (λk b=>b.2.length<=k/\∀d,(D1 b.1 d).getD false=decide (d∈b.2)) (b0:=([],[])) (by omega) ⟨zI _,λd=>by simp[D1]⟩ (λk hk b hb2=>?_) (λb hb2=>by simp)
 .rw[key,a1b];congr 1;have:∀(l:List Int) (m:List (Int × Bool)) (b:List Int),(l.foldl (λ(b:List (Int × Bool) × List Int) h=>if h∈lv x.S/\h∉b.2 then (u9 b.1 h true,b.2 ++ [h]) else b) (m,b)).2=l.foldl (λb h=>if h∈lv x.S/\h∉b then b ++ [h] else b) b:=λl=>by
   induction l with
   | nil=>intro m b;rfl
   | cons h l ih=>
    intro m b;rw[zah,zah];by_cases c:h∈lv x.S/\h∉b
    .rw[zb c,zb c,ih]
    .rw[za c,za c,ih]
  exact this l [] []
 .obtain⟨hb1,hb3⟩:=hb2;obtain⟨e,h1,h2⟩:=T0 (x8.2 hR) (hb _ (zd hk));simp only[zo,hk,zt,zD,r8 hk,a1b,h1,hb3];by_cases hl:l[k]∈lv x.S
  .have e0:e=0:=h2.2 hl;subst e0;by_cases hm:l[k]∈b.2
   .rw[zb (by rfl),za (by simp[hm]),za (λq=>q.2 hm),l6];exact⟨rfl,by omega,hb3⟩
   .rw[zb (by rfl),zb (by simp[hm]),zb ⟨hl,hm⟩,B3 (by omega) (by simp;omega),a1b,l6];refine⟨rfl,by simp;omega,λd=>?_⟩;rw[pX];by_cases q:d=l[k]
    .rw[zb q];simp[q]
    .rw[za q,hb3];simp[q]
  .have e0:e≠0:=λq=>hl (h2.1 q);rw[za (by simp[e0]),za (λq=>hl q.1),l6];exact⟨rfl,by omega,hb3⟩
theorem Pg(l:List Int)(hl:l.length<=1000)(hb:∀h∈l,h<=9223372036854775807):pf (hO x) l=some (Zg x l):=by
 unfold pf;simp only[jn];rw[H6 l (λb h=>if h∈lv x.S/\h∉b then b ++ [h] else b) id (λk b=>b.length<=k) (by omega) (zI _) (λk hk b hb2=>?_) (λb hb=>by simp)];·rfl
 .simp only[zo,hk,zt,zD,r8 hk,a1b,mJ hR (hb _ (zd hk))];by_cases hl:l[k]∈lv x.S
  .have h0:l[k]≠0:=λe=>qO hR (e▸hl);rw[zp hl];simp only[zF,J9,tn b _ (by omega:b.length<=1000000),a1b,wn];by_cases hm:l[k]∈b
   .rw[za (by simp[hm,h0]),za (λq=>q.2 hm),l6];exact⟨rfl,by omega⟩
   .rw[zb (by simp[hm]),zb ⟨hl,hm⟩,B3 (by omega) (by simp;omega),a1b,l6];exact⟨rfl,by simp;omega⟩
  .rw[zA hl];simp only[show ((false==true)=true)=False by simp,u5,zU,a1b,zay];rw[za (by simp),za (λq=>hl q.1),l6];exact⟨rfl,by omega⟩
end
theorem yL{α β:Type}(p:α->Bool)(f:α->β):∀(xs:List α) (acc:List β),xs.foldl (λb x=>if p x then b ++ [f x] else b) acc=acc++(xs.filter p).map f
 | [],acc=>by simp
 | x::xs,acc=>by
  rw[zah,yL p f xs];by_cases h:p x=true
  .simp[h]
  .simp[h]
theorem cd{α:Type}{l:List α}{i:Nat}(h:i<l.length)(d:α):l.getD i d=l[i]:=by
 rw[zf,zc h];rfl
theorem Na(c:g9)(ds:List Int)(hl:ds.length<=1000):bC c ds=some (gy ds c):=by
 unfold bC gy;rw[contains_eq _ _ (by omega)];cases (c.Intact&&c.Target != 0);·rfl
 .simp[u5]
def oa(l:List g9)(ds:List Int):List Nat:=(List.range l.length).filter λw=>gy ds (l.getD w cz)
theorem XB{l:List g9}{ds:List Int}{w:Nat}(h:w∈oa l ds):w<l.length:=by
 unfold oa at h;rw[zn,zcc] at h;exact h.1
theorem Ul(l:List g9)(ds:List Int):(oa l ds).length<=l.length:=by
 unfold oa;exact we (zN ..) (by simp)
theorem XC(l:List g9)(ds:List Int):(oa l ds).Nodup:=zb1 _ List.nodup_range
theorem Tg(l:List g9)(ds:List Int):cls l ds=(oa l ds).filter λw=>decide (0<=(l.getD w cz).Call):=by
 unfold cls oa;rw[List.filter_filter];refine zat λw _=>?_;rw[Bool.and_comm]
def mH(l:List Nat):List Int:=l.map λ(n:Nat)=>(n:Int)
theorem Ee{l:List Nat}{k:Nat}(h:k<l.length):ix (mH l) (k:Int)=some ((l[k]:Nat):Int):=by
 unfold mH;rw[bn,r8 h];rfl
theorem kX(l:List Nat):(mH l).length=l.length:=wd ..
theorem NG(l:List g9)(ds:List Int)(hl:l.length<=1000)(hd:ds.length<=1000):L4 l ds=some (mH (oa l ds)):=by
 unfold L4;simp only[jn];have hr:(List.range l.length).length=l.length:=by simp
 have key:=H6 (List.range l.length) (λ(b:List Int) (w:Nat)=>if gy ds (l.getD w cz) then b ++ [(w:Int)] else b) id (λk b=>b.length<=k) (b0:=[]) (f:=λ((s17,s18):Int × (List Int))=>
   if (decide (s17<(l.length:Int))) then
     (ix l s17).bind λv26=>
     (bC v26 ds).bind λv27=>
     if v27 then
      (app 8 s18 [s17]).bind λv28=>
      some (Sum.inl (A1 (s17+1),v28))
     else
     some (.inl (A1 (s17+1),s18))
   else
   some (.inr s18)) (by omega) (zI _) (λk hk b hb=>?_) (λb hb=>by simp)
 .rw[key,yL];rfl
 .rw[hr] at hk;simp only[zo,hk,zt,zD,r8 hk,a1b,Na _ _ hd,List.getElem_range,cd hk];by_cases c:gy ds l[k]=true
  .rw[zb c,zb c,B3 (by omega) (by simp;omega),a1b,l6];exact⟨rfl,by simp;omega⟩
  .rw[za c,za c,l6];exact⟨rfl,by omega⟩
theorem Nd(l:List g9)(hl:l.length<=1000):ba l=some l:=by
 unfold ba;rw[Ac (by omega) (by omega),a1b];unfold Bk;rw[zb (by simp),a1b];simp
def sT(l:List g9)(K:List Nat):List g9:=(List.range l.length).map λi=>if i∈K then ⟨(l.getD i cz).Target,false,(l.getD i cz).Call⟩ else l.getD i cz
theorem kN(l:List g9)(K:List Nat):(sT l K).length=l.length:=by simp[sT]
theorem sU{l:List g9}{K:List Nat}{i:Nat}(h:i<(sT l K).length):(sT l K)[i]=if i∈K then ⟨(l.getD i cz).Target,false,(l.getD i cz).Call⟩ else l.getD i cz:=by simp[sT]
theorem OV(l:List g9):sT l []=l:=by
 refine zbc (kN ..) λi h1 h2=>?_;rw[sU,za (by simp),cd h2]
theorem Nc{l:List g9}{K:List Nat}{w:Nat}(hw:w<l.length):sT l (K ++ [w])=(sT l K).set w ⟨(l.getD w cz).Target,false,(l.getD w cz).Call⟩:=by
 refine zbc (by rw[zbm,kN,kN]) λi h1 h2=>?_;rw[sU,zb4];by_cases e:w=i
 .subst e;rw[zb rfl,zb (by simp)]
 .rw[za e,sU];by_cases q:i∈K
  .rw[zb (pi _ q),zb q]
  .rw[za,za q];rw[zB,zO];exact λq2=>q2.elim q λq3=>e q3.symm
theorem OU(l:List g9)(ds:List Int):sT l (oa l ds)=wo l ds:=by
 refine zbc (by rw[kN];simp[wo]) λi h1 h2=>?_;have hi:i<l.length:=by rw[kN] at h1;exact h1
 have ec:(wo l ds)[i]=oA ds l[i]:=wt _;rw[sU,ec,cd hi];unfold oA;by_cases c:gy ds l[i]=true
 .rw[zb c,zb];unfold oa;rw[zn,zcc,cd hi];exact⟨hi,c⟩
 .rw[za c,za];unfold oa;rw[zn,zcc,cd hi];exact λq=>c q.2
theorem O7{α:Type}{l:List α}{k:Nat}(h:k<l.length):l.take (k+1)=l.take k ++ [l[k]]:=zw h
theorem OT(l:List g9)(ds:List Int)(hl:l.length<=1000)(hd:ds.length<=1000):iX l ds=some (wo l ds,mH (cls l ds)):=by
 unfold iX;rw[NG l ds hl hd,a1b,Nd l hl,a1b];simp only[jn,kX];have hp:=Ul l ds;refine M7 (oa l ds).length (λk (b:List g9 × List Int)=>b.1=sT l ((oa l ds).take k)/\b.2=mH (((oa l ds).take k).filter λw=>decide (0<=(l.getD w cz).Call))) (by omega) ⟨by simp[OV],by simp[mH]⟩ ?_ ?_
 .rintro k ⟨b1,b2⟩ hk ⟨rfl,rfl⟩;left;have hw:=XB (zd hk);have hnm:(oa l ds)[k]∉(oa l ds).take k:=λq=>by
   have hn:=XC l ds;rw[<-List.take_append_drop k (oa l ds),zb3] at hn;exact hn.2.2 _ q (oa l ds)[k] (by rw[List.drop_eq_getElem_cons hk];exact zl ..) rfl
  have h1:(oa l ds)[k]<(sT l ((oa l ds).take k)).length:=by rw[kN];exact hw
  have e1:ix (sT l ((oa l ds).take k)) (((oa l ds)[k]:Nat):Int)=some (l.getD (oa l ds)[k] cz):=by rw[r8 h1,sU,za hnm]
  have h2:(oa l ds)[k]<((sT l ((oa l ds).take k)).set (oa l ds)[k] ⟨(l.getD (oa l ds)[k] cz).Target,false,(l.getD (oa l ds)[k] cz).Call⟩).length:=by rw[zbm];exact h1
  have e2:ix ((sT l ((oa l ds).take k)).set (oa l ds)[k] ⟨(l.getD (oa l ds)[k] cz).Target,false,(l.getD (oa l ds)[k] cz).Call⟩) (((oa l ds)[k]:Nat):Int)=some ⟨(l.getD (oa l ds)[k] cz).Target,false,(l.getD (oa l ds)[k] cz).Call⟩:=by rw[r8 h2,List.getElem_set_self]
  dsimp only;simp only[zo,hk,zt,zD,Ee hk,a1b,e1,zV,e2];have hle:(mH (((oa l ds).take k).filter λw=>decide (0<=(l.getD w cz).Call))).length<=1000:=by
   rw[kX];exact we (zN ..) (by simp;omega)
  rw[O7 hk,Nc hw,zak];by_cases c:0<=(l.getD (oa l ds)[k] cz).Call
  .rw[zb (zp c),B3 (by omega) (by simp only[zE,un];omega),a1b,l6];refine⟨_,rfl,rfl,?_⟩;rw[rx,zb (zp c)];simp[mH]
  .rw[za (λq=>c (zbl q)),l6];refine⟨_,rfl,rfl,?_⟩;rw[rx,za (λq=>c (zbl q))];simp[mH]
 .rintro⟨b1,b2⟩ ⟨rfl,rfl⟩;refine⟨_,za (by simp),?_⟩;dsimp only;rw[zK,OU,<-Tg]
theorem Zb(c:g9)(ds:List Int)(hd:ds.length<=1000):((u5 ((nB c).Intact==true) 0 (cT ds (nB c).Target)).bind λv=>some ((nB c).Intact&&decide (v > 0)))=some (gy ds c):=by
 unfold gy nB;dsimp only;cases hI:c.Intact;·rfl
 .simp only[zF,J9];rw[nv _ _ (by omega),a1b];congr 1;rw[wn,wn,zan];simp only[zx,zj,za8];have:=dU (l:=ds) (h:=c.Target);constructor
  .intro q;exact this.1 (by omega)
  .intro q;have:=this.2 q;omega
theorem Tf(l:List g9)(ds:List Int)(hl:l.length<=1000)(hd:ds.length<=1000):qf (l.map nB) ds=some ((wo l ds).map nB,mH (cls l ds)):=by
 unfold qf;simp only[jn,wd];refine M7 l.length (λk (b:List m9 × List Int)=>b.1=((wo l ds).take k).map nB/\b.2=mH ((List.range k).filter λw=>gy ds (l.getD w cz)&&decide (0<=(l.getD w cz).Call))) (by omega) ⟨by simp,by simp[mH]⟩ ?_ ?_
 .rintro k ⟨b1,b2⟩ hk ⟨rfl,rfl⟩;left;have hk2:k<(wo l ds).length:=by simp[wo];exact hk
  have e1:ix (l.map nB) (k:Int)=some (nB l[k]):=by rw[bn,r8 hk];rfl
  have hle:(mH ((List.range k).filter λw=>gy ds (l.getD w cz)&&decide (0<=(l.getD w cz).Call))).length<=1000:=by
   rw[kX];exact we (zN ..) (by simp;omega)
  dsimp only;simp only[zo,hk,zt,zD,e1,a1b];obtain⟨v,hv,hv2⟩:=oz (Zb l[k] ds hd);rw[hv,a1b];have hv2:=zai hv2;rw[hv2,O7 hk2,zaa,List.range_succ,zak];have ec:(wo l ds)[k]=oA ds l[k]:=wt _;have lc:(List.map nB (List.take k (wo l ds))).length<=1000:=by simp[wo];omega
  rw[ec];unfold oA;by_cases c:gy ds l[k]=true
  .rw[zb c,zb c];by_cases c2:0<=l[k].Call
   .rw[zb (by simpa[nB] using c2),B3 (by omega) (by simp only[zE,un];omega),a1b,B3 (by omega) (by simp only[zE,un];omega),a1b,l6];refine⟨_,rfl,rfl,?_⟩;simp only[rx,zca,cd hk,c,c2,zt,Bool.and_self,zD];simp[mH]
   .rw[za (by simpa[nB] using c2),B3 (by omega) (by simp only[zE,un];omega),a1b,l6];refine⟨_,rfl,rfl,?_⟩;simp only[rx,zca,cd hk,c,c2,or,Bool.and_false,zg,zU,my]
  .rw[za c,za c,B3 (by omega) (by simp only[zE,un];omega),a1b,l6];refine⟨_,rfl,rfl,?_⟩;have c:gy ds l[k]=false:=by simpa using c
   simp only[rx,zca,cd hk,c,zay,zg,zU,my]
 .rintro⟨b1,b2⟩ ⟨rfl,rfl⟩;refine⟨_,za (by simp),?_⟩;dsimp only;rw[List.take_of_length_le (by simp[wo])];rfl
def Bj(x:Hp)(ds:List Int):Hp:=⟨x.S,x.Roots,wo x.Cells ds,x.T,⟨x.Q.L++qX x.Cells ds,x.Q.Cap⟩⟩
theorem fi(l:List g9)(ds:List Int):(qX l ds).length=(cls l ds).length:=wd ..
theorem OW{l:List g9}{ds:List Int}{w:Nat}(h:w∈cls l ds):w<l.length:=by
 unfold cls at h;rw[zn,zcc] at h;exact h.1
theorem OX{l:List g9}{ds:List Int}{k:Nat}(h:k<(qX l ds).length):(qX l ds)[k]=⟨2,(((cls l ds)[k]'(by rw[<-fi];exact h):Nat):Int),(l.getD ((cls l ds)[k]'(by rw[<-fi];exact h)) cz).Call⟩:=wt _
theorem Gv{l:List g9}{ds:List Int}{w:Nat}(h:w<l.length):ix (wo l ds) (w:Int)=some (oA ds l[w]):=by
 unfold wo;rw[bn,r8 h];rfl
section
variable{x:Hp}{ds:List Int}(hc:x.Cells.length<=6)(hd:ds.length<=1000)(hq:(x.Q.L++qX x.Cells ds).length<=30)(hcap:x.Q.Cap=30)
include hc hd hq hcap
theorem Ca{k:Nat}(hk:k<(qX x.Cells ds).length):Rx ⟨x.Q.L++(qX x.Cells ds).take k,x.Q.Cap⟩ (qX x.Cells ds)[k]=(⟨x.Q.L++(qX x.Cells ds).take (k+1),x.Q.Cap⟩,0):=by
 rw[zT] at hq;unfold Rx;rw[za (by dsimp only;rw[zT,zbh,hcap];omega),O7 hk,zad]
theorem Jb:dR x ds=some (Bj x ds):=by
 unfold dR;rw[OT _ _ (by omega) hd,a1b];dsimp only;simp only[jn,kX];have hq2:=hq;rw[zT] at hq2;refine M7 (cls x.Cells ds).length (λk (q:TQ)=>q=⟨x.Q.L++(qX x.Cells ds).take k,x.Q.Cap⟩) (by rw[<-fi];omega) (by simp) ?_ ?_
 .rintro k q hk rfl;left;have hw:=OW (zd hk);have hk2:k<(qX x.Cells ds).length:=by rw[fi];exact hk
  simp only[zo,hk,zt,zD,Ee hk,a1b,Gv hw];have et:(⟨2,(((cls x.Cells ds)[k]:Nat):Int),(oA ds x.Cells[(cls x.Cells ds)[k]]).Call⟩:l5)=(qX x.Cells ds)[k]:=by
   rw[OX,(DA ds _).2.1,cd hw]
  rw[et,VL _ (by dsimp only;rw[zT,zbh];omega),Ca hc hd hq hcap hk2,a1b,l6 (by rw[<-fi] at hk;omega)];exact⟨_,rfl,rfl⟩
 .rintro q rfl;refine⟨_,za (by simp),?_⟩;rw[<-fi,zK];rfl
theorem Wh{K:y4->Option c5}:((lp (S:=Int × y4) (E:=y4) (λ((s68,s69):Int × y4)=>
   if (decide (s68<((mH (cls x.Cells ds)).length:Int))) then
    (ix (mH (cls x.Cells ds)) s68).bind λv72=>
    (ix ((wo x.Cells ds).map nB) v72).bind λv73=>
    (jL s69 (⟨2,v72,v73.Call⟩:o8)).bind λv74=>
    some (.inl (A1 (s68+1),v74.1))
   else
   some (.inr s69)) (0,gl x.Q)).bind K)=K (gl (Bj x ds).Q):=by
 have hq2:=hq;rw[zT] at hq2;have key:=eK (f:=λ((s68,s69):Int × y4)=>
   if (decide (s68<((mH (cls x.Cells ds)).length:Int))) then
    (ix (mH (cls x.Cells ds)) s68).bind λv72=>
    (ix ((wo x.Cells ds).map nB) v72).bind λv73=>
    (jL s69 (⟨2,v72,v73.Call⟩:o8)).bind λv74=>
    some (Sum.inl (A1 (s68+1),v74.1))
   else
   some (.inr s69)) (t0:=gl x.Q) (cls x.Cells ds).length (λk (q:y4)=>q=gl ⟨x.Q.L++(qX x.Cells ds).take k,x.Q.Cap⟩) (λq=>q=gl (Bj x ds).Q) (by rw[<-fi];omega) (by simp) ?_ ?_
 .obtain⟨e,h1,h2⟩:=key;rw[h1,a1b,h2]
 .rintro k q hk rfl;left;have hw:=OW (zd hk);have hk2:k<(qX x.Cells ds).length:=by rw[fi];exact hk
  have ei:ix ((wo x.Cells ds).map nB) (((cls x.Cells ds)[k]:Nat):Int)=some (nB (oA ds x.Cells[(cls x.Cells ds)[k]])):=by rw[bn,Gv hw];rfl
  simp only[kX,zo,hk,zt,zD,Ee hk,a1b,ei];have et:(⟨2,(((cls x.Cells ds)[k]:Nat):Int),(nB (oA ds x.Cells[(cls x.Cells ds)[k]])).Call⟩:o8)=su (qX x.Cells ds)[k]:=by
   rw[OX,cd hw];show (⟨2,_,(oA ds x.Cells[(cls x.Cells ds)[k]]).Call⟩:o8)=_;rw[(DA ds _).2.1];rfl
  rw[et,VI _ (by dsimp only;rw[zT,zbh];omega),Ca hc hd hq hcap hk2,a1b,l6 (by rw[<-fi] at hk;omega)];exact⟨_,rfl,rfl⟩
 .rintro q rfl;refine⟨_,za (by rw[kX];simp),?_⟩;rw[<-fi,zK];rfl
end
theorem vX(s:a7)(i:Nat)(c d:c4):I4 (I4 s i c) i d=I4 s i d:=by
 unfold I4;dsimp only;rw[List.set_set]
section
variable{s:a7}(hR:SR s){d:Int}(hd:d∈lv s)
include hR hd
def k1(s:a7)(d:Int):a7:=I4 s (E4 d) ⟨1,(ce s (E4 d)).Gen,Nf (ob s d)⟩
def k2(s:a7)(d:Int):a7:=I4 s (E4 d) ⟨2,(ce s (E4 d)).Gen,Nf (ob s d)⟩
theorem DI:Bp s (Nf (ob s d)):=by
 have ho:=L1 hR hd;exact⟨ho.s1,ho.s2,ms _,ho.wk,ho.p1,ho.p2,t7 _⟩
theorem Jw:cZ s d (Nf (ob s d))=k1 s d:=by
 have q:=B5 hR hd;unfold cZ dH k1 I4;rw[q.2.1]
theorem Vz:At (k1 s d) d (E4 d):=by
 have q:=B5 hR hd;refine⟨by unfold k1;rw[Z6];exact q.1,?_,?_⟩;·unfold k1;rw[M2 q.1,zb rfl]
 .unfold k1;rw[M2 q.1,zb rfl];exact q.2.2
theorem VA:SR (k1 s d):=by rw[<-Jw hR hd];exact bN (o:=Nf (ob s d)) hR hd rfl (DI hR hd)
theorem VD:SR (k2 s d):=by
 have q:=B5 hR hd;have hc:=hR.cell _ q.1;unfold k2;refine hR.I4 q.1 ⟨by simp,by simp,hc.2.2.1,hc.2.2.2⟩ (λq=>absurd (.inr rfl) q) (λ_=>⟨DI hR hd,.inl q.2.1,?_⟩);show (ob s d).Serial=_;rw[Q5 hR q]
theorem VB:X6 (k2 s d) d (E4 d):=by
 have q:=B5 hR hd;refine⟨by unfold k2;rw[Z6];exact q.1,?_,?_⟩;·unfold k2;rw[M2 q.1,zb rfl];exact .inr rfl
 .unfold k2;rw[M2 q.1,zb rfl];exact q.2.2
theorem TE:V3 (k1 s d).S d=some ((k2 s d).S,0):=by
 have q:=B5 hR hd;have hR1:=VA hR hd;have q1:=Vz hR hd;have hr:=I8 hR hd;have hlen:=hR1.len;have hH:qT d:=((rR hR1).2 q1.d).2.1;have hsl:(d-1) % 32=(E4 d:Nat):=((rR hR1).2 q1.d).2.2.1;have hg:(d-1) / 32=(ce s (E4 d)).Gen:=by
  have:=q.2.2;have h24:=hR.len;have:=q.1;omega
 unfold V3 F0;rw[jl hR1 q1.d,a1b,za (by simp),GS q1.1,a1b,q1.2.1,za (by simp),a1b,za (by simp),iy (by omega),a1b,zb hH,hsl,kl (by omega),a1b,zb hH,hg,lX rfl q1.1 hlen,a1b];have e:(ce (k1 s d) (E4 d)).Val=Nf (ob s d):=by unfold k1;rw[M2 q.1,zb rfl]
 rw[e];congr 2;show (I4 (k1 s d) (E4 d) _).S=(k2 s d).S;unfold k1 k2;rw[vX]
theorem Vu(hw:(ob s d).Weak=0):Cp (k2 s d) (E4 d)=DV s d:=by
 have q:=B5 hR hd;have e:ce (k2 s d) (E4 d)=⟨2,(ce s (E4 d)).Gen,Nf (ob s d)⟩:=by unfold k2;rw[M2 q.1,zb rfl]
 unfold Cp DV Of;rw[e];rw[Q5 hR q] at hw;rw[zb hw];unfold k2;rw[vX];rfl
theorem VC(hw:(ob s d).Weak≠0):k2 s d=DV s d:=by
 have q:=B5 hR hd;unfold k2 DV Of;rw[Q5 hR q] at hw |-;rw[za hw]
end
theorem Nw{x:Hp}(hR:SR x.S){d:Int}(hd:d∈lv x.S):ai x d=some (wS x (DV x.S d)):=by
 unfold ai;rw[vx hR hd,a1b];have e1:L8 x.S d (⟨(ob x.S d).Serial,0,(ob x.S d).Weak,(ob x.S d).Prog,(ob x.S d).Started,[]⟩:n7)=some (k1 x.S d,0):=by
  rw[<-Jw hR hd];exact uI (o:=Nf (ob x.S d)) hR hd rfl (DI hR hd)
 rw[e1,a1b,TE hR hd,a1b];by_cases hw:(ob x.S d).Weak=0
 .rw[zb (by simpa using hw),Lu (VD hR hd) (VB hR hd),a1b,Vu hR hd hw];rfl
 .rw[za (by simpa using hw)];show some (wS x (k2 x.S d))=_;rw[VC hR hd hw]
theorem Xb{s:a7}(hR:SR s){d:Int}(hd:d∈lv s):tW (sO (k1 s d)) d=some (sO (k2 s d)):=by
 have q:=B5 hR hd;have hR1:=VA hR hd;have q1:=Vz hR hd;have hlen:=hR1.len;have hr:=I8 hR hd;have hi:=q1.1;have hi2:E4 d<(sO (k1 s d)).Cells.length:=by rw[C9];exact hi
 have J7:E4 d<(pl (sO (k1 s d))).Cells.length:=by rw[cC];exact hi2
 have hlen2:(sO (k1 s d)).Cells.length<=24:=by rw[C9];exact hlen
 unfold tW Aq tR;rw[dF _ (by omega),a1b,rQ (k1 s d) (by omega),jl hR1 q1.d,a1b,za (by simp),Hn hi2,a1b];have hst:(xJ (E4 d) (sO (k1 s d)).Cells[E4 d]).State=1:=by
  have:=q1.2.1;rw[F5 hi] at this;simpa[xJ,sO,cO] using this
 have hgen:(xJ (E4 d) (sO (k1 s d)).Cells[E4 d]).Gen=(ce s (E4 d)).Gen:=by
  have:(ce (k1 s d) (E4 d)).Gen=(ce s (E4 d)).Gen:=by unfold k1;rw[M2 q.1,zb rfl]
  rw[F5 hi] at this;simpa[xJ,sO,cO] using this
 rw[hst,za (by simp),a1b,za (by simp),a1b];dsimp only;rw[Hn hi2,a1b];have w3:∀c:z6,Z5 (pl (sO (k1 s d))) ((E4 d:Nat):Int) c=some ⟨(pl (sO (k1 s d))).Cells.set (E4 d) c,(pl (sO (k1 s d))).Last⟩:=λc=>by
  unfold Z5;rw[O4 (by omega) (by rw[cC];omega),a1b,r8 J7,a1b,zV]
 rw[w3,a1b,a1b,AX _ _ (by omega) (by simp[cC]),a1b,hgen];unfold k2;rw[<-vX s (E4 d) ⟨1,(ce s (E4 d)).Gen,Nf (ob s d)⟩,Mt];show some _=some (⟨(sO (k1 s d)).Cells.set (E4 d) _,_,_⟩:l4);congr 1;congr 1;refine zbc (by simp) λk h1 h2=>?_;have hk:k<(k1 s d).S.Cells.length:=by simpa[C9] using h1
 have hk2:k<(sO (k1 s d)).Cells.length:=by rw[C9];exact hk
 have hk3:k<(pl (sO (k1 s d))).Cells.length:=by rw[cC];exact hk2
 simp only[wt,List.getElem_range,zb4];rw[kS J7,cd hk2,cd hk3];by_cases e:k=E4 d
 .subst e;rw[zb rfl,zb rfl];have e2:(sO (k1 s d)).Cells[E4 d].Val=oo (Nf (ob s d)):=by
   have:(ce (k1 s d) (E4 d)).Val=Nf (ob s d):=by unfold k1;rw[M2 q.1,zb rfl]
   rw[<-this,F5 hi];simp[sO,cO]
  rw[e2];rfl
 .rw[za e,za (za2 e)];simp[sO,pl,xJ,cO]
theorem WL{x:Hp}(hR:SR x.S){d:Int}(hd:d∈lv x.S):lD (hO x) d=some (hO (wS x (DV x.S d))):=by
 unfold lD;rw[show (hO x).S=sO x.S from rfl,tj hR hd,a1b];have e1:O6 (sO x.S) d (⟨(oo (ob x.S d)).Serial,0,(oo (ob x.S d)).Weak,(oo (ob x.S d)).Prog,(oo (ob x.S d)).Started,[]⟩:D2)=some (sO (k1 x.S d),0):=by
  rw[<-Jw hR hd];exact uJ (o:=Nf (ob x.S d)) hR hd rfl (DI hR hd)
 rw[e1,a1b,Xb hR hd,a1b];by_cases hw:(ob x.S d).Weak=0
 .rw[zb (by simpa[oo] using hw),PC (VD hR hd) (VB hR hd),a1b,Vu hR hd hw];rfl
 .rw[za (by simpa[oo] using hw)];show some (hO (wS x (k2 x.S d)))=_;rw[VC hR hd hw]
theorem Ml:∀(l:List Int) {x:Hp},SR x.S->SR (l.foldl T2 x).S
 | [],x,h=>h
 | v::l,x,h=>Ml l (x:=T2 x v) (Kd h v)
theorem Fg:∀(l:List Int) {x:Hp},SR x.S->SL x->SL (l.foldl T2 x)
 | [],x,_,h=>h
 | v::l,x,hR,h=>Fg l (x:=T2 x v) (Kd hR v) (h.rls hR v)
theorem NL(l:List Int){k:Nat}(hk:k<l.length)(x:Hp):(l.take (k+1)).foldl T2 x=T2 ((l.take k).foldl T2 x) l[k]:=by
 rw[O7 hk,za4];rfl
theorem Fc{y:Hp}(hR:SR y.S)(l:List Int)(hl:l.length<=1000000)(hb:∀v∈l,v<=9223372036854775807){K:Hp->Option Hp}:((lp (S:=Int × b7) (E:=b7) (λ((s35,s36):Int × b7)=>
     if (decide (s35<(l.length:Int))) then
      (ix l s35).bind λv39=>
      (E2 s36 v39).bind λv40=>
      some (.inl (A1 (s35+1),v40))
     else
     some (.inr s36)) (0,y)).bind K)=K (l.foldl T2 y):=by
 have key:=H6 l T2 id (λk z=>SR z.S) (b0:=y) (f:=λ((s35,s36):Int × b7)=>
     if (decide (s35<(l.length:Int))) then
      (ix l s35).bind λv39=>
      (E2 s36 v39).bind λv40=>
      some (Sum.inl (A1 (s35+1),v40))
     else
     some (.inr s36)) (by omega) hR (λk hk z hz=>?_) (λz hz=>by simp)
 .rw[key,a1b];rfl
 .simp only[zo,hk,zt,zD,r8 hk,a1b,eV hz (hb _ (zd hk))];rw[l6];exact⟨rfl,Kd hz _⟩
theorem AD{y:Hp}(hR:SR y.S)(l:List Int)(hl:l.length<=1000000)(hb:∀v∈l,v<=9223372036854775807){K:c5->Option c5}:((lp (S:=Int × c5) (E:=c5) (λ((s45,s46):Int × c5)=>
      if (decide (s45<(l.length:Int))) then
       (ix l s45).bind λv49=>
       (G0 s46 v49).bind λv50=>
       some (.inl (A1 (s45+1),v50))
      else
      some (.inr s46)) (0,hO y)).bind K)=K (hO (l.foldl T2 y)):=by
 have key:=eK (f:=λ((s45,s46):Int × c5)=>
      if (decide (s45<(l.length:Int))) then
       (ix l s45).bind λv49=>
       (G0 s46 v49).bind λv50=>
       some (Sum.inl (A1 (s45+1),v50))
      else
      some (.inr s46)) (t0:=hO y) l.length (λk z=>z=hO ((l.take k).foldl T2 y)) (λz=>z=hO (l.foldl T2 y)) (by omega) rfl ?_ ?_
 .obtain⟨e,h1,h2⟩:=key;rw[h1,a1b,h2]
 .rintro k z hk rfl;left;have hz:=Ml (l.take k) hR;simp only[zo,hk,zt,zD,r8 hk,a1b,gU hz (hb _ (zd hk))];rw[l6,<-NL l hk];exact⟨_,rfl,rfl⟩
 .rintro z rfl;exact⟨_,za (by simp),by rw[zK]⟩
theorem GL(s:a7)(ds:List Int){k:Nat}(hk:k<ds.length):mB s (ds.take (k+1))=DV (mB s (ds.take k)) ds[k]:=by
 unfold mB;rw[O7 hk,za4];rfl
section
variable{y:Hp}(hR:SR y.S){ds:List Int}(hn:ds.Nodup)(hm:∀d∈ds,d∈lv y.S)
include hR hn hm
theorem yX{k:Nat}(hk:k<ds.length):SR (mB y.S (ds.take k))/\ds[k]∈lv (mB y.S (ds.take k)):=by
 have g:=dw (ds.take k) hR ((List.take_sublist k ds).nodup hn) λd hd=>hm d (zax hd);refine⟨g.sr,?_⟩;rw[g.lv,zn,zx];refine⟨hm _ (zd hk),λq=>?_⟩;rw[<-List.take_append_drop k ds,zb3] at hn;exact hn.2.2 _ q ds[k] (by rw[List.drop_eq_getElem_cons hk];exact zl ..) rfl
theorem Nv(hl:ds.length<=1000){K:Hp->Option Hp}:((lp (S:=Int × b7) (E:=b7) (λ((s42,s43):Int × b7)=>
    if (decide (s42<(ds.length:Int))) then
     (ix ds s42).bind λv46=>
     (ai s43 v46).bind λv47=>
     some (.inl (A1 (s42+1),v47))
    else
    some (.inr s43)) (0,y)).bind K)=K (wS y (mB y.S ds)):=by
 have key:=eK (f:=λ((s42,s43):Int × b7)=>
    if (decide (s42<(ds.length:Int))) then
     (ix ds s42).bind λv46=>
     (ai s43 v46).bind λv47=>
     some (Sum.inl (A1 (s42+1),v47))
    else
    some (.inr s43)) (t0:=y) ds.length (λk z=>z=wS y (mB y.S (ds.take k))) (λz=>z=wS y (mB y.S ds)) (by omega) rfl ?_ ?_
 .obtain⟨e,h1,h2⟩:=key;rw[h1,a1b,h2]
 .rintro k z hk rfl;left;obtain⟨h1,h2⟩:=yX hR hn hm hk;simp only[zo,hk,zt,zD,r8 hk,a1b,Nw (x:=wS y (mB y.S (ds.take k))) h1 h2];rw[l6,GL _ _ hk];exact⟨_,rfl,rfl⟩
 .rintro z rfl;exact⟨_,za (by simp),by rw[zK]⟩
theorem GW(hl:ds.length<=1000){K:c5->Option c5}:((lp (S:=Int × c5) (E:=c5) (λ((s52,s53):Int × c5)=>
     if (decide (s52<(ds.length:Int))) then
      (ix ds s52).bind λv56=>
      (lD s53 v56).bind λv57=>
      some (.inl (A1 (s52+1),v57))
     else
     some (.inr s53)) (0,hO y)).bind K)=K (hO (wS y (mB y.S ds))):=by
 have key:=eK (f:=λ((s52,s53):Int × c5)=>
     if (decide (s52<(ds.length:Int))) then
      (ix ds s52).bind λv56=>
      (lD s53 v56).bind λv57=>
      some (Sum.inl (A1 (s52+1),v57))
     else
     some (.inr s53)) (t0:=hO y) ds.length (λk z=>z=hO (wS y (mB y.S (ds.take k)))) (λz=>z=hO (wS y (mB y.S ds))) (by omega) rfl ?_ ?_
 .obtain⟨e,h1,h2⟩:=key;rw[h1,a1b,h2]
 .rintro k z hk rfl;left;obtain⟨h1,h2⟩:=yX hR hn hm hk;simp only[zo,hk,zt,zD,r8 hk,a1b,WL (x:=wS y (mB y.S (ds.take k))) h1 h2];rw[l6,GL _ _ hk];exact⟨_,rfl,rfl⟩
 .rintro z rfl;exact⟨_,za (by simp),by rw[zK]⟩
end
section
variable{x:Hp}(hx:P5 x){ds:List Int}(hn:ds.Nodup)(hm:∀d∈ds,d∈lv x.S)
include hx hn hm
theorem DK:ds.length<=24:=we (iD hn hm) (H2 (x8.2 hx.sh.sr))
theorem DQ{d:Int}(hd:d∈lv x.S):(ob x.S d).Fields.length<=4:=(L1 hx.sh.sr hd).fl
theorem Em{d:Int}(hd:d∈lv x.S):(outs x.S d).length<=4:=we (JB _) (DQ hx hn hm hd)
theorem pU:∀(l:List Int),(∀d∈l,d∈lv x.S)->(l.flatMap (outs x.S)).length<=4*l.length
 | [],_=>by simp
 | d::l,h=>by
  rw[za3,zT,zE];have:=pU l λe he=>h e (zC _ he);have:=Em hx hn hm (h d (zl ..));omega
theorem LW:∀v∈ds.flatMap (outs x.S)++(nC x.T ds).2,v<=9223372036854775807:=λv hv=>by
 rcases zB.1 hv with q | q
 .obtain⟨d,hd,q⟩:=zao.1 q;obtain⟨q,_⟩:=mO.1 q;rcases hx.sh.fl d (hm d hd) v q with e | e
  .omega
  .exact dC hx.sh.sr e
 .by_cases h0:v=0
  .omega
  .have hl:=DK hx hn hm;have h3:=(iY hx.sh.hr ds (by omega)).2.2.2.2.2 v;have h4:=dU.2 ⟨h0,q⟩;have h5:0<own x.T v:=by omega
   obtain⟨p,hp,hq⟩:=zbo.1 h5;have hq:(v != 0&&p.Val==v)=true:=hq;rw[zj,ww] at hq;have:=(hx.sh.pr _ _ (cg.1 hp)).2;rw[hq.2] at this;exact dC hx.sh.sr this
theorem Hk:(ds.flatMap (outs x.S)++(nC x.T ds).2).length<=200:=by
 have hl:=DK hx hn hm;have h1:=pU hx hn hm ds hm;have h2:=(iY hx.sh.hr ds (by omega)).2.2.1;rw[zT];omega
theorem Li(hq:(x.Q.L++qX x.Cells ds).length<=30){l:List Int}(h1:W9 x l=some ds):aW x l=some (fU x ds):=by
 have hl:=DK hx hn hm;have hR:=hx.sh.sr;obtain⟨w1,w2,w3,w4,w5,w6⟩:=iY hx.sh.hr ds (by omega);have ol:=Hk hx hn hm;have fl:=pU hx hn hm ds hm;unfold aW;rw[h1,a1b,Jb (by have:=hx.sh.c6;omega) (by omega) hq hx.sh.cap,a1b];simp only[jn];have key:=H6 ds (λb d=>b++outs x.S d) id (λk b=>b.length<=4*k) (b0:=[]) (f:=λ((s49,s50):Int × (List Int))=>
   if (decide (s49<(ds.length:Int))) then
    (ix ds s49).bind λv53=>
    (A7 (Bj x ds).S v53).bind λv54=>
    (gW v54.1.Fields).bind λv55=>
    (app 8 s50 v55).bind λv56=>
    some (Sum.inl (A1 (s49+1),v56))
   else
   some (.inr s50)) (by omega) (by simp) (λk hk b hb=>?_) (λb hb=>by simp)
 .rw[key,a1b,eF,zb9];dsimp only[id];rw[show (Bj x ds).T=x.T from rfl,w1,a1b];have ol2:=ol;rw[zT] at ol2;rw[B3 (by omega) (by omega),a1b];have k1:=Nv (y:=⟨(Bj x ds).S,(Bj x ds).Roots,(Bj x ds).Cells,(nC x.T ds).1,(Bj x ds).Q⟩) hR hn hm (by omega) (K:=λe=>(lp (S:=Int × b7) (E:=b7) (λ((s35,s36):Int × b7)=>
     if (decide (s35<((ds.flatMap (outs x.S)++(nC x.T ds).2).length:Int))) then
      (ix (ds.flatMap (outs x.S)++(nC x.T ds).2) s35).bind λv39=>
      (E2 s36 v39).bind λv40=>
      some (.inl (A1 (s35+1),v40))
     else
     some (.inr s36)) (0,e)).bind λe34=>some e34)
  refine zbv k1 ?_;have g:=dw ds hR hn hm;have k2:=Fc (y:=wS (⟨(Bj x ds).S,(Bj x ds).Roots,(Bj x ds).Cells,(nC x.T ds).1,(Bj x ds).Q⟩:Hp) (mB x.S ds)) g.sr _ (by omega) (LW hx hn hm) (K:=λe34=>some e34);refine zbv k2 ?_;rfl
 .have hd:=hm _ (zd hk);have f4:=DQ hx hn hm hd;have o4:=Em hx hn hm hd;simp only[zo,hk,zt,zD,r8 hk,a1b,show (Bj x ds).S=x.S from rfl,vx hR hd,Hd _ (by omega:(ob x.S ds[k]).Fields.length<=1000000)];have e:nz (ob x.S ds[k]).Fields=outs x.S ds[k]:=rfl;rw[e,B3 (by omega) (by omega),a1b,l6];exact⟨rfl,by rw[zT];omega⟩
theorem Cd(hq:(x.Q.L++qX x.Cells ds).length<=30){l:List Int}(h1:pf (hO x) l=some ds):lB (hO x) l=some (hO (fU x ds)):=by
 have hl:=DK hx hn hm;have hR:=hx.sh.sr;obtain⟨w1,w2,w3,w4,w5,w6⟩:=iY hx.sh.hr ds (by omega);have ol:=Hk hx hn hm;have fl:=pU hx hn hm ds hm;have c6:=hx.sh.c6;unfold lB;rw[h1,a1b,show (hO x).Cells=x.Cells.map nB from rfl,Tf _ _ (by omega) (by omega),a1b];simp only[jn];rw[show (hO x).Q=gl x.Q from rfl,Wh (by omega) (by omega) hq hx.sh.cap];have key:=H6 ds (λb d=>b++outs x.S d) id (λk b=>b.length<=4*k) (b0:=[]) (f:=λ((s59,s60):Int × (List Int))=>
    if (decide (s59<(ds.length:Int))) then
     (ix ds s59).bind λv63=>
     (G9 (hO x).S v63).bind λv64=>
     (eP v64.1.Fields).bind λv65=>
     (app 8 s60 v65).bind λv66=>
     some (Sum.inl (A1 (s59+1),v66))
    else
    some (.inr s60)) (by omega) (by simp) (λk hk b hb=>?_) (λb hb=>by simp)
 .rw[key,a1b,eF,zb9];dsimp only[id];rw[show (hO x).T=x.T.map J7 from rfl,w4,a1b];dsimp only;have ol2:=ol;rw[zT] at ol2;rw[B3 (by omega) (by omega),a1b];have k1:=GW (y:=⟨(Bj x ds).S,(Bj x ds).Roots,(Bj x ds).Cells,(nC x.T ds).1,(Bj x ds).Q⟩) hR hn hm (by omega) (K:=λe=>(lp (S:=Int × c5) (E:=c5) (λ((s45,s46):Int × c5)=>
      if (decide (s45<((ds.flatMap (outs x.S)++(nC x.T ds).2).length:Int))) then
       (ix (ds.flatMap (outs x.S)++(nC x.T ds).2) s45).bind λv49=>
       (G0 s46 v49).bind λv50=>
       some (.inl (A1 (s45+1),v50))
      else
      some (.inr s46)) (0,e)).bind λe44=>some e44)
  refine zbv k1 ?_;have g:=dw ds hR hn hm;have k2:=AD (y:=wS (⟨(Bj x ds).S,(Bj x ds).Roots,(Bj x ds).Cells,(nC x.T ds).1,(Bj x ds).Q⟩:Hp) (mB x.S ds)) g.sr _ (by omega) (LW hx hn hm) (K:=λe44=>some e44);refine zbv k2 ?_;rfl
 .have hd:=hm _ (zd hk);have f4:=DQ hx hn hm hd;have o4:=Em hx hn hm hd;simp only[zo,hk,zt,zD,r8 hk,a1b,show (hO x).S=sO x.S from rfl,tj hR hd];have e:eP (oo (ob x.S ds[k])).Fields=some (outs x.S ds[k]):=Ae _ (by show (ob x.S ds[k]).Fields.length<=_;omega);rw[e,a1b,B3 (by omega) (by omega),a1b,l6];exact⟨rfl,by rw[zT];omega⟩
end
theorem Tc{x:Hp}(hR:SR x.S)(hS:SL x){ds:List Int}(hn:ds.Nodup)(hm:∀d∈ds,d∈lv x.S)(t:Tb):SL (jb x ds t):=λk hk=>by
 have g:=dw ds hR hn hm;have hk:k∈lv (mB x.S ds):=hk;rw[g.lv,zn,zx] at hk;have e:ob (jb x ds t).S k=ob x.S k:=g.ob k hk.1 hk.2;rw[e];exact hS k hk.1
theorem ON{x:Hp}(hR:SR x.S)(hS:SL x){ds:List Int}(hn:ds.Nodup)(hm:∀d∈ds,d∈lv x.S):SL (fU x ds):=
 Fg _ (x:=jb x ds (nC x.T ds).1) (dw ds hR hn hm).sr (Tc hR hS hn hm _)
theorem QS{x:Hp}(hR:SR x.S)(hS:SL x){h:Int}(hh:h∈lv x.S):SL (gO x h):=by
 have hok:=FA hR hh;have r1:=bN (o:=ez (ob x.S h)) hR hh rfl hok;refine SL.D8 (x:=⟨cZ x.S h (ez (ob x.S h)),x.Roots,x.Cells,x.T,⟨x.Q.L ++ [wE x h],x.Q.Cap⟩⟩) (λk hk=>?_) r1 h;dsimp only at hk |-;rw[gj (o:=ez (ob x.S h)) hR hh rfl hok] at hk;rw[eX (o:=ez (ob x.S h)) hR hh rfl hok (dC hR hk)];split;·exact hS h hh
 .exact hS k hk
theorem Ym{x:Hp}(hx:P5 x)(hS:SL x):SL (Mz x):=by
 cases h:zr x with
 | nil=>rw[qC h];exact hS
 | cons z l=>
  have hz:=(cI.1 (show z∈zr x by rw[h];exact zl ..)).1;rw[iU h];split;·exact QS hx.sh.sr hS hz
  .exact ON hx.sh.sr hS (by simp) (by simpa using hz)
theorem FC{x:Hp}(hx:P5 x)(hS:SL x)(n:Nat):SL (xl n x):=by
 induction n with
 | zero=>exact hS
 | succ n ih=>rw[dT];exact Ym (bz hx n) ih
theorem Mx{x:Hp}(hx:P5 x)(hS:SL x):SL (da x):=FC hx hS 100
section
variable{x:Hp}(hx:P5 x)(hS:SL x)
include hx hS
theorem CV{z:Int}(hz:z∈zr x):(x.Q.L++qX x.Cells [z]).length<=30:=by
 have h1:=(Bi hx hz).sh.q30;have hzl:=(cI.1 hz).1;rw[(sN hx.sh.sr (ds:=[z]) (by simp) (by simpa using hzl)).2.2.2] at h1;exact h1
theorem NO(h:zr x = []):((cX x).bind λv4=>
  if ((v4.length:Int)==0) then
   some (Sum.inr x)
  else
  (ix v4 0).bind λv5=>
  (A7 x.S v5).bind λv6=>
  (N9 v6.1).bind λv7=>
  if v7 then
   (U6 x v5).bind λv8=>
   some (.inl v8)
  else
  (cut v4 0 1).bind λv9=>
  (aW x v9).bind λv10=>
  some (Sum.inl (α:=Hp) (β:=Hp) v10))=some (.inr x):=by
 rw[zero_eq hx.sh.sr,a1b,h];rfl
theorem YS(z:Int)(l:List Int):cut (z::l) 0 1=some [z]:=by
 unfold cut;rw[zb (by simp;omega)];simp
theorem Kg(h:zr x ≠ []):((cX x).bind λv4=>
  if ((v4.length:Int)==0) then
   some (Sum.inr x)
  else
  (ix v4 0).bind λv5=>
  (A7 x.S v5).bind λv6=>
  (N9 v6.1).bind λv7=>
  if v7 then
   (U6 x v5).bind λv8=>
   some (.inl v8)
  else
  (cut v4 0 1).bind λv9=>
  (aW x v9).bind λv10=>
  some (Sum.inl (α:=Hp) (β:=Hp) v10))=some (.inl (Mz x)):=by
 cases hz:zr x with
 | nil=>exact absurd hz h
 | cons z l=>
  have hzm:z∈zr x:=by rw[hz];exact zl ..
  have hzl:=(cI.1 hzm).1;have hR:=hx.sh.sr;rw[zero_eq hR,a1b,hz,za (by simp;omega),show ix (z::l) 0=some z from rfl,a1b,vx hR hzl,a1b,LY,a1b,iU hz];by_cases hd:due (ob x.S z)=true
  .rw[zb hd,zb hd,CG hx hS (dC hR hzl),a1b];unfold VH;rw[zb ⟨hzl,hd⟩]
  .rw[za hd,za hd,YS hx hS,a1b,Li hx (ds:=[z]) (by simp) (by simpa using hzl) (CV hx hS hzm) (by rw[tG hR [z] (by simp) (by simpa using dC hR hzl),GZ hzl]),a1b]
theorem gV:Q7 x=some (da x):=by
 obtain⟨n,hn,h1,h2,h3⟩:=vY hx;unfold Q7;refine dA (λj=>xl j x) rfl n (λ_=>True) (by omega) trivial (λk hk _=>.inl ⟨?_,trivial⟩) (λ_=>⟨xl n x,?_,by rw[h3]⟩)
 .have:=Kg (bz hx k) (FC hx hS k) (h2 k hk);rw[<-dT] at this;exact this
 .exact NO (bz hx n) (FC hx hS n) h1
theorem UD{k:Nat}(hk:k<100)(h:zr x ≠ []){E:Type}{e:E}:((lC (hO x)).bind λv35=>
     if ((v35.length:Int)==0) then
      some (Sum.inr e)
     else
     (ix v35 0).bind λv36=>
     (nb (hO x) v36).bind λv37=>
     if v37 then
      (eU (hO x) v36).bind λv38=>
      some (.inl (A1 ((k:Int)+1),v38))
     else
     (cut v35 0 1).bind λv39=>
     (lB (hO x) v39).bind λv40=>
     some (Sum.inl (A1 ((k:Int)+1),v40)))=some (.inl (((k+1:Nat):Int),hO (Mz x))):=by
 cases hz:zr x with
 | nil=>exact absurd hz h
 | cons z l=>
  have hzm:z∈zr x:=by rw[hz];exact zl ..
  have hzl:=(cI.1 hzm).1;have hR:=hx.sh.sr;rw[KE hR,a1b,hz,za (by simp;omega),show ix (z::l) 0=some z from rfl,a1b,Pf hx hS (dC hR hzl),a1b,zp hzl,wn,iU hz,l6];by_cases hd:due (ob x.S z)=true
  .rw[zb hd,zb hd,Ht hx hS (dC hR hzl),a1b];unfold VH;rw[zb ⟨hzl,hd⟩]
  .rw[za hd,za hd,YS hx hS,a1b,Cd hx (ds:=[z]) (by simp) (by simpa using hzl) (CV hx hS hzm) (by rw[Pg hR [z] (by simp) (by simpa using dC hR hzl),GZ hzl]),a1b]
theorem lN:P4 (hO x)=some (hO (da x)):=by
 obtain⟨n,hn,h1,h2,h3⟩:=vY hx;unfold P4;simp only[jn];refine dA (λj=>((j:Int),hO (xl j x))) (by rfl) n (λ_=>True) (by omega) trivial (λk hk _=>.inl ⟨?_,trivial⟩) (λ_=>⟨.inl (hO (xl n x)),?_,by rw[h3]⟩)
 .dsimp only;rw[zb (by simp;omega)];have:=UD (bz hx k) (FC hx hS k) (k:=k) (by omega) (h2 k hk) (e:=(Sum.inl (hO (xl k x)):c5 ⊕ c5));rw[<-dT] at this;exact this
 .dsimp only;rw[zb (by simp;omega),KE (bz hx n).sh.sr,a1b,h1];rfl
end
def O2(n l m e:Int):Int:=if n<l\/n > m then e else 0
def bD(a b c:Int):Int:=if a≠0 then a else if b≠0 then b else c
def D0(k a b c:Int):Int:=
 if k=1 then bD (O2 a 0 5 6) (O2 b 0 4 1) (O2 c (-1) 5 13)
 else if k=2\/k=9\/k=10 then bD (O2 a 0 5 6) (O2 b 0 5 6) 0
 else if k=3 then O2 a 0 5 6
 else if k=4 then bD (O2 a 0 5 6) (O2 b 0 5 6) (O2 c 0 3 5)
 else if k=5 then bD (O2 a 0 5 6) (O2 b 0 3 5) (O2 c (-1) 5 6)
 else if k=6 then bD (O2 a 0 5 7) (O2 b (-1) 5 6) (O2 c (-1) 5 13)
 else if k=7 then bD (O2 a 0 5 6) (O2 b 0 5 7) 0
 else if k=8 then bD (O2 a 0 5 6) (O2 b (-1) 5 6) 0
 else if k=11 then 0
 else if k=12 then O2 a 0 200 12
 else 14
def Fa:k9:=⟨some 233,0,5,6⟩
def Ux:k9:=⟨some 234,0,5,6⟩
def Zp:k9:=⟨some 234,-1,5,6⟩
def Zt:k9:=⟨some 236,-1,5,13⟩
def wu:List (Int × List k9):=[(1,[Fa,⟨some 234,0,4,1⟩,Zt]),(2,[Fa,Ux]),(3,[Fa]),(4,[Fa,Ux,⟨some 236,0,3,5⟩]),
 (5,[Fa,⟨some 234,0,3,5⟩,⟨some 236,-1,5,6⟩]),(6,[⟨some 233,0,5,7⟩,Zp,Zt]),(7,[Fa,⟨some 234,0,5,7⟩]),(8,[Fa,Zp]),(9,[Fa,Ux]),(10,[Fa,Ux]),(11,[]),(12,[⟨some 233,0,200,12⟩])]
theorem Jc:mn=some wu:=by kernel_rfl
def fK(o:k8)(d:k9):Int:=if d.part=some 233 then o.A else if d.part=some 234 then o.B else o.C
def qW(o:k8)(d:k9):Bool:=decide (fK o d<d.least)||decide (fK o d > d.most)
def tf(o:k8):List k9->Int ⊕ Unit
 | []=>.inr ()
 | d::ds=>if qW o d then .inl d.e else tf o ds
theorem GI(o:k8)(d:k9)(ds:List k9):tf o (d::ds)=if qW o d then .inl d.e else tf o ds:=rfl
def KG(d:k9):Prop:=d.part=some 233\/d.part=some 234\/d.part=some 236
theorem XF(o:k8){d:k9}(h:KG d):th d.part o=some (fK o d):=by
 unfold fK;rcases h with h | h | h
 .rw[h];rfl
 .rw[h];rfl
 .rw[h];rfl
theorem Xe(o:k8)(ds:List k9)(hl:ds.length<=10)(hp:∀d∈ds,KG d):lp (S:=Int) (E:=Int ⊕ Unit) (λ(s11:Int)=>
   if (decide (s11<(ds.length:Int))) then
    (ix ds s11).bind λv13=>
    (th v13.part o).bind λv14=>
    if ((decide (v14<v13.least))||(decide (v14 > v13.most))) then
     some (.inr (.inl v13.e))
    else
    some (.inl (A1 (s11+1)))
   else
   some (.inr (.inr ()))) 0=some (tf o ds):=by
 refine gH (Cx ds.length (λk=>tf o ds=tf o (ds.drop k)) (λe=>e=tf o ds) (by omega) rfl (λk hk hP=>?_) (λhP=>?_))
 .rw[zb (by simpa using hk),r8 hk,a1b,XF o (hp _ (zd hk)),a1b];rw[List.drop_eq_getElem_cons hk,GI] at hP;by_cases c:qW o ds[k]=true
  .rw[zb (show ((decide (fK o ds[k]<ds[k].least))||(decide (fK o ds[k] > ds[k].most)))=true from c)];rw[zb c] at hP;exact .inr ⟨_,rfl,hP.symm⟩
  .rw[za (show ¬((decide (fK o ds[k]<ds[k].least))||(decide (fK o ds[k] > ds[k].most)))=true from c),l6];rw[za c] at hP;exact .inl ⟨rfl,hP⟩
 .rw[List.drop_length] at hP;exact⟨_,za (by simp),hP.symm⟩
theorem Tm:∀p∈wu,p.2.length<=10/\∀d∈p.2,KG d:=by
 have:wu.all (λp=>decide (p.2.length<=10)&&p.2.all λd=>(d.part==some 233)||(d.part==some 234)||(d.part==some 236))=true:=by kernel_rfl
 intro p hp;have:=zh.1 this p hp;rw[zj,zx,zh] at this;refine⟨this.1,λd hd=>?_⟩;have:=this.2 d hd;simp only[t8,ww] at this;unfold KG;rcases this with (h | h) | h
 .exact .inl h
 .exact .inr (.inl h)
 .exact .inr (.inr h)
theorem LK{m:List (Int × List k9)}{k:Int}{v:List k9}(h:D1 m k=some v):(k,v)∈m:=by
 induction m with
 | nil=>cases h
 | cons p m ih=>
  unfold D1 at h;split at h
  .rename_i c;have:k=p.1:=by simpa using c
   cases h;subst this;exact zl ..
  .exact zC _ (ih h)
def uS(o:k8)(ds:List k9):Int:=match tf o ds with
 | .inl e=>e
 | .inr _=>0
theorem Vd(o:k8):uS o []=0:=rfl
theorem uT(o:k8)(d:k9)(ds:List k9):uS o (d::ds)=if qW o d then d.e else uS o ds:=by
 unfold uS;rw[GI];cases qW o d <;> rfl
theorem Ec(o:k8)(d:k9):O2 (fK o d) d.least d.most d.e=if qW o d then d.e else 0:=by
 unfold O2 qW;by_cases h:fK o d<d.least\/fK o d > d.most
 .rw[zb h,zb (by simpa using h)]
 .rw[za h,za (by simpa using h)]
theorem Vb(o:k8)(d:k9):uS o [d]=O2 (fK o d) d.least d.most d.e:=by rw[uT,Vd,Ec]
theorem RB(o:k8)(d e:k9)(h1:d.e≠0):uS o [d,e]=bD (O2 (fK o d) d.least d.most d.e) (O2 (fK o e) e.least e.most e.e) 0:=by
 rw[uT,Vb,Ec o d];unfold bD;cases qW o d
 .simp only[zg,zU,zci,not_true_eq_false];split;·rfl
  .rename_i h;simpa using h
 .simp[h1]
theorem Vc(o:k8)(d e f:k9)(h1:d.e≠0)(h2:e.e≠0):uS o [d,e,f]=bD (O2 (fK o d) d.least d.most d.e) (O2 (fK o e) e.least e.most e.e) (O2 (fK o f) f.least f.most f.e):=by
 rw[uT,uT,Vb,Ec o d,Ec o e];unfold bD;cases qW o d <;> cases qW o e <;> simp[h1,h2]
theorem PS(o:k8):(match D1 wu o.Kind with
  | none=>14
  | some ds=>uS o ds)=D0 o.Kind o.A o.B o.C:=by
 obtain⟨k,a,b,c⟩:=o;dsimp only;by_cases h:1<=k/\k<=12
 .have:k=1\/k=2\/k=3\/k=4\/k=5\/k=6\/k=7\/k=8\/k=9\/k=10\/k=11\/k=12:=by omega
  rcases this with rfl | rfl | rfl | rfl | rfl | rfl | rfl | rfl | rfl | rfl | rfl | rfl
  .exact Vc _ _ _ _ (by decide) (by decide)
  .exact RB _ _ _ (by decide)
  .exact Vb _ _
  .exact Vc _ _ _ _ (by decide) (by decide)
  .exact Vc _ _ _ _ (by decide) (by decide)
  .exact Vc _ _ _ _ (by decide) (by decide)
  .exact RB _ _ _ (by decide)
  .exact RB _ _ _ (by decide)
  .exact RB _ _ _ (by decide)
  .exact RB _ _ _ (by decide)
  .rfl
  .exact Vb _ _
 .have e:D1 wu k=none:=by
   cases hm:D1 wu k with
   | none=>rfl
   | some v=>
    have:=LK hm;simp only[wu,zY,Prod.mk.injEq,List.not_mem_nil,or_false] at this;omega
  rw[e];unfold D0;repeat rw[za (by omega)]
theorem sS(o:k8):aI o=some (D0 o.Kind o.A o.B o.C):=by
 rw[<-PS];unfold aI;rw[Jc,a1b];cases h:D1 wu o.Kind with
 | none=>rfl
 | some ds=>
  obtain⟨h1,h2⟩:=Tm _ (LK h);rw[za (by simp)];simp only[jn,ut];rw[Xe o ds h1 h2,a1b];unfold uS;cases tf o ds <;> rfl
theorem Tz(n l m e:Int):bM n l m e=some (O2 n l m e):=by
 unfold bM O2;by_cases h:n<l\/n > m
 .rw[zb h,zb (by simpa using h)]
 .rw[za h,za (by simpa using h)]
theorem Pz(a b c:Int):ah a b c=some (bD a b c):=by
 unfold ah bD;by_cases h:a=0
 .by_cases g:b=0
  .rw[za (by simpa using h),za (by simpa using g),za (by simpa using h),za (by simpa using g)]
  .rw[za (by simpa using h),zb (by simpa using g),za (by simpa using h),zb (by simpa using g)]
 .rw[zb (by simpa using h),zb (by simpa using h)]
theorem jo(o:s6):bt o=some (D0 o.Kind o.A o.B o.C):=by
 unfold bt D0;simp only[Tz,Pz,a1b,jn];by_cases h:1<=o.Kind/\o.Kind<=12
 .have:o.Kind=1\/o.Kind=2\/o.Kind=3\/o.Kind=4\/o.Kind=5\/o.Kind=6\/o.Kind=7\/o.Kind=8\/o.Kind=9\/o.Kind=10\/o.Kind=11\/o.Kind=12:=by omega
  rcases this with h | h | h | h | h | h | h | h | h | h | h | h <;> rw[h] <;> rfl
 .have n:∀j:Int,1<=j->j<=12->(o.Kind==j)=false:=λj h1 h2=>by
   rw[beq_eq_false_iff_ne];omega
  simp only[n 1 (by omega) (by omega),n 2 (by omega) (by omega),n 3 (by omega) (by omega),n 4 (by omega) (by omega),n 5 (by omega) (by omega),n 6 (by omega) (by omega),n 7 (by omega) (by omega),n 8 (by omega) (by omega),n 9 (by omega) (by omega),n 10 (by omega) (by omega),n 11 (by omega) (by omega),n 12 (by omega) (by omega),zg,zU];repeat rw[za (by omega)]
def ooI(o:D2):n7:=⟨o.Serial,o.Strong,o.Weak,o.Prog,o.Started,o.Fields⟩
def sOI(s:l4):a7:=⟨⟨s.Cells.map λc=>⟨c.State,c.Gen,ooI c.Val⟩,s.Last⟩,s.Serial⟩
def Vv(x:c5):Hp:=⟨sOI x.S,x.Roots,x.Cells.map λc=>⟨c.Target,c.Intact,c.Call⟩,x.T.map λp=>⟨p.State,p.Key,p.Val⟩,⟨x.Q.L.map λt=>⟨t.Kind,t.At,t.Prog⟩,x.Q.Cap⟩⟩
theorem WQ(x:Hp):Vv (hO x)=x:=by
 obtain⟨⟨⟨cs,l⟩,n⟩,r,w,t,⟨q,c⟩⟩:=x;unfold Vv hO sOI sO gl;dsimp only;have a1:(cs.map cO).map (λc=>(⟨c.State,c.Gen,ooI c.Val⟩:c4))=cs:=by
  rw[zb7];refine zbv (zG λa _=>?_) (List.map_id cs);rfl
 have a2:(w.map nB).map (λc=>(⟨c.Target,c.Intact,c.Call⟩:g9))=w:=by
  rw[zb7];refine zbv (zG λa _=>?_) (List.map_id w);rfl
 have a3:(t.map J7).map (λp=>(⟨p.State,p.Key,p.Val⟩:c9))=t:=by
  rw[zb7];refine zbv (zG λa _=>?_) (List.map_id t);rfl
 have a4:(q.map su).map (λt=>(⟨t.Kind,t.At,t.Prog⟩:l5))=q:=by
  rw[zb7];refine zbv (zG λa _=>?_) (List.map_id q);rfl
 rw[a1,a2,a3,a4]
theorem Mn{x:Hp}(hx:P5 x){ds:List Int}:(x.Q.L++qX x.Cells ds).length<=30:=by
 have hS:=hx.sh;have c6:=hS.c6;have h24:(lv x.S).length<=24:=H2 (x8.2 hS.sr);have htd:(x.Q.L++qX x.Cells ds).Pairwise λa b=>¬(a.Kind=b.Kind/\a.At=b.At):=by
  rw[zbb];refine⟨hS.td,Cf ..,λa ha b hb q=>?_⟩;obtain⟨w,hw,rfl,hh,_⟩:=gA.1 hb;have hi:x.Cells[w].Intact=true:=by
   unfold gy at hh;rw[zj,zj] at hh;exact hh.1.1
  have:=((hS.cl w hw).2.2.2.2 hi).2;rw[zbf] at this;exact this (jW.2 ⟨a,ha,q.1,q.2⟩)
 have:=AU (m:=lv x.S) htd λt ht=>by
  rcases zB.1 ht with q | q
  .rcases (hS.tk t q).2.2 with c | c
   .exact .inl ⟨c.1,c.2.1⟩
   .exact .inr c
  .obtain⟨w,hw,rfl,_,_⟩:=gA.1 q;exact .inr ⟨rfl,by dsimp only;omega,by dsimp only;omega⟩
 omega
section
variable{x:Hp}(hB:HB x)
include hB
end
structure Gj (x y:Hp):Prop where
 lv:∀h∈lv y.S,h∈lv x.S
 aV:y.S.Serial=x.S.Serial
 len:y.S.S.Cells.length=x.S.S.Cells.length
 ob:∀h∈Sh.lv y.S,(ob y.S h).Serial=(ob x.S h).Serial/\(Sh.ob y.S h).Prog=(Sh.ob x.S h).Prog/\(Sh.ob y.S h).Fields=(Sh.ob x.S h).Fields/\((Sh.ob x.S h).Started=true->(Sh.ob y.S h).Started=true)
 rt:y.Roots=x.Roots
 cn:y.Cells.length=x.Cells.length
 cl:∀i (h:i<y.Cells.length) (h':i<x.Cells.length),y.Cells[i]=⟨x.Cells[i].Target,x.Cells[i].Intact&&decide (x.Cells[i].Target∈Sh.lv y.S),x.Cells[i].Call⟩
 q:∃l,y.Q=⟨x.Q.L++l,x.Q.Cap⟩/\(∀t∈l,t.Kind=1->t.At∈Sh.lv x.S/\(Sh.ob x.S t.At).Started=false)/\∀h∈Sh.lv y.S,(Sh.ob y.S h).Started=true->(Sh.ob x.S h).Started=false->∃t∈l,t.Kind=1/\t.At=h
 rc:∀h,bP x.S x.T (nZ x) h->bP y.S y.T (nZ y) h
 has:∀k v,Has y.T k v->Has x.T k v
theorem Gj.refl{x:Hp}(hx:jX x):Gj x x:=by
 refine⟨λ_ h=>h,rfl,rfl,λh _=>⟨rfl,rfl,rfl,id⟩,rfl,rfl,λi h h'=>?_,⟨[],by simp,by simp,λh _ a b=>?_⟩,λ_ h=>h,λ_ _ h=>h⟩
 .have:=(hx.cl i h).2.2.2.2;cases hI:x.Cells[i].Intact;·rw[zay,<-hI]
  .rw[zp (this hI).1,Bool.and_self,<-hI]
 .rw[a] at b;cases b
theorem Gj.trans{x y z:Hp}(a:Gj x y)(b:Gj y z):Gj x z:=by
 obtain⟨l1,q1,q2,q3⟩:=a.q;obtain⟨l2,r1,r2,r3⟩:=b.q;refine⟨λh hh=>a.lv h (b.lv h hh),b.aV.trans a.aV,b.len.trans a.len,λh hh=>?_,b.rt.trans a.rt,b.cn.trans a.cn,λi h h'=>?_,⟨l1++l2,?_,λt ht hk=>?_,λh hh s1 s2=>?_⟩,λh hh=>b.rc h (a.rc h hh),λk v hh=>a.has k v (b.has k v hh)⟩
 .obtain⟨b1,b2,b3,b4⟩:=b.ob h hh;obtain⟨a1,a2,a3,a4⟩:=a.ob h (b.lv h hh);exact⟨b1.trans a1,b2.trans a2,b3.trans a3,λq=>b4 (a4 q)⟩
 .have hy:i<y.Cells.length:=by rw[a.cn];exact h'
  rw[b.cl i h hy,a.cl i hy h'];dsimp only;congr 1;rw[Bool.and_assoc];congr 1;by_cases q:x.Cells[i].Target∈Sh.lv z.S
  .rw[zp q,zp (b.lv _ q)];rfl
  .rw[zA q,Bool.and_false]
 .rw[r1,q1,zad]
 .rcases zB.1 ht with q | q
  .exact q2 t q hk
  .obtain⟨e1,e2⟩:=r2 t q hk;refine⟨a.lv _ e1,?_⟩;cases hs:(Sh.ob x.S t.At).Started;·rfl
   .rw[(a.ob _ e1).2.2.2 hs] at e2;cases e2
 .cases hs:(Sh.ob y.S h).Started
  .obtain⟨t,ht,e⟩:=r3 h hh s1 hs;exact⟨t,zaq _ ht,e⟩
  .obtain⟨t,ht,e⟩:=q3 h (b.lv h hh) hs s2;exact⟨t,pi _ ht,e⟩
theorem Mu(s:a7)(h:Int)(o:n7):(cZ s h o).S.Cells.length=s.S.Cells.length:=O5 ..
theorem Uq{x:Hp}(hx:P5 x){z:Int}(hz:z∈lv x.S)(hs:(ob x.S z).Started=false):Gj x (gO x z):=by
 have hR:=hx.sh.sr;obtain⟨k,e1,e2,e3,e4⟩:=mS hR hz;have l1:=Ey hR hz;have hob:∀h∈lv x.S,(ob (gO x z).S h).Serial=(ob x.S h).Serial/\(ob (gO x z).S h).Prog=(ob x.S h).Prog/\(ob (gO x z).S h).Fields=(ob x.S h).Fields/\((ob (gO x z).S h).Started=true↔(ob x.S h).Started=true\/h=z):=λh hh=>by
  obtain⟨n,e⟩:=Am hR hz hh;rw[e];by_cases q:h=z
  .subst q;rw[zb rfl];exact⟨rfl,rfl,rfl,by simp⟩
  .rw[za q];exact⟨rfl,rfl,rfl,by simp[q]⟩
 have hot:∀h∈nZ x,h∈nZ (gO x z):=λh hh=>by
  unfold nZ at hh |-;rw[e1,e4];rcases zB.1 hh with q | q
  .exact pi _ q
  .refine zaq _ ?_;obtain⟨t,ht,a,b⟩:=tK.1 q;exact tK.2 ⟨t,pi _ ht,a,b⟩
 have rf:=Gj.refl hx.sh;refine⟨λh hh=>by rw[l1] at hh;exact hh,k.aV,k.len.trans (Mu ..),λh hh=>?_,e1,by rw[e2],λi h h'=>?_,⟨[wE x z],by rw[e4],λt ht hk=>?_,λh hh s1 s2=>?_⟩,λh hh=>?_,λk v hh=>by rw[e3] at hh;exact hh⟩
 .rw[l1] at hh;obtain⟨a,b,c,d⟩:=hob h hh;exact⟨a,b,c,λq=>d.2 (.inl q)⟩
 .have e5:(gO x z).Cells[i]=x.Cells[i]:=by simp only[e2]
  rw[e5,l1];exact rf.cl i h' h'
 .rw[zO] at ht;subst ht;exact⟨hz,hs⟩
 .rw[l1] at hh;rcases (hob h hh).2.2.2.1 s1 with q | q
  .rw[q] at s2;cases s2
  .exact⟨wE x z,List.mem_singleton_self _,rfl,q.symm⟩
 .induction hh with
  | base h1 h2=>exact .base (hot _ h1) (by rw[l1];exact h2)
  | step h0 h1 h2 ih=>
   refine .step ih ?_ (by rw[l1];exact h2);unfold outs at h1 |-;rw[(hob _ h0.live).2.2.1];exact h1
  | pair h1 h0 h2 ih=>exact .pair (by rw[e3];exact h1) ih (by rw[l1];exact h2)
theorem Td{x:Hp}(hx:P5 x){z:Int}(hz:z∈zr x):Gj x (fU x [z]):=by
 have hR:=hx.sh.sr;have hzl:=(cI.1 hz).1;have h0:z≠0:=λe=>qO hR (e▸hzl);have hfree:=FY hx hz;have hn:([z]:List Int).Nodup:=by simp
 have hm:∀d ∈ [z],d∈lv x.S:=by simpa using hzl
 have g:=dw [z] hR hn hm;have k:=(iO ([z].flatMap (outs x.S)++(nC x.T [z]).2) (x:=jb x [z] (nC x.T [z]).1) g.sr).1;obtain⟨e1,e2,e3,e4⟩:=sN hR hn hm;obtain⟨_,w2,_,_,w5,w6⟩:=iY hx.sh.hr [z] (by simp);have l1:∀h,h∈lv (fU x [z]).S↔h∈lv x.S/\h≠z:=λh=>by
  rw[IX hR hn hm,zn,zx,zO]
 have hob:∀h∈lv (fU x [z]).S,(ob (fU x [z]).S h).Serial=(ob x.S h).Serial/\(ob (fU x [z]).S h).Prog=(ob x.S h).Prog/\(ob (fU x [z]).S h).Fields=(ob x.S h).Fields/\(ob (fU x [z]).S h).Started=(ob x.S h).Started:=λh hh=>by
  obtain⟨a,b⟩:=(l1 h).1 hh;obtain⟨n,e⟩:=IY hR hn hm a (by simpa using b);rw[e];exact⟨rfl,rfl,rfl,rfl⟩
 refine⟨λh hh=>((l1 h).1 hh).1,k.aV.trans g.aV,k.len.trans g.len,λh hh=>?_,e1,by rw[e2];simp[wo],λi h h'=>?_,⟨qX x.Cells [z],by rw[e4],λt ht hk=>?_,λh hh s1 s2=>?_⟩,λh hh=>?_,λk v hh=>?_⟩
 .obtain⟨a,b,c,d⟩:=hob h hh;exact⟨a,b,c,λq=>d.trans q⟩
 .have e5:(fU x [z]).Cells[i]=oA [z] x.Cells[i]:=by
   simp only[e2];exact wt _
  rw[e5];have hc:=(hx.sh.cl i h').2.2.2.2;unfold oA gy;cases hI:x.Cells[i].Intact;·rw[za (by simp),zay,<-hI]
  .have ht:=(hc hI).1;have ht0:x.Cells[i].Target≠0:=λe=>qO hR (e▸ht);by_cases q:x.Cells[i].Target=z
   .rw[zb (by simp[q,h0]),zA (λr=>((l1 _).1 r).2 q)];rfl
   .rw[za (by simp[q]),zp ((l1 _).2 ⟨ht,q⟩),Bool.and_self,<-hI]
 .obtain⟨w,hw,rfl,_,_⟩:=gA.1 ht;simp at hk
 .rw[(hob h hh).2.2.2,s2] at s1;cases s1
 .unfold qP at hfree;have key:bP (fU x [z]).S (fU x [z]).T (nZ (fU x [z])) h/\h≠z:=by
   induction hh with
   | base h1 h2=>
    rename_i a;have hne:a≠z:=λe=>by
     subst e;exact Iu h0 (by omega:Y9 (nZ x) a=0) h1
    refine⟨.base ?_ ((l1 _).2 ⟨h2,hne⟩),hne⟩;unfold nZ at h1 |-;rw[e1,e4,yQ _ _ _ λt ht=>by
     obtain⟨w,_,rfl,_⟩:=gA.1 ht;simp]
    exact h1
   | step q0 q1 q2 ih=>
    rename_i a b;have hne:b≠z:=λe=>by
     subst e;have:=Ed (y:=b) q0.live;have h1:=dU.2 ⟨h0,q1⟩;omega
    refine⟨.step ih.1 ?_ ((l1 _).2 ⟨q2,hne⟩),hne⟩;unfold outs at q1 |-;rw[(hob _ ((l1 _).2 ⟨q0.live,ih.2⟩)).2.2.1];exact q1
   | pair q1 q0 q2 ih=>
    rename_i a b;have hne:b≠z:=λe=>by
     subst e;have:=Ep q1 h0;omega
    exact⟨.pair (by rw[e3];exact (w5 _ _).2 ⟨by simpa using ih.2,q1⟩) ih.1 ((l1 _).2 ⟨q2,hne⟩),hne⟩
  exact key.1
 .rw[e3] at hh;exact ((w5 _ _).1 hh).2
theorem UQ{x:Hp}(hx:P5 x):Gj x (Mz x):=by
 cases h:zr x with
 | nil=>rw[qC h];exact Gj.refl hx.sh
 | cons z l=>
  have hz:z∈zr x:=by rw[h];exact zl ..
  rw[iU h];split
  .rename_i q;unfold due at q;rw[zj,zx,zbg] at q;exact Uq hx (cI.1 hz).1 q.2
  .exact Td hx hz
theorem UP{x:Hp}(hx:P5 x)(n:Nat):Gj x (xl n x):=by
 induction n with
 | zero=>exact Gj.refl hx.sh
 | succ n ih=>rw[dT];exact ih.trans (UQ (bz hx n))
theorem pw{x:Hp}(hx:P5 x):Gj x (da x):=UP hx 100
section
variable{x:Hp}(hB:HB x)
include hB
end
structure Ks (s s':a7):Prop where
 sr:SR s'
 aV:s'.Serial=s.Serial
 lv:lv s'=lv s
 ob:∀h∈Sh.lv s,(ob s' h).Serial=(ob s h).Serial
theorem Ks.refl{s:a7}(hR:SR s):Ks s s:=⟨hR,rfl,rfl,λ_ _=>rfl⟩
theorem Ks.trans{a b c:a7}(h:Ks a b)(q:Ks b c):Ks a c:=⟨q.sr,q.aV.trans h.aV,q.lv.trans h.lv,λk hk=>(q.ob k (by rw[h.lv];exact hk)).trans (h.ob k hk)⟩
theorem xa.ks{s s':a7}(hR:SR s)(k:xa s s'):Ks s s':=⟨k.sr,k.aV,k.lv,λh hh=>by
 obtain⟨n,e⟩:=k.ob h (by have:=I8 hR hh;omega);rw[e]⟩
theorem Kn.ks{s s':a7}(k:Kn s s')(e:s'.Serial=s.Serial):Ks s s':=⟨k.sr,e,k.lv,λh hh=>by
 obtain⟨n,m,e⟩:=k.ob h hh;rw[e]⟩
theorem Yd{s:a7}(hR:SR s){h:Int}(hh:h∈lv s){o:n7}(hs:o.Serial=(ob s h).Serial)(ho:Bp s o):Ks s (cZ s h o):=⟨bN hR hh hs ho,rfl,gj hR hh hs ho,λk hk=>by
 rw[eX hR hh hs ho (by have:=I8 hR hk;omega)];split;·rename_i e;subst e;exact hs
 .rfl⟩
theorem Fp{x:Hp}(hR:SR x.S)(h:Int):Ks x.S (D8 x h).S:=(I0 hR h λc=>E7).ks hR
theorem Fh{x:Hp}(hR:SR x.S)(h:Int):Ks x.S (T2 x h).S:=(I0 hR h λc=>Q3).ks hR
theorem AI(x:Hp)(h:Int):(T2 x h).Roots=x.Roots/\(T2 x h).Cells=x.Cells/\(T2 x h).T=x.T/\(T2 x h).Q=x.Q:=AS x h kP
theorem bZ{x:Hp}(hR:SR x.S)(r:Nat)(h:Int):Ks x.S (H9 x r h).S:=
 (Fp hR h).trans (Fh (x:=wR (D8 x h) (x.Roots.set r h)) (gi hR h) _)
theorem Cg{x:Hp}(hR:SR x.S){h:Int}(hh:h∈lv x.S){n:Nat}(hn:n<(ob x.S h).Fields.length)(v:Int):Ks x.S (cq x h n v).S:=by
 have k1:=Fp hR v;have hh1:h∈lv (D8 x v).S:=by rw[k1.lv];exact hh
 have hof:(ob (D8 x v).S h).Fields=(ob x.S h).Fields:=by
  obtain⟨n,e⟩:=(I0 hR v (f:=W2) λc=>E7).ob h (by have:=I8 hR hh;omega);show (ob (uL x v W2).S h).Fields=_;rw[e]
 have ho:Bp (D8 x v).S (pV (ob (D8 x v).S h) ((ob x.S h).Fields.set n v)):=by
  have:=L1 k1.sr hh1;refine⟨this.s1,this.s2,this.st,this.wk,this.p1,this.p2,?_⟩;have h4:=this.fl;rw[hof] at h4;simpa using h4
 have k2:=Yd (o:=pV (ob (D8 x v).S h) ((ob x.S h).Fields.set n v)) k1.sr hh1 rfl ho;exact (k1.trans k2).trans (Fh (x:=wS (D8 x v) (cZ (D8 x v).S h (pV (ob (D8 x v).S h) ((ob x.S h).Fields.set n v)))) k2.sr _)
theorem oE(x:Hp)(h:Int)(n:Nat)(v:Int):(cq x h n v).Roots=x.Roots/\(cq x h n v).Cells=x.Cells/\(cq x h n v).T=x.T/\(cq x h n v).Q=x.Q:=by
 obtain⟨a,b,c,d⟩:=AI (wS (D8 x v) (cZ (D8 x v).S h (pV (ob (D8 x v).S h) ((ob x.S h).Fields.set n v)))) ((ob x.S h).Fields.getD n 0);obtain⟨a',b',c',d'⟩:=lK x v;exact⟨a.trans a',b.trans b',c.trans c',d.trans d'⟩
theorem Hl{x:Hp}(hR:SR x.S)(v:Int)(t:Tb)(old:Int):Ks x.S (lg x v t old).S:=
 (Fp hR v).trans (Fh (x:=wT (D8 x v) t) (gi hR v) old)
theorem sa(x:Hp)(v:Int)(t:Tb)(old:Int):(lg x v t old).Roots=x.Roots/\(lg x v t old).Cells=x.Cells/\(lg x v t old).T=t/\(lg x v t old).Q=x.Q:=by
 obtain⟨a,b,c,d⟩:=AI (wT (D8 x v) t) old;obtain⟨a',b',c',d'⟩:=lK x v;exact⟨a.trans a',b.trans b',c,d.trans d'⟩
theorem WN{s:a7}(hR:SR s){i:Nat}(hi:i<s.S.Cells.length)(h2:(ce s i).State=2):Ks s (Cp s i):=⟨DZ hR hi,rfl,DX hR hi h2,λh hh=>by rw[DY hR hi h2 hh]⟩
theorem Xh{x:Hp}(hR:SR x.S)(h:Int){d:Int}(hd:X6 x.S h (E4 h)->0<=(ce x.S (E4 h)).Val.Weak+d):Ks x.S (kY x h d).S:=by
 unfold kY;split
 .rename_i q;exact (mL hR q.1 q.2.1 (hd q)).ks rfl
 .exact Ks.refl hR
theorem Qk(x:Hp)(h d:Int):(kY x h d).Roots=x.Roots/\(kY x h d).Cells=x.Cells/\(kY x h d).T=x.T/\(kY x h d).Q=x.Q:=by
 unfold kY;split <;> exact⟨rfl,rfl,rfl,rfl⟩
theorem Ob(x:Hp)(h:Int):(pC x h).Roots=x.Roots/\(pC x h).Cells=x.Cells/\(pC x h).T=x.T/\(pC x h).Q=x.Q:=by
 unfold pC;split;·split <;> exact⟨rfl,rfl,rfl,rfl⟩
 .exact⟨rfl,rfl,rfl,rfl⟩
theorem MF{x:Hp}(hR:SR x.S)(h:Int)(hd:X6 x.S h (E4 h)->1<=(ce x.S (E4 h)).Val.Weak):Ks x.S (pC x h).S:=by
 unfold pC;split
 .rename_i q;have hd:=hd q;have kn:=mL (d:=-1) hR q.1 q.2.1 (by omega);split
  .rename_i c;have hi1:E4 h<(pY x.S (E4 h) (-1)).S.Cells.length:=by rw[kn.len];exact q.1
   have hce:ce (pY x.S (E4 h) (-1)) (E4 h)=⟨(ce x.S (E4 h)).State,(ce x.S (E4 h)).Gen,YF (ce x.S (E4 h)).Val ((ce x.S (E4 h)).Val.Weak + -1)⟩:=by
    rw[gb hR q.1 q.2.1,zb rfl]
   have h2:(ce (pY x.S (E4 h) (-1)) (E4 h)).State=2:=by rw[hce];exact c.1
   exact (kn.ks rfl).trans (WN kn.sr hi1 h2)
  .exact kn.ks rfl
 .exact Ks.refl hR
theorem Iz{x:Hp}(hx:P5 x){n:Nat}(hn:n<6)(h call:Int):Ks x.S (eC x n h call).S:=by
 have hR:=hx.sh.sr;have hnl:n<x.Cells.length:=by have:=hx.sh.c6;omega
 have ok:∀k i,X6 x.S k i->0<=(ce x.S i).Val.Weak:=λk i q=>(hR.ok i q.1 q.2.1).wk;have tw:∀i,X6 x.S (uM x n) i->1<=(ce x.S i).Val.Weak:=λi q=>by
  have htg:uM x n=x.Cells[n].Target:=by
   unfold uM;rw[zf,zc hnl];rfl
  have r:=q.Rf hR;have p:=tM hnl (by rw[<-htg];omega);rw[<-htg,q.2.2] at p;have:=(hx.wk i q.1 q.2.1).1;omega
 unfold eC;have s1:Ks x.S (kY (wC x (x.Cells.set n (jV h call))) h 1).S:=Xh (x:=wC x (x.Cells.set n (jV h call))) hR h λq=>by
  have:=ok _ _ q;dsimp only;omega
 by_cases q:X6 x.S h (E4 h)
 .have e:kY (wC x (x.Cells.set n (jV h call))) h 1=wS (wC x (x.Cells.set n (jV h call))) (pY x.S (E4 h) 1):=by
   unfold kY;rw[zb q]
  have hd:=ok _ _ q;have kn:=mL (d:=1) hR q.1 q.2.1 (by omega);rw[e] at s1 |-;refine s1.trans (MF (x:=wS (wC x (x.Cells.set n (jV h call))) (pY x.S (E4 h) 1)) kn.sr _ λq2=>?_);dsimp only at q2 |-;have q3:=(kn.ad _ _).1 q2;have:=tw _ q3;rw[gb hR q.1 q.2.1];split
  .rename_i e2;rw[e2] at this;show 1<=(ce x.S (E4 h)).Val.Weak+1;omega
  .exact this
 .have e:kY (wC x (x.Cells.set n (jV h call))) h 1=wC x (x.Cells.set n (jV h call)):=by
   unfold kY;rw[za q]
  rw[e] at s1 |-;exact s1.trans (MF (x:=wC x (x.Cells.set n (jV h call))) hR _ λq2=>tw _ q2)
theorem Bc(x:Hp)(n:Nat)(h call:Int):(eC x n h call).Roots=x.Roots/\(eC x n h call).Cells=x.Cells.set n (jV h call)/\(eC x n h call).T=x.T/\(eC x n h call).Q=x.Q:=by
 obtain⟨a,b,c,d⟩:=Ob (kY (wC x (x.Cells.set n (jV h call))) h 1) (uM x n);obtain⟨a',b',c',d'⟩:=Qk (wC x (x.Cells.set n (jV h call))) h 1;exact⟨a.trans a',b.trans b',c.trans c',d.trans d'⟩
abbrev nwo(s:a7)(n:Nat)(p:Int):n7:=⟨s.Serial+1,0,0,p,false,List.replicate n 0⟩
def fw(s:a7)(i n:Nat)(p:Int):a7:=⟨⟨s.S.Cells.set i ⟨1,(ce s i).Gen,nwo s n p⟩,s.S.Last⟩,s.Serial+1⟩
section
variable{s:a7}(hR:SR s){i:Nat}(hi:i<s.S.Cells.length)(h0:(ce s i).State=0){n:Nat}(hn:n<=4){p:Int}(hp : -1<=p/\p<=5)
include hR hi h0 hn hp
theorem kq:(fw s i n p).S.Cells.length=s.S.Cells.length:=by simp[fw]
theorem nP(j:Nat):ce (fw s i n p) j=if j=i then ⟨1,(ce s i).Gen,nwo s n p⟩ else ce s j:=kS hi _ _ j
theorem Hc:SR (fw s i n p):=by
 have hser:=hR.aV;have hc:=hR.cell i hi;have hnt:¬Th (ce s i):=λh=>by
  rcases h with h | h <;> omega
 refine⟨by rw[kq hR hi h0 hn hp];exact hR.len,hR.l0,hR.l9,by show 0<=s.Serial+1;omega,λj hj=>?_,λj hj ht=>?_,λj hj ht=>?_,λj k hj hk a b e=>?_⟩
 .rw[kq hR hi h0 hn hp] at hj;rw[nP hR hi h0 hn hp];split;·exact⟨show (0:Int)<=1 by decide,show (1:Int)<=3 by decide,hc.2.2.1,hc.2.2.2⟩
  .exact hR.cell j hj
 .rw[kq hR hi h0 hn hp] at hj;rw[nP hR hi h0 hn hp] at ht |-;split at ht;·exact absurd (.inl rfl) ht
  .rename_i e;rw[za e];exact hR.no j hj ht
 .rw[kq hR hi h0 hn hp] at hj;rw[nP hR hi h0 hn hp] at ht |-;split at ht
  .rename_i e;rw[zb e];exact⟨by show 1<=s.Serial+1;omega,ms _,ms 0,ms 0,hp.1,hp.2,by simpa using hn⟩
  .rename_i e;rw[za e];have:=hR.ok j hj ht;exact⟨this.s1,by show _<=s.Serial+1;have:=this.s2;omega,this.st,this.wk,this.p1,this.p2,this.fl⟩
 .rw[kq hR hi h0 hn hp] at hj hk;rw[nP hR hi h0 hn hp] at a e;rw[nP hR hi h0 hn hp] at b e;have old:∀m,m<s.S.Cells.length->Th (ce s m)->(ce s m).Val.Serial≠s.Serial+1:=λm hm t q=>by
   have:=(hR.ok m hm t).s2;omega
  by_cases ej:j=i <;> by_cases ek:k=i
  .rw[ej,ek]
  .rw[za ek] at b e;rw[zb ej] at e;exact absurd e.symm (old k hk b)
  .rw[za ej] at a e;rw[zb ek] at e;exact absurd e (old j hj a)
  .rw[za ej] at a e;rw[za ek] at b e;exact hR.dif j k hj hk a b e
theorem Jz{k:Int}{j:Nat}(q:X6 s k j):j≠i:=λe=>by
 subst e;rcases q.2.1 with h | h <;> omega
theorem Xg{k:Int}{j:Nat}:X6 (fw s i n p) k j↔X6 s k j\/(j=i/\k=dY s i):=by
 unfold X6;rw[kq hR hi h0 hn hp,nP hR hi h0 hn hp];by_cases e:j=i
 .rw[zb e];subst e;constructor
  .rintro⟨a,b,c⟩;exact .inr ⟨rfl,c⟩
  .rintro (⟨a,b,c⟩ | ⟨_,c⟩);·exact absurd rfl (Jz hR hi h0 hn hp ⟨a,b,c⟩)
   .exact⟨hi,.inl rfl,c⟩
 .rw[za e];constructor;·exact .inl
  .rintro (h | ⟨h,_⟩);·exact h
   .exact absurd h e
theorem LL:lv (fw s i n p)=lv s ++ [dY s i]:=by
 have e:=Jy (s:=s) (x8.2 hR) hi (by rw[<-F5 hi];exact h0) (nwo s n p) rfl (dB (x8.2 hR));unfold fw;rw[show (ce s i).Gen=s.S.Cells[i].Gen by rw[F5 hi]];have e2:dY s i=1+(i:Int)+32*s.S.Cells[i].Gen:=by unfold dY;rw[F5 hi]
 rw[e2];have:=dB (x8.2 (by have:=Hc hR hi h0 hn hp;unfold fw at this;rw[show (ce s i).Gen=s.S.Cells[i].Gen by rw[F5 hi]] at this;exact this));rw[e] at this;exact (zai this).symm
theorem Qi:dY s i∉lv s:=λh=>by
 obtain⟨j,q⟩:=(gn hR).1 h;have:i=j:=by
  have a:=q.2.2;have b:=q.1;unfold dY at a;have:=hR.len;omega
 subst this;have:=q.2.1;omega
theorem CB{k:Int}(hk:k∈lv s):ob (fw s i n p) k=ob s k:=by
 obtain⟨j,q⟩:=(gn hR).1 hk;have hj:=Jz hR hi h0 hn hp q.d;have q2:At (fw s i n p) k j:=by
  refine⟨by rw[kq hR hi h0 hn hp];exact q.1,?_,?_⟩ <;> rw[nP hR hi h0 hn hp,za hj]
  .exact q.2.1
  .exact q.2.2
 rw[Q5 (Hc hR hi h0 hn hp) q2,Q5 hR q,nP hR hi h0 hn hp,za hj]
theorem vE:ob (fw s i n p) (dY s i)=nwo s n p:=by
 have q2:At (fw s i n p) (dY s i) i:=by
  refine⟨by rw[kq hR hi h0 hn hp];exact hi,?_,?_⟩ <;> rw[nP hR hi h0 hn hp,zb rfl]
  rfl
 rw[Q5 (Hc hR hi h0 hn hp) q2,nP hR hi h0 hn hp,zb rfl]
end
theorem MD{l:List Int}{h:Int}(e:h∉l):Y9 l h=0:=Nat.eq_zero_of_not_pos λq=>e (dU.1 q).2
theorem Qj{x:Hp}(hx:P5 x){i:Nat}(hi:i<x.S.S.Cells.length)(h0:(ce x.S i).State=0){n:Nat}(hn:n<=4){p:Int}(hp : -1<=p/\p<=5):P5 (wS x (fw x.S i n p)):=by
 have hR:=hx.sh.sr;have hS:=Hc hR hi h0 hn hp;have hl:=LL hR hi h0 hn hp;have hnew:=Qi hR hi h0 hn hp;have mem:∀ {k},k∈lv x.S->k∈lv (fw x.S i n p):=λhk=>by rw[hl];exact pi _ hk
 have mem0:∀ {k},k=0\/k∈lv x.S->k=0\/k∈lv (fw x.S i n p):=λhk=>hk.imp id mem;have hpos:=xD hR hi;have split:∀ {k},k∈lv (fw x.S i n p)->k∈lv x.S\/k=dY x.S i:=λhk=>by
  rw[hl] at hk;rcases zB.1 hk with q | q
  .exact .inl q
  .exact .inr (zO.1 q)
 have rep:∀v∈List.replicate n (0:Int),v=0:=λv hv=>(zbt.1 hv).2;have ntgt:∀j (hj:j<x.Cells.length),x.Cells[j].Target≠dY x.S i:=λj hj e=>by
  obtain⟨q,hq⟩:=(hx.sh.cl j hj).2.2.2.1 (by rw[e];omega);rw[e] at hq;have:q=i:=by
   have a:=hq.2.2;have b:=hq.1;unfold dY at a;have:=hR.len;omega
  exact Jz hR hi h0 hn hp hq this
 refine⟨⟨hS,hx.sh.hr,hx.sh.r6,hx.sh.c6,hx.sh.cap,hx.sh.q30,λt ht=>?_,hx.sh.td,λh hh=>mem0 (hx.sh.rt h hh),λh hh v hv=>?_,λk v hk=>?_,λj hj=>?_⟩,λj hj ht=>?_,λh hh hs=>?_⟩
 .obtain⟨a,b,c⟩:=hx.sh.tk t ht;refine⟨a,b,c.imp (λ⟨d,e,f⟩=>⟨d,mem e,?_⟩) id⟩;show (ob (fw x.S i n p) t.At).Started=true;rw[CB hR hi h0 hn hp e];exact f
 .rcases split hh with q | q
  .have hv':v∈(ob (fw x.S i n p) h).Fields:=hv;rw[CB hR hi h0 hn hp q] at hv';exact mem0 (hx.sh.fl h q v hv')
  .subst q;have hv':v∈(ob (fw x.S i n p) (dY x.S i)).Fields:=hv;rw[vE hR hi h0 hn hp] at hv';exact .inl (rep v hv')
 .obtain⟨a,b⟩:=hx.sh.pr k v hk;exact⟨mem a,mem b⟩
 .obtain⟨a,b,c,d,e⟩:=hx.sh.cl j hj;refine⟨a,b,c,λq=>?_,λq=>⟨mem (e q).1,(e q).2⟩⟩;obtain⟨m,hm⟩:=d q;exact⟨m,(Xg hR hi h0 hn hp).2 (.inl hm)⟩
 .have hj':j<x.S.S.Cells.length:=by have:j<(fw x.S i n p).S.Cells.length:=hj;rwa [kq hR hi h0 hn hp] at this
  show (ce (fw x.S i n p) j).Val.Weak=(xg x.Cells (1+(j:Int)+32*(ce (fw x.S i n p) j).Gen):Int)/\_;have ht':Th (ce (fw x.S i n p) j):=ht;rw[nP hR hi h0 hn hp] at ht' |-;by_cases e:j=i
  .subst e;rw[zb rfl];refine⟨?_,λq=>absurd (show (1:Int)=2 from q) (by decide)⟩;show (0:Int)=(xg x.Cells (dY x.S j):Int);have:xg x.Cells (dY x.S j)=0:=by
    unfold xg;rw[List.countP_eq_zero];intro c hc;obtain⟨m,hm,rfl⟩:=q9 hc;have:=ntgt m hm;simp[this]
   rw[this];rfl
  .rw[za e] at ht' |-;exact hx.wk j hj' ht'
 .have hinn:∀y,jy (fw x.S i n p) y=jy x.S y:=λy=>by
   unfold jy;rw[hl,zaa,List.sum_append];have e1:(lv x.S).map (λk=>Y9 (outs (fw x.S i n p) k) y)=(lv x.S).map λk=>Y9 (outs x.S k) y:=zG λk hk=>by
    unfold outs;rw[CB hR hi h0 hn hp hk]
   rw[e1];have e2:outs (fw x.S i n p) (dY x.S i) = []:=by
    refine za1.2 λv hv=>?_;have h1:=mO.1 hv;rw[vE hR hi h0 hn hp] at h1;exact h1.2 (rep v h1.1)
   simp[e2,S0]
  have hnm:∀y,qP (wS x (fw x.S i n p)) y=qP x y:=λy=>by
   unfold qP;show jy (fw x.S i n p) y+own x.T y+Y9 (nZ x) y=_;rw[hinn]
  rw[hnm];have hs':(ob (fw x.S i n p) h).Strong<12:=hs;show (ob (fw x.S i n p) h).Strong=_;rcases split hh with q | q
  .rw[CB hR hi h0 hn hp q] at hs' |-;exact hx.fair h q hs'
  .subst q;rw[vE hR hi h0 hn hp];have h1:qP x (dY x.S i)=0:=by
    unfold qP;have a1:jy x.S (dY x.S i)=0:=by
     unfold jy;have:=FF (λk=>Y9 (outs x.S k) (dY x.S i)) 0 (lv x.S) λk hk=>Nat.le_of_eq<|MD λq=>by
      have q2:=mO.1 q;rcases hx.sh.fl k hk _ q2.1 with e | e
      .exact q2.2 e
      .exact hnew e
     omega
    have a2:own x.T (dY x.S i)=0:=by
     unfold own;rw[List.countP_eq_zero];intro c hc;have:=(hx.sh.pr _ _ (cg.1 hc)).2;have hne:c.Val≠dY x.S i:=λe=>hnew (e▸this);simp[hne]
    have a3:Y9 (nZ x) (dY x.S i)=0:=MD λq=>by
     unfold nZ at q;rcases zB.1 q with q | q
     .have q2:=mO.1 q;rcases hx.sh.rt _ q2.1 with e | e
      .exact q2.2 e
      .exact hnew e
     .obtain⟨t,ht,k1,k2⟩:=tK.1 q;rcases (hx.sh.tk t ht).2.2 with ⟨_,b,_⟩ | ⟨b,_⟩;·exact hnew (k2▸b)
      .omega
    omega
   rw[h1,S0];rfl
structure Ev (x y:Hp):Prop where
 lv:∀h∈lv y.S,(h∈Sh.lv x.S/\(ob y.S h).Serial=(ob x.S h).Serial)\/(h∉Sh.lv x.S/\(ob y.S h).Serial=x.S.Serial+1)
 s1:x.S.Serial<=y.S.Serial
 s2:y.S.Serial<=x.S.Serial+1
theorem Ev.refl(x:Hp):Ev x x:=⟨λh hh=>.inl ⟨hh,rfl⟩,by omega,by omega⟩
theorem Ks.ev{x y:Hp}(k:Ks x.S y.S):Ev x y:=⟨λh hh=>by
 rw[k.lv] at hh;exact .inl ⟨hh,k.ob h hh⟩,by rw[k.aV];omega,by rw[k.aV];omega⟩
theorem Ev.ks{x y z:Hp}(e:Ev x y)(k:Ks y.S z.S):Ev x z:=⟨λh hh=>by
 rw[k.lv] at hh;rw[k.ob h hh];exact e.lv h hh,by rw[k.aV];exact e.s1,by rw[k.aV];exact e.s2⟩
theorem Ev.stl{x y z:Hp}(e:Ev x y)(s:Gj y z):Ev x z:=⟨λh hh=>by
 rw[(s.ob h hh).1];exact e.lv h (s.lv h hh),by rw[s.aV];exact e.s1,by rw[s.aV];exact e.s2⟩
theorem Zk{x:Hp}(hx:P5 x){i:Nat}(hi:i<x.S.S.Cells.length)(h0:(ce x.S i).State=0){n:Nat}(hn:n<=4){p:Int}(hp : -1<=p/\p<=5):Ev x (wS x (fw x.S i n p)):=⟨λh hh=>by
 have hR:=hx.sh.sr;have hh':h∈lv (fw x.S i n p):=hh;show (_/\(ob (fw x.S i n p) h).Serial=_)\/_/\(ob (fw x.S i n p) h).Serial=_;rw[LL hR hi h0 hn hp] at hh';rcases zB.1 hh' with q | q
 .exact .inl ⟨q,by rw[CB hR hi h0 hn hp q]⟩
 .rw[zO.1 q];exact .inr ⟨Qi hR hi h0 hn hp,by rw[vE hR hi h0 hn hp]⟩,by show _<=x.S.Serial+1;omega,ms _⟩
def Cw(x y:Hp)(w:Int):Prop:=∀i:Nat,(i:Int)≠w->(y.Cells.getD i cz).Target=(x.Cells.getD i cz).Target/\((y.Cells.getD i cz).Intact=true->(x.Cells.getD i cz).Intact=true)
theorem Cw.refl(x:Hp)(w:Int):Cw x x w:=λi _=>⟨rfl,id⟩
theorem Cw.same{x y:Hp}(h:y.Cells=x.Cells)(w:Int):Cw x y w:=λi _=>by rw[h];exact⟨rfl,id⟩
theorem Cw.trans{x y z:Hp}{w:Int}(a:Cw x y w)(b:Cw y z w):Cw x z w:=λi hi=>⟨(b i hi).1.trans (a i hi).1,λq=>(a i hi).2 ((b i hi).2 q)⟩
theorem Gj.cw{x y:Hp}(s:Gj x y)(w:Int):Cw x y w:=λi _=>by
 by_cases h:i<x.Cells.length
 .have h':i<y.Cells.length:=by rw[s.cn];exact h
  rw[H4 h,H4 h',s.cl i h' h];exact⟨rfl,λq=>(zj _ _▸q).1⟩
 .have h':¬i<y.Cells.length:=by rw[s.cn];exact h
  rw[zf,zf,qr (by omega),qr (by omega)];exact⟨rfl,id⟩
theorem Cw.set{x y:Hp}{w:Nat}{c:g9}(h:y.Cells=x.Cells.set w c):Cw x y w:=λi hi=>by
 rw[h,zf,zf,List.getElem?_set_ne (by omega)];exact⟨rfl,id⟩
def YI(s:a7)(i:Nat):Prop:=i<s.S.Cells.length/\(ce s i).State=0/\∀j,j<i->(ce s j).State≠0
theorem Zh{s:a7}(hR:SR s)(hb:s.Serial<9223372036854775807)(a p:Int) :
  (¬(0<=a/\a<=4)/\U8 s a p=some (s,0,1)) \/
  ((0<=a/\a<=4)/\¬(-1<=p/\p<=5)/\U8 s a p=some (s,0,13)) \/
  ((0<=a/\a<=4)/\(-1<=p/\p<=5)/\(∀i,i<s.S.Cells.length->(ce s i).State≠0)/\U8 s a p=some (s,0,4)) \/
  ((0<=a/\a<=4)/\(-1<=p/\p<=5)/\∃i,YI s i/\U8 s a p=some (fw s i a.toNat p,dY s i,0)):=by
 have hs':=hR.aV;have hR':=x8.2 hR;unfold U8 FM;by_cases ha:0<=a/\a<=4
 .right;obtain⟨ha1,ha2⟩:=ha;obtain⟨n,rfl⟩:∃n:Nat,a=n:=⟨a.toNat,by omega⟩;rw[za (by simp;omega),Ac (by omega) (by omega)];simp only[a1b];by_cases hp : -1<=p/\p<=5
  .right;unfold T9;simp only[a1b];have e1:(decide (p >= -1)&&decide (p<6))=true:=by simp;omega
   rw[e1];have hl:SlO s.S:=⟨dQ hR',hR'.l0,hR'.l9,λi hi=>Fl hR' i hi⟩;rcases FI hl ⟨s.Serial+1,0,0,p,false,List.replicate n 0⟩ with ⟨i,hi,h0,hf,e⟩ | ⟨hf,e⟩
   .right;refine⟨⟨ha1,ha2⟩,hp,i,⟨hi,by rw[F5 hi];exact h0,λj hj=>by rw[F5 (by omega)];exact hf j hj⟩,?_⟩;simp only[zau,zg,zU,zbq];rw[show A1 (s.Serial+1)=s.Serial+1 from G4 (by omega) (by omega),e];unfold fw dY;rw[F5 hi];simp
   .left;refine⟨⟨ha1,ha2⟩,hp,λi hi=>by rw[F5 hi];exact hf i hi,?_⟩;simp only[zau,zg,zU,zbq];rw[show A1 (s.Serial+1)=s.Serial+1 from G4 (by omega) (by omega),e];simp
  .left;refine⟨⟨ha1,ha2⟩,hp,?_⟩;unfold T9;simp only[a1b];have e1:(decide (p >= -1)&&decide (p<6))=false:=by rw[zbf];simp;omega
   rw[e1];simp
 .left;refine⟨ha,?_⟩;rw[zb (by simp;omega)];simp
def sd(x:Hp)(r:Int):Int:=if r<0 then 0 else x.Roots.getD r.toNat 0
def xy(x:Hp)(r:Int):Int × Int:=if sd x r=0 then (0,2) else (sd x r,0)
def aV(x:Hp)(h:Int):Int:=(ob x.S h).Serial
theorem Cq{n l m e:Int}(he:e≠0)(h:O2 n l m e=0):l<=n/\n<=m:=by
 unfold O2 at h;split at h;·exact absurd h he
 .omega
theorem Jm{a b c:Int}(h:bD a b c=0):a=0/\b=0/\c=0:=by
 unfold bD at h;split at h;·contradiction
 .split at h;·contradiction
  .omega
theorem LC{k a b c:Int}(h:D0 k a b c=0):1<=k/\k<=12:=by
 refine Decidable.byContradiction λq=>?_;have:D0 k a b c=14:=by
  unfold D0;repeat rw[za (by omega)]
 omega
theorem a0g{a b c:Int}(h:D0 1 a b c=0):(0<=a/\a<=5)/\(0<=b/\b<=4) /\ -1<=c/\c<=5:=by
 obtain⟨h1,h2,h3⟩:=Jm (show bD (O2 a 0 5 6) (O2 b 0 4 1) (O2 c (-1) 5 13)=0 from h);exact⟨Cq (by decide) h1,Cq (by decide) h2,Cq (by decide) h3⟩
theorem Wq{a b c:Int}(h:D0 2 a b c=0):(0<=a/\a<=5)/\(0<=b/\b<=5):=by
 obtain⟨h1,h2,_⟩:=Jm (show bD (O2 a 0 5 6) (O2 b 0 5 6) 0=0 from h);exact⟨Cq (by decide) h1,Cq (by decide) h2⟩
theorem a0h{a b c:Int}(h:D0 3 a b c=0):0<=a/\a<=5:=Cq (by decide) (show O2 a 0 5 6=0 from h)
theorem a0i{a b c:Int}(h:D0 4 a b c=0):(0<=a/\a<=5)/\(0<=b/\b<=5)/\0<=c/\c<=3:=by
 obtain⟨h1,h2,h3⟩:=Jm (show bD (O2 a 0 5 6) (O2 b 0 5 6) (O2 c 0 3 5)=0 from h);exact⟨Cq (by decide) h1,Cq (by decide) h2,Cq (by decide) h3⟩
theorem a0j{a b c:Int}(h:D0 5 a b c=0):(0<=a/\a<=5)/\(0<=b/\b<=3) /\ -1<=c/\c<=5:=by
 obtain⟨h1,h2,h3⟩:=Jm (show bD (O2 a 0 5 6) (O2 b 0 3 5) (O2 c (-1) 5 6)=0 from h);exact⟨Cq (by decide) h1,Cq (by decide) h2,Cq (by decide) h3⟩
theorem a0k{a b c:Int}(h:D0 6 a b c=0):(0<=a/\a<=5)/\(-1<=b/\b<=5) /\ -1<=c/\c<=5:=by
 obtain⟨h1,h2,h3⟩:=Jm (show bD (O2 a 0 5 7) (O2 b (-1) 5 6) (O2 c (-1) 5 13)=0 from h);exact⟨Cq (by decide) h1,Cq (by decide) h2,Cq (by decide) h3⟩
theorem a0l{a b c:Int}(h:D0 7 a b c=0):(0<=a/\a<=5)/\(0<=b/\b<=5):=by
 obtain⟨h1,h2,_⟩:=Jm (show bD (O2 a 0 5 6) (O2 b 0 5 7) 0=0 from h);exact⟨Cq (by decide) h1,Cq (by decide) h2⟩
theorem a0m{a b c:Int}(h:D0 8 a b c=0):(0<=a/\a<=5)/\(-1<=b/\b<=5):=by
 obtain⟨h1,h2,_⟩:=Jm (show bD (O2 a 0 5 6) (O2 b (-1) 5 6) 0=0 from h);exact⟨Cq (by decide) h1,Cq (by decide) h2⟩
theorem a0n{a b c:Int}(h:D0 9 a b c=0):(0<=a/\a<=5)/\(0<=b/\b<=5):=Wq (show D0 2 a b c=0 from h)
theorem YO{a b c:Int}(h:D0 10 a b c=0):(0<=a/\a<=5)/\(0<=b/\b<=5):=Wq (show D0 2 a b c=0 from h)
section
variable{x:Hp}(hx:jX x)
include hx
theorem wU{r:Int}(h:0<=r/\r<=5):ix x.Roots r=some (sd x r):=by
 have:=hx.r6;obtain⟨n,rfl⟩:∃n:Nat,r=n:=⟨r.toNat,by omega⟩;have hn:n<x.Roots.length:=by omega
 rw[r8 hn];unfold sd;rw[za (by omega),zV,zf,zc hn];rfl
theorem AO{r:Int}(h:¬(0<=r/\r<=5)):sd x r=0:=by
 have:=hx.r6;unfold sd;split;·rfl
 .rw[zf,qr (by omega)];rfl
theorem wV(r:Int):sd x r=0\/sd x r∈lv x.S:=by
 by_cases h:0<=r/\r<=5
 .have e:=wU hx h;unfold ix at e;rw[zb h.1] at e;exact hx.rt _ (zk e)
 .exact .inl (AO hx h)
theorem wW(r:Int):sd x r<=9223372036854775807:=by
 rcases wV hx r with h | h
 .omega
 .have:=I8 hx.sr h;omega
theorem nm(r:Int):M8 x r=some (sd x r):=by
 have h6:=hx.r6;unfold M8;by_cases h:0<=r/\r<=5
 .rw[za (by simp;omega),wU hx h];rfl
 .rw[zb (by simp;omega),AO hx h]
theorem Rn{r:Int}(h:r<=5):iJ (hO x) r=some (sd x r):=by
 unfold iJ;by_cases q:r<0
 .rw[zb (by simpa using q),AO hx (by omega)]
 .rw[za (by simpa using q),show (hO x).Roots=x.Roots from rfl,wU hx (by omega)];rfl
theorem ld(r:Int):N7 x r=some (xy x r):=by
 unfold N7 xy;rw[nm hx,a1b];by_cases h:sd x r=0
 .rw[zb (by simpa using h),zb h]
 .rw[za (by simpa using h),za h]
theorem sM{r:Int}(h:0<=r/\r<=5):W8 (hO x) r=some (xy x r):=by
 unfold W8 xy;rw[show (hO x).Roots=x.Roots from rfl,wU hx h,a1b];by_cases h:sd x r=0
 .rw[zb (by simpa using h),zb h]
 .rw[za (by simpa using h),za h]
theorem Rr{h:Int}(hh:h<=9223372036854775807):aM x h=some (aV x h):=by
 obtain⟨e,h1,_⟩:=T0 (x8.2 hx.sr) hh;unfold aM;rw[h1];rfl
theorem Rq{h:Int}(hh:h<=9223372036854775807):cE (hO x) h=some (aV x h):=by
 obtain⟨e,h1,_⟩:=T0 (x8.2 hx.sr) hh;unfold cE;rw[show (hO x).S=sO x.S from rfl,iv x.S (by have:=hx.sr.len;omega) hh,h1];rfl
theorem Lh(r:Int):cy x r=some (aV x (sd x r)):=by
 unfold cy;rw[nm hx,a1b,Rr hx (wW hx r)];rfl
theorem Mv:aV x 0=0:=by
 unfold aV;rw[rm (x8.2 hx.sr) (by omega) (qO hx.sr)]
theorem YM(r:Int):sp (hO x) r=some (aV x (sd x r)):=by
 unfold sp;by_cases h:0<=r/\r<=5
 .rw[za (by simp;omega),show (hO x).Roots=x.Roots from rfl,wU hx h,a1b,Rq hx (wW hx r)];rfl
 .rw[zb (by simp;omega),AO hx h,Mv hx]
end
theorem Yf{x z:Hp}(hx:jX x)(k:Ks x.S z.S){h:Int}(hh:h=0\/h∈lv x.S):aV z h=aV x h:=by
 rcases hh with e | e
 .subst e;unfold aV;rw[rm (x8.2 hx.sr) (by omega) (qO hx.sr),rm (x8.2 k.sr) (by omega) (qO k.sr)]
 .exact k.ob h e
theorem UH{x z:Hp}(h:z.Roots=x.Roots)(r:Int):sd z r=sd x r:=by unfold sd;rw[h]
noncomputable def Bt(x:Hp)(o:k8)(v:Hp × Int):Option (Hp × Int × Int):=
 if (v.2 != 0) then some (x,0,v.2) else (Q7 v.1).bind λv5=>(W3 v.1 v5 o).bind λv6=>some (v5,v6,0)
theorem re{x:Hp}{o:k8}{n:Option Nat}(hc:D0 o.Kind o.A o.B o.C=0)(hk:∃l,fv=some l/\D1 l o.Kind=some n):z7 x o=(xC n ⟨x,o⟩).bind (Bt x o):=by
 obtain⟨l,h1,h2⟩:=hk;unfold z7;rw[sS,hc,a1b,za (by simp),h1,a1b,h2,za (by simp)];rfl
theorem Pe{x:Hp}{o:k8}(hc:D0 o.Kind o.A o.B o.C≠0):z7 x o=some (x,0,D0 o.Kind o.A o.B o.C)/\E1 (hO x) ⟨o.Kind,o.A,o.B,o.C⟩=some (hO x,0,D0 o.Kind o.A o.B o.C):=by
 constructor
 .unfold z7;rw[sS,a1b,zb (by simpa using hc)]
 .unfold E1;rw[jo,a1b,zb (by simpa using hc)]
section
variable{x:Hp}{a b c:Int}
theorem a0o(hc:D0 1 a b c=0):z7 x ⟨1,a,b,c⟩=(V1 ⟨x,⟨1,a,b,c⟩⟩).bind (Bt x ⟨1,a,b,c⟩):=re (o:=⟨1,a,b,c⟩) (n:=some 151) hc ⟨_,rfl,rfl⟩
theorem a0p(hc:D0 2 a b c=0):z7 x ⟨2,a,b,c⟩=(J8 ⟨x,⟨2,a,b,c⟩⟩).bind (Bt x ⟨2,a,b,c⟩):=re (o:=⟨2,a,b,c⟩) (n:=some 152) hc ⟨_,rfl,rfl⟩
theorem a0q(hc:D0 3 a b c=0):z7 x ⟨3,a,b,c⟩=(aB ⟨x,⟨3,a,b,c⟩⟩).bind (Bt x ⟨3,a,b,c⟩):=re (o:=⟨3,a,b,c⟩) (n:=some 153) hc ⟨_,rfl,rfl⟩
theorem a0r(hc:D0 4 a b c=0):z7 x ⟨4,a,b,c⟩=(aC ⟨x,⟨4,a,b,c⟩⟩).bind (Bt x ⟨4,a,b,c⟩):=re (o:=⟨4,a,b,c⟩) (n:=some 154) hc ⟨_,rfl,rfl⟩
theorem a0s(hc:D0 5 a b c=0):z7 x ⟨5,a,b,c⟩=(Y5 ⟨x,⟨5,a,b,c⟩⟩).bind (Bt x ⟨5,a,b,c⟩):=re (o:=⟨5,a,b,c⟩) (n:=some 155) hc ⟨_,rfl,rfl⟩
theorem a0t(hc:D0 6 a b c=0):z7 x ⟨6,a,b,c⟩=(V2 ⟨x,⟨6,a,b,c⟩⟩).bind (Bt x ⟨6,a,b,c⟩):=re (o:=⟨6,a,b,c⟩) (n:=some 156) hc ⟨_,rfl,rfl⟩
theorem a0u(hc:D0 7 a b c=0):z7 x ⟨7,a,b,c⟩=(Z3 ⟨x,⟨7,a,b,c⟩⟩).bind (Bt x ⟨7,a,b,c⟩):=re (o:=⟨7,a,b,c⟩) (n:=some 157) hc ⟨_,rfl,rfl⟩
theorem a0v(hc:D0 8 a b c=0):z7 x ⟨8,a,b,c⟩=(aD ⟨x,⟨8,a,b,c⟩⟩).bind (Bt x ⟨8,a,b,c⟩):=re (o:=⟨8,a,b,c⟩) (n:=some 158) hc ⟨_,rfl,rfl⟩
theorem a0w(hc:D0 9 a b c=0):z7 x ⟨9,a,b,c⟩=(bo ⟨x,⟨9,a,b,c⟩⟩).bind (Bt x ⟨9,a,b,c⟩):=re (o:=⟨9,a,b,c⟩) (n:=some 159) hc ⟨_,rfl,rfl⟩
theorem YU(hc:D0 10 a b c=0):z7 x ⟨10,a,b,c⟩=(R2 ⟨x,⟨10,a,b,c⟩⟩).bind (Bt x ⟨10,a,b,c⟩):=re (o:=⟨10,a,b,c⟩) (n:=some 160) hc ⟨_,rfl,rfl⟩
theorem DJ{k:Int}(hk:k=11\/k=12)(hc:D0 k a b c=0):z7 x ⟨k,a,b,c⟩=some (x,0,14)/\E1 (hO x) ⟨k,a,b,c⟩=some (hO x,0,14):=by
 constructor
 .unfold z7;rw[sS,hc,a1b,za (by simp)];rcases hk with rfl | rfl <;> rfl
 .unfold E1 T3;rw[jo,hc,a1b,za (by simp)];rcases hk with rfl | rfl <;> rfl
variable{y:c5}
def rT(y:c5)(a:Int)(v:Int × Int):Option (c5 × Int × Int):=
 if (v.2 != 0) then some (y,0,v.2) else (W7 y a v.1).bind λv15=>(P4 v15.1).bind λv16=>(sp v16 a).bind λv17=>some (v16,v17,0)
def rO(y:c5)(v:c5 × Int × Int):Option (c5 × Int × Int):=
 if (v.2.2 != 0) then some (y,0,v.2.2) else (P4 v.1).bind λv8=>(cE y v.2.1).bind λv9=>some (v8,v9,0)
theorem Mh{k:Int}(hk:k=2\/k=3\/k=4\/k=7\/k=9)(hc:D0 k a b c=0):E1 y ⟨k,a,b,c⟩=(cU y ⟨k,a,b,c⟩).bind (rT y a):=by
 unfold E1 T3;rw[jo,hc,a1b,za (by simp)];rcases hk with rfl | rfl | rfl | rfl | rfl <;> rfl
theorem Mg{k:Int}(hk:k=5\/k=6\/k=8)(hc:D0 k a b c=0):E1 y ⟨k,a,b,c⟩=(bu y ⟨k,a,b,c⟩).bind (rO y):=by
 unfold E1 T3;rw[jo,hc,a1b,za (by simp)];rcases hk with rfl | rfl | rfl <;> rfl
theorem ZG(hc:D0 1 a b c=0):E1 y ⟨1,a,b,c⟩=(dL y.S b c).bind λv10=>if (v10.2.2 != 0) then some (y,0,v10.2.2) else (W7 ⟨v10.1,y.Roots,y.Cells,y.T,y.Q⟩ a v10.2.1).bind λv11=>(P4 v11.1).bind λv12=>(sp v12 a).bind λv13=>some (v12,v13,0):=by
 unfold E1 T3;rw[jo,hc,a1b,za (by simp)];rfl
theorem XV(hc:D0 10 a b c=0):E1 y ⟨10,a,b,c⟩=(ix y.Roots a).bind λv3=>(ix y.Roots b).bind λv4=>if (v3==v4) then some (y,1,0) else some (y,0,0):=by
 unfold E1 T3;rw[jo,hc,a1b,za (by simp)];rfl
end
end Go.Sh
