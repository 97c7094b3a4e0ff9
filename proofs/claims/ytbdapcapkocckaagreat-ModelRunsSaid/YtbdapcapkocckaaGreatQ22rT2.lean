/- A part. -/
import Derived.Test.YtbdapcapkocckaaGreatQ22rT
set_option linter.unusedVariables false
set_option linter.unusedSimpArgs false
set_option linter.unusedSectionVars false
namespace Go.Sh
theorem Hk:∀(l:List Int) {x:Hp},SR x.S->SL x->SL (l.foldl bD x)
 | [],x,_,h=>h
 | v::l,x,hR,h=>Hk l (x:=bD x v) (SY hR v) (h.TH hR v)
theorem Hi{y:Hp}(hR:SR y.S)(l:List Int)(hl:l.length<=1000000)(hb:∀v∈l,v<=9223372036854775807){K:Hp->Option Hp}:((lp (S:=Int × c7) (E:=c7) (λ((e,o):Int × c7)=>
     if (decide (e<(l.length:Int))) then
      (ix l e).bind λr=>
      (J3 o r).bind λu=>
      some (.inl (y4 (e+1),u))
     else
     some (.inr o)) (0,y)).bind K)=K (l.foldl bD y):=by
 have key:=jk l bD id (λk z=>SR z.S) (b0:=y) (f:=λ((e,o):Int × c7)=>
     if (decide (e<(l.length:Int))) then
      (ix l e).bind λr=>
      (J3 o r).bind λu=>
      some (Sum.inl (y4 (e+1),u))
     else
     some (.inr o)) Δ hR (λk hk z hz=>?_) (λz hz=>Ψ)
 .rw[key,a2D];rfl
 .simp only[r4,hk,q9,ut,u4 hk,a2D,pq hz (hb _ (zl hk))];rw[p8];exact⟨rfl,SY hz _⟩
theorem Rl(s:b6)(ds:List Int){k:Nat}(hk:k<ds.length):qq s (ds.take (k+1))=Ad (qq s (ds.take k)) ds[k]:=by
 unfold qq;rw[dI hk,pi];rfl
section
variable{y:Hp}(hR:SR y.S){ds:List Int}(hn:ds.Nodup)(hm:∀d∈ds,d∈lv y.S)
include hR hn hm
theorem BW{k:Nat}(hk:k<ds.length):SR (qq y.S (ds.take k))/\ds[k]∈lv (qq y.S (ds.take k)):=by
 have g:=gb (ds.take k) hR ((zcq k ds).nodup hn) λd hd=>hm d (zad hd);refine⟨g.sr,?_⟩;rw[g.lv,zj,zE];refine⟨hm _ (zl hk),λq=>?_⟩;rw[<-zbq k ds,List.nodup_append] at hn;exact hn.2.2 _ q ds[k] (by rw[zbp hk];exact zh ..) rfl
theorem OK(hl:ds.length<=1000){K:Hp->Option Hp}:((lp (S:=Int × c7) (E:=c7) (λ((o,r):Int × c7)=>
    if (decide (o<(ds.length:Int))) then
     (ix ds o).bind λu=>
     (bZ r u).bind λv=>
     some (.inl (y4 (o+1),v))
    else
    some (.inr r)) (0,y)).bind K)=K (wS y (qq y.S ds)):=by
 have key:=ue (f:=λ((o,r):Int × c7)=>
    if (decide (o<(ds.length:Int))) then
     (ix ds o).bind λu=>
     (bZ r u).bind λv=>
     some (Sum.inl (y4 (o+1),v))
    else
    some (.inr r)) (t0:=y) ds.length (λk z=>z=wS y (qq y.S (ds.take k))) (λz=>z=wS y (qq y.S ds)) Δ rfl ?_ ?_
 .obtain⟨e,w,A⟩:=key;rw[w,a2D,A]
 .rintro k z hk rfl;left;obtain⟨w,A⟩:=BW hR hn hm hk;simp only[r4,hk,q9,ut,u4 hk,a2D,OL (x:=wS y (qq y.S (ds.take k))) w A];rw[p8,Rl _ _ hk];exact⟨_,rfl,rfl⟩
 .rintro z rfl;exact⟨_,za Ψ,by rw[zL]⟩
end
section
variable{x:Hp}(hx:M0 x){ds:List Int}(hn:ds.Nodup)(hm:∀d∈ds,d∈lv x.S)
include hx hn hm
theorem KC:ds.length<=24:=zQ (aO hn hm) (dT (D5.2 hx.sh.sr))
theorem MC{d:Int}(hd:d∈lv x.S):(ob x.S d).Fields.length<=4:=(N7 hx.sh.sr hd).fl
theorem Ng{d:Int}(hd:d∈lv x.S):(outs x.S d).length<=4:=zQ (Zb _) (MC hx hn hm hd)
theorem xw:∀(l:List Int),(∀d∈l,d∈lv x.S)->(l.flatMap (outs x.S)).length<=4*l.length
 | [],_=>by simp
 | d::l,h=>by
  rw[zbv,zA,zF];have:=xw l λe he=>h e (zw _ he);have:=Ng hx hn hm (h d (zh ..));omega
theorem Wb:∀v∈ds.flatMap (outs x.S)++(mY x.T ds).2,v<=9223372036854775807:=λv hv=>by
 rcases zH.1 hv with q | q
 .obtain⟨d,hd,q⟩:=zae.1 q;obtain⟨q,_⟩:=ln.1 q;rcases hx.sh.fl d (hm d hd) v q with e | e
  .omega
  .exact Ca hx.sh.sr e
 .by_cases h0:v=0
  .omega
  .have hl:=KC hx hn hm;have r:=(lL hx.sh.hr ds Δ).2.2.2.2.2 v;have u:=gT.2 ⟨h0,q⟩;have o:0<own x.T v:=by omega
   obtain⟨p,hp,hq⟩:=zby.1 o;have hq:(v != 0&&p.Val==v)=true:=hq;rw[zB,zak] at hq;have:=(hx.sh.pr _ _ (gw.1 hp)).2;rw[hq.2] at this;exact Ca hx.sh.sr this
theorem Sp:(ds.flatMap (outs x.S)++(mY x.T ds).2).length<=200:=by
 have hl:=KC hx hn hm;have e:=xw hx hn hm ds hm;have o:=(lL hx.sh.hr ds Δ).2.2.1;rw[zA];omega
theorem UR(hq:(x.Q.L++jf x.b7 ds).length<=30){l:List Int}(P:aU x l=some ds):dj x l=some (iU x ds):=by
 have hl:=KC hx hn hm;have hR:=hx.sh.sr;obtain⟨w1,w2,w3,w4,w5,w6⟩:=lL hx.sh.hr ds Δ;have ol:=Sp hx hn hm;have fl:=xw hx hn hm ds hm;unfold dj;rw[P,a2D,Ky (by have:=hx.sh.c6;omega) Δ hq hx.sh.cap,a2D];simp only[jn];have key:=jk ds (λb d=>b++outs x.S d) id (λk b=>b.length<=4*k) (b0:=[]) (f:=λ((u,w):Int × (List Int))=>
   if (decide (u<(ds.length:Int))) then
    (ix ds u).bind λF=>
    (A9 (PB x ds).S F).bind λG=>
    (kN G.1.Fields).bind λH=>
    (app 8 w H).bind λN=>
    some (Sum.inl (y4 (u+1),N))
   else
   some (.inr w)) Δ Ψ (λk hk b hb=>?_) (λb hb=>Ψ)
 .rw[key,a2D,BJ,zcm];dsimp only[id];rw[show (PB x ds).T=x.T from rfl,w1,a2D];have A:=ol;rw[zA] at A;rw[U5 Δ Δ,a2D];have k1:=OK (y:=⟨(PB x ds).S,(PB x ds).Roots,(PB x ds).b7,(mY x.T ds).1,(PB x ds).Q⟩) hR hn hm Δ (K:=λe=>(lp (S:=Int × c7) (E:=c7) (λ((r,v):Int × c7)=>
     if (decide (r<((ds.flatMap (outs x.S)++(mY x.T ds).2).length:Int))) then
      (ix (ds.flatMap (outs x.S)++(mY x.T ds).2) r).bind λB=>
      (J3 v B).bind λC=>
      some (.inl (y4 (r+1),C))
     else
     some (.inr v)) (0,e)).bind λo=>some o)
  refine Eq.trans k1 ?_;have g:=gb ds hR hn hm;have k2:=Hi (y:=wS (⟨(PB x ds).S,(PB x ds).Roots,(PB x ds).b7,(mY x.T ds).1,(PB x ds).Q⟩:Hp) (qq x.S ds)) g.sr _ Δ (Wb hx hn hm) (K:=λo=>some o);refine Eq.trans k2 ?_;rfl
 .have hd:=hm _ (zl hk);have R:=MC hx hn hm hd;have V:=Ng hx hn hm hd;simp only[r4,hk,q9,ut,u4 hk,a2D,show (PB x ds).S=x.S from rfl,Gb hR hd,RR _ (by omega:(ob x.S ds[k]).Fields.length<=1000000)];have e:nz (ob x.S ds[k]).Fields=outs x.S ds[k]:=rfl;rw[e,U5 Δ Δ,a2D,p8];exact⟨rfl,by rw[zA];omega⟩
end
theorem UP{x:Hp}(hR:SR x.S)(hS:SL x){ds:List Int}(hn:ds.Nodup)(hm:∀d∈ds,d∈lv x.S)(t:Tb):SL (kU x ds t):=λk hk=>by
 have g:=gb ds hR hn hm;have hk:k∈lv (qq x.S ds):=hk;rw[g.lv,zj,zE] at hk;have e:ob (kU x ds t).S k=ob x.S k:=g.ob k hk.1 hk.2;rw[e];exact hS k hk.1
theorem Qw{x:Hp}(hR:SR x.S)(hS:SL x){ds:List Int}(hn:ds.Nodup)(hm:∀d∈ds,d∈lv x.S):SL (iU x ds):=
 Hk _ (x:=kU x ds (mY x.T ds).1) (gb ds hR hn hm).sr (UP hR hS hn hm _)
theorem SG{x:Hp}(hR:SR x.S)(hS:SL x){h:Int}(hh:h∈lv x.S):SL (kK x h):=by
 have hok:=ND hR hh;have e:=dh (o:=gQ (ob x.S h)) hR hh rfl hok;refine SL.I3 (x:=⟨eC x.S h (gQ (ob x.S h)),x.Roots,x.b7,x.T,⟨x.Q.L ++ [Dv x h],x.Q.Cap⟩⟩) (λk hk=>?_) e h;dsimp only at hk |-;rw[jW (o:=gQ (ob x.S h)) hR hh rfl hok] at hk;rw[iI (o:=gQ (ob x.S h)) hR hh rfl hok (Ca hR hk)];split;·exact hS h hh
 .exact hS k hk
theorem ZW{x:Hp}(hx:M0 x)(hS:SL x):SL (JY x):=by
 cases h:zr x with
 | nil=>rw[pE h];exact hS
 | cons z l=>
  have hz:=(du.1 (show z∈zr x by rw[h];exact zh ..)).1;rw[lH h];split;·exact SG hx.sh.sr hS hz
  .exact Qw hx.sh.sr hS Ψ (Ω hz)
theorem Lz{x:Hp}(hx:M0 x)(hS:SL x)(n:Nat):SL (lG n x):=by
 induction n with
 | zero=>exact hS
 | succ n ih=>rw[gR];exact ZW (M9 hx n) ih
theorem NC{x:Hp}(hx:M0 x)(hS:SL x):SL (cy x):=Lz hx hS 100
section
variable{x:Hp}(hx:M0 x)(hS:SL x)
include hx hS
theorem Pz{z:Int}(hz:z∈zr x):(x.Q.L++jf x.b7 [z]).length<=30:=by
 have o:=(Dr hx hz).sh.q30;have e:=(du.1 hz).1;rw[(uV hx.sh.sr (ds:=[z]) Ψ (Ω e)).2.2.2] at o;exact o
theorem Pj(h:zr x = []):((fK x).bind λo=>
  if ((o.length:Int)==0) then
   some (Sum.inr x)
  else
  (ix o 0).bind λr=>
  (A9 x.S r).bind λu=>
  (T7 u.1).bind λv=>
  if v then
   (au x r).bind λw=>
   some (.inl w)
  else
  (cut o 0 1).bind λA=>
  (dj x A).bind λe=>
  some (Sum.inl (α:=Hp) (β:=Hp) e))=some (.inr x):=by
 rw[zero_eq hx.sh.sr,a2D,h];rfl
theorem a1R(z:Int)(l:List Int):cut (z::l) 0 1=some [z]:=by
 unfold cut;rw[zb Ξ];simp
theorem Lq(h:zr x ≠ []):((fK x).bind λu=>
  if ((u.length:Int)==0) then
   some (Sum.inr x)
  else
  (ix u 0).bind λv=>
  (A9 x.S v).bind λw=>
  (T7 w.1).bind λA=>
  if A then
   (au x v).bind λB=>
   some (.inl B)
  else
  (cut u 0 1).bind λC=>
  (dj x C).bind λr=>
  some (Sum.inl (α:=Hp) (β:=Hp) r))=some (.inl (JY x)):=by
 cases hz:zr x with
 | nil=>exact absurd hz h
 | cons z l=>
  have o:z∈zr x:=by rw[hz];exact zh ..
  have e:=(du.1 o).1;have hR:=hx.sh.sr;rw[zero_eq hR,a2D,hz,za Ξ,show ix (z::l) 0=some z from rfl,a2D,Gb hR e,a2D,Nh,a2D,lH hz];by_cases hd:due (ob x.S z)=true
  .rw[zb hd,zb hd,Pb hx hS (Ca hR e),a2D];unfold quD;rw[zb ⟨e,hd⟩]
  .rw[za hd,za hd,a1R hx hS,a2D,UR hx (ds:=[z]) Ψ (Ω e) (Pz hx hS o) (by rw[Gr hR [z] Ψ (Ω (Ca hR e)),RC e]),a2D]
theorem yb:W5 x=some (cy x):=by
 obtain⟨n,hn,e,o,r⟩:=sC hx;unfold W5;refine gn (λj=>lG j x) rfl n (λ_=>True) Δ trivial (λk hk _=>.inl ⟨?_,trivial⟩) (λ_=>⟨lG n x,?_,by rw[r]⟩)
 .have:=Lq (M9 hx k) (Lz hx hS k) (o k hk);rw[<-gR] at this;exact this
 .exact Pj (M9 hx n) (Lz hx hS n) e
end
def U0(n l m e:Int):Int:=if n<l\/n > m then e else 0
def dK(a b c:Int):Int:=if a≠0 then a else if b≠0 then b else c
def A5(k a b c:Int):Int:=
 if k=1 then dK (U0 a 0 5 6) (U0 b 0 4 1) (U0 c (-1) 5 13)
 else if k=2\/k=9\/k=10 then dK (U0 a 0 5 6) (U0 b 0 5 6) 0
 else if k=3 then U0 a 0 5 6
 else if k=4 then dK (U0 a 0 5 6) (U0 b 0 5 6) (U0 c 0 3 5)
 else if k=5 then dK (U0 a 0 5 6) (U0 b 0 3 5) (U0 c (-1) 5 6)
 else if k=6 then dK (U0 a 0 5 7) (U0 b (-1) 5 6) (U0 c (-1) 5 13)
 else if k=7 then dK (U0 a 0 5 6) (U0 b 0 5 7) 0
 else if k=8 then dK (U0 a 0 5 6) (U0 b (-1) 5 6) 0
 else if k=11 then 0
 else if k=12 then U0 a 0 200 12
 else 14
def Hg:n0:=⟨some 174,0,5,6⟩
def Wr:n0:=⟨some 175,0,5,6⟩
def a05:n0:=⟨some 175,-1,5,6⟩
def a1e:n0:=⟨some 177,-1,5,13⟩
def yp:List (Int × List n0):=[(1,[Hg,⟨some 175,0,4,1⟩,a1e]),(2,[Hg,Wr]),(3,[Hg]),(4,[Hg,Wr,⟨some 177,0,3,5⟩]),
 (5,[Hg,⟨some 175,0,3,5⟩,⟨some 177,-1,5,6⟩]),(6,[⟨some 174,0,5,7⟩,a05,a1e]),(7,[Hg,⟨some 175,0,5,7⟩]),(8,[Hg,a05]),(9,[Hg,Wr]),(10,[Hg,Wr]),(11,[]),(12,[⟨some 174,0,200,12⟩])]
theorem KB:oE=some yp:=Φ
def js(o:k8)(d:n0):Int:=if d.part=some 174 then o.A else if d.part=some 175 then o.B else o.C
def tc(o:k8)(d:n0):Bool:=decide (js o d<d.least)||decide (js o d > d.most)
def vp(o:k8):List n0->Int ⊕ Unit
 | []=>.inr ()
 | d::ds=>if tc o d then .inl d.e else vp o ds
theorem IB(o:k8)(d:n0)(ds:List n0):vp o (d::ds)=if tc o d then .inl d.e else vp o ds:=rfl
def LJ(d:n0):Prop:=d.part=some 174\/d.part=some 175\/d.part=some 177
theorem Zs(o:k8){d:n0}(h:LJ d):vr d.part o=some (js o d):=by
 unfold js;rcases h with h | h | h
 .rw[h];rfl
 .rw[h];rfl
 .rw[h];rfl
theorem YO(o:k8)(ds:List n0)(hl:ds.length<=10)(hp:∀d∈ds,LJ d):lp (S:=Int) (E:=Int ⊕ Unit) (λ(v:Int)=>
   if (decide (v<(ds.length:Int))) then
    (ix ds v).bind λr=>
    (vr r.part o).bind λw=>
    if ((decide (w<r.least))||(decide (w > r.most))) then
     some (.inr (.inl r.e))
    else
    some (.inl (y4 (v+1)))
   else
   some (.inr (.inr ()))) 0=some (vp o ds):=by
 refine wJ (EH ds.length (λk=>vp o ds=vp o (ds.drop k)) (λe=>e=vp o ds) Δ rfl (λk hk u=>?_) (λu=>?_))
 .rw[zb (Ω hk),u4 hk,a2D,Zs o (hp _ (zl hk)),a2D];rw[zbp hk,IB] at u;by_cases c:tc o ds[k]=true
  .rw[zb (show ((decide (js o ds[k]<ds[k].least))||(decide (js o ds[k] > ds[k].most)))=true from c)];rw[zb c] at u;exact .inr ⟨_,rfl,u.symm⟩
  .rw[za (show ¬((decide (js o ds[k]<ds[k].least))||(decide (js o ds[k] > ds[k].most)))=true from c),p8];rw[za c] at u;exact .inl ⟨rfl,u⟩
 .rw[List.drop_length] at u;exact⟨_,za Ψ,u.symm⟩
theorem Ve:∀p∈yp,p.2.length<=10/\∀d∈p.2,LJ d:=by
 have:yp.all (λp=>decide (p.2.length<=10)&&p.2.all λd=>(d.part==some 174)||(d.part==some 175)||(d.part==some 177))=true:=Φ
 intro p hp;have:=zg.1 this p hp;rw[zB,zE,zg] at this;refine⟨this.1,λd hd=>?_⟩;have:=this.2 d hd;simp only[zbx,zak] at this;unfold LJ;rcases this with (h | h) | h
 .exact .inl h
 .exact .inr (.inl h)
 .exact .inr (.inr h)
theorem MY{m:List (Int × List n0)}{k:Int}{v:List n0}(h:C4 m k=some v):(k,v)∈m:=by
 induction m with
 | nil=>cases h
 | cons p m ih=>
  unfold C4 at h;split at h
  .rename_i c;have:k=p.1:=by simpa using c
   cases h;subst this;exact zh ..
  .exact zw _ (ih h)
def wP(o:k8)(ds:List n0):Int:=match vp o ds with
 | .inl e=>e
 | .inr _=>0
theorem WS(o:k8):wP o []=0:=rfl
theorem wU(o:k8)(d:n0)(ds:List n0):wP o (d::ds)=if tc o d then d.e else wP o ds:=by
 unfold wP;rw[IB];cases tc o d <;> rfl
theorem Gm(o:k8)(d:n0):U0 (js o d) d.least d.most d.e=if tc o d then d.e else 0:=by
 unfold U0 tc;by_cases h:js o d<d.least\/js o d > d.most
 .rw[zb h,zb (Ω h)]
 .rw[za h,za (Ω h)]
theorem WQ(o:k8)(d:n0):wP o [d]=U0 (js o d) d.least d.most d.e:=by rw[wU,WS,Gm]
theorem Ts(o:k8)(d e:n0)(r:d.e≠0):wP o [d,e]=dK (U0 (js o d) d.least d.most d.e) (U0 (js o e) e.least e.most e.e) 0:=by
 rw[wU,WQ,Gm o d];unfold dK;cases tc o d
 .simp only[zM,pu,ne_eq,not_true_eq_false];split;·rfl
  .rename_i h;simpa using h
 .simp[r]
theorem WR(o:k8)(d e f:n0)(r:d.e≠0)(u:e.e≠0):wP o [d,e,f]=dK (U0 (js o d) d.least d.most d.e) (U0 (js o e) e.least e.most e.e) (U0 (js o f) f.least f.most f.e):=by
 rw[wU,wU,WQ,Gm o d,Gm o e];unfold dK;cases tc o d <;> cases tc o e <;> simp[r,u]
theorem Rx(o:k8):(match C4 yp o.Kind with
  | none=>14
  | some ds=>wP o ds)=A5 o.Kind o.A o.B o.C:=by
 obtain⟨k,a,b,c⟩:=o;dsimp only;by_cases h:1<=k/\k<=12
 .have:k=1\/k=2\/k=3\/k=4\/k=5\/k=6\/k=7\/k=8\/k=9\/k=10\/k=11\/k=12:=by omega
  rcases this with rfl | rfl | rfl | rfl | rfl | rfl | rfl | rfl | rfl | rfl | rfl | rfl
  .exact WR _ _ _ _ Θ Θ
  .exact Ts _ _ _ Θ
  .exact WQ _ _
  .exact WR _ _ _ _ Θ Θ
  .exact WR _ _ _ _ Θ Θ
  .exact WR _ _ _ _ Θ Θ
  .exact Ts _ _ _ Θ
  .exact Ts _ _ _ Θ
  .exact Ts _ _ _ Θ
  .exact Ts _ _ _ Θ
  .rfl
  .exact WQ _ _
 .have e:C4 yp k=none:=by
   cases hm:C4 yp k with
   | none=>rfl
   | some v=>
    have:=MY hm;simp only[yp,zJ,Prod.mk.injEq,zct,or_false] at this;omega
  rw[e];unfold A5;repeat rw[za Δ]
theorem qw(o:k8):al o=some (A5 o.Kind o.A o.B o.C):=by
 rw[<-Rx];unfold al;rw[KB,a2D];cases h:C4 yp o.Kind with
 | none=>rfl
 | some ds=>
  obtain⟨e,r⟩:=Ve _ (MY h);rw[za Ψ];simp only[jn,un];rw[YO o ds e r,a2D];unfold wP;cases vp o ds <;> rfl
theorem Vw(n l m e:Int):dW n l m e=some (U0 n l m e):=by
 unfold dW U0;by_cases h:n<l\/n > m
 .rw[zb h,zb (Ω h)]
 .rw[za h,za (Ω h)]
theorem Re(a b c:Int):bX a b c=some (dK a b c):=by
 unfold bX dK;by_cases h:a=0
 .by_cases g:b=0
  .rw[za (Ω h),za (Ω g),za (Ω h),za (Ω g)]
  .rw[za (Ω h),zb (Ω g),za (Ω h),zb (Ω g)]
 .rw[zb (Ω h),zb (Ω h)]
theorem Mv(o:s6):fI o=some (A5 o.Kind o.A o.B o.C):=by
 unfold fI A5;simp only[Vw,Re,a2D,jn];by_cases h:1<=o.Kind/\o.Kind<=12
 .have:o.Kind=1\/o.Kind=2\/o.Kind=3\/o.Kind=4\/o.Kind=5\/o.Kind=6\/o.Kind=7\/o.Kind=8\/o.Kind=9\/o.Kind=10\/o.Kind=11\/o.Kind=12:=by omega
  rcases this with h | h | h | h | h | h | h | h | h | h | h | h <;> rw[h] <;> rfl
 .have n:∀j:Int,1<=j->j<=12->(o.Kind==j)=false:=λj e r=>by
   rw[beq_eq_false_iff_ne];omega
  simp only[n 1 Δ Δ,n 2 Δ Δ,n 3 Δ Δ,n 4 Δ Δ,n 5 Δ Δ,n 6 Δ Δ,n 7 Δ Δ,n 8 Δ Δ,n 9 Δ Δ,n 10 Δ Δ,n 11 Δ Δ,n 12 Δ Δ,zM,pu];repeat rw[za Δ]
section
variable{x:Hp} 
end
structure HT (x y:Hp):Prop where
 lv:∀h∈lv y.S,h∈lv x.S
 cP:y.S.Serial=x.S.Serial
 len:y.S.S.b7.length=x.S.S.b7.length
 ob:∀h∈Sh.lv y.S,(ob y.S h).Serial=(ob x.S h).Serial/\(Sh.ob y.S h).Prog=(Sh.ob x.S h).Prog/\(Sh.ob y.S h).Fields=(Sh.ob x.S h).Fields/\((Sh.ob x.S h).Started=true->(Sh.ob y.S h).Started=true)
 rt:y.Roots=x.Roots
 cn:y.b7.length=x.b7.length
 cl:∀i (h:i<y.b7.length) (h':i<x.b7.length),y.b7[i]=⟨x.b7[i].Target,x.b7[i].Intact&&decide (x.b7[i].Target∈Sh.lv y.S),x.b7[i].Call⟩
 q:∃l,y.Q=⟨x.Q.L++l,x.Q.Cap⟩/\(∀t∈l,t.Kind=1->t.At∈Sh.lv x.S/\(Sh.ob x.S t.At).Started=false)/\∀h∈Sh.lv y.S,(Sh.ob y.S h).Started=true->(Sh.ob x.S h).Started=false->∃t∈l,t.Kind=1/\t.At=h
 rc:∀h,gZ x.S x.T (qj x) h->gZ y.S y.T (qj y) h
 has:∀k v,Has y.T k v->Has x.T k v
theorem HT.refl{x:Hp}(hx:lS x):HT x x:=by
 refine⟨λ_ h=>h,rfl,rfl,λh _=>⟨rfl,rfl,rfl,id⟩,rfl,rfl,λi h h'=>?_,⟨[],Ψ,Ψ,λh _ a b=>?_⟩,λ_ h=>h,λ_ _ h=>h⟩
 .have:=(hx.cl i h).2.2.2.2;cases e:x.b7[i].Intact;·rw[Bool.false_and,<-e]
  .rw[zG (this e).1,zcp,<-e]
 .rw[a] at b;cases b
theorem HT.trans{x y z:Hp}(a:HT x y)(b:HT y z):HT x z:=by
 obtain⟨l1,K,N,P⟩:=a.q;obtain⟨H,R,T,V⟩:=b.q;refine⟨λh hh=>a.lv h (b.lv h hh),b.cP.trans a.cP,b.len.trans a.len,λh hh=>?_,b.rt.trans a.rt,b.cn.trans a.cn,λi h h'=>?_,⟨l1++H,?_,λt ht hk=>?_,λh hh s1 s2=>?_⟩,λh hh=>b.rc h (a.rc h hh),λk v hh=>a.has k v (b.has k v hh)⟩
 .obtain⟨C,E,F,G⟩:=b.ob h hh;obtain⟨u,w,A,B⟩:=a.ob h (b.lv h hh);exact⟨C.trans u,E.trans w,F.trans A,λq=>G (B q)⟩
 .have hy:i<y.b7.length:=by rw[a.cn];exact h'
  rw[b.cl i h hy,a.cl i hy h'];dsimp only;congr 1;rw[Bool.and_assoc];congr 1;by_cases q:x.b7[i].Target∈Sh.lv z.S
  .rw[zG q,zG (b.lv _ q)];rfl
  .rw[we q,Bool.and_false]
 .rw[R,K,zac]
 .rcases zH.1 ht with q | q
  .exact N t q hk
  .obtain⟨o,r⟩:=T t q hk;refine⟨a.lv _ o,?_⟩;cases hs:(Sh.ob x.S t.At).Started;·rfl
   .rw[(a.ob _ o).2.2.2 hs] at r;cases r
 .cases hs:(Sh.ob y.S h).Started
  .obtain⟨t,ht,e⟩:=V h hh s1 hs;exact⟨t,t6 _ ht,e⟩
  .obtain⟨t,ht,e⟩:=P h (b.lv h hh) hs s2;exact⟨t,rx _ ht,e⟩
theorem NA(s:b6)(h:Int)(o:p9):(eC s h o).S.b7.length=s.S.b7.length:=M6 ..
theorem Wm{x:Hp}(hx:M0 x){z:Int}(hz:z∈lv x.S)(hs:(ob x.S z).Started=false):HT x (kK x z):=by
 have hR:=hx.sh.sr;obtain⟨k,A,B,C,E⟩:=pe hR hz;have l1:=GP hR hz;have o:∀h∈lv x.S,(ob (kK x z).S h).Serial=(ob x.S h).Serial/\(ob (kK x z).S h).Prog=(ob x.S h).Prog/\(ob (kK x z).S h).Fields=(ob x.S h).Fields/\((ob (kK x z).S h).Started=true↔(ob x.S h).Started=true\/h=z):=λh hh=>by
  obtain⟨n,e⟩:=Cs hR hz hh;rw[e];by_cases q:h=z
  .subst q;rw[zb rfl];exact⟨rfl,rfl,rfl,Ψ⟩
  .rw[za q];exact⟨rfl,rfl,rfl,by simp[q]⟩
 have w:∀h∈qj x,h∈qj (kK x z):=λh hh=>by
  unfold qj at hh |-;rw[A,E];rcases zH.1 hh with q | q
  .exact rx _ q
  .refine t6 _ ?_;obtain⟨t,ht,a,b⟩:=np.1 q;exact np.2 ⟨t,rx _ ht,a,b⟩
 have rf:=HT.refl hx.sh;refine⟨λh hh=>by rw[l1] at hh;exact hh,k.cP,k.len.trans (NA ..),λh hh=>?_,A,by rw[B],λi h h'=>?_,⟨[Dv x z],by rw[E],λt ht hk=>?_,λh hh s1 s2=>?_⟩,λh hh=>?_,λk v hh=>by rw[C] at hh;exact hh⟩
 .rw[l1] at hh;obtain⟨a,b,c,d⟩:=o h hh;exact⟨a,b,c,λq=>d.2 (.inl q)⟩
 .have F:(kK x z).b7[i]=x.b7[i]:=by simp only[B]
  rw[F,l1];exact rf.cl i h' h'
 .rw[zu] at ht;subst ht;exact⟨hz,hs⟩
 .rw[l1] at hh;rcases (o h hh).2.2.2.1 s1 with q | q
  .rw[q] at s2;cases s2
  .exact⟨Dv x z,List.mem_singleton_self _,rfl,q.symm⟩
 .induction hh with
  | base r u=>exact .base (w _ r) (by rw[l1];exact u)
  | step h0 r u ih=>
   refine .step ih ?_ (by rw[l1];exact u);unfold outs at r |-;rw[(o _ h0.live).2.2.1];exact r
  | pair r h0 u ih=>exact .pair (by rw[C];exact r) ih (by rw[l1];exact u)
theorem UQ{x:Hp}(hx:M0 x){z:Int}(hz:z∈zr x):HT x (iU x [z]):=by
 have hR:=hx.sh.sr;have B:=(du.1 hz).1;have h0:z≠0:=λe=>gq hR (e▸B);have hfree:=HM hx hz;have hn:([z]:List Int).Nodup:=Ψ
 have hm:∀d ∈ [z],d∈lv x.S:=Ω B
 have g:=gb [z] hR hn hm;have k:=(jE ([z].flatMap (outs x.S)++(mY x.T [z]).2) (x:=kU x [z] (mY x.T [z]).1) g.sr).1;obtain⟨H,K,N,P⟩:=uV hR hn hm;obtain⟨_,w2,_,_,R,w6⟩:=lL hx.sh.hr [z] Ψ;have l1:∀h,h∈lv (iU x [z]).S↔h∈lv x.S/\h≠z:=λh=>by
  rw[Ku hR hn hm,zj,zE,zu]
 have u:∀h∈lv (iU x [z]).S,(ob (iU x [z]).S h).Serial=(ob x.S h).Serial/\(ob (iU x [z]).S h).Prog=(ob x.S h).Prog/\(ob (iU x [z]).S h).Fields=(ob x.S h).Fields/\(ob (iU x [z]).S h).Started=(ob x.S h).Started:=λh hh=>by
  obtain⟨a,b⟩:=(l1 h).1 hh;obtain⟨n,e⟩:=Kv hR hn hm a (Ω b);rw[e];exact⟨rfl,rfl,rfl,rfl⟩
 refine⟨λh hh=>((l1 h).1 hh).1,k.cP.trans g.cP,k.len.trans g.len,λh hh=>?_,H,by rw[K];simp[hU],λi h h'=>?_,⟨jf x.b7 [z],by rw[P],λt ht hk=>?_,λh hh s1 s2=>?_⟩,λh hh=>?_,λk v hh=>?_⟩
 .obtain⟨a,b,c,d⟩:=u h hh;exact⟨a,b,c,λq=>d.trans q⟩
 .have V:(iU x [z]).b7[i]=qx [z] x.b7[i]:=by
   simp only[K];exact zx _
  rw[V];have hc:=(hx.sh.cl i h').2.2.2.2;unfold qx gi;cases E:x.b7[i].Intact;·rw[za Ψ,Bool.false_and,<-E]
  .have ht:=(hc E).1;have ht0:x.b7[i].Target≠0:=λe=>gq hR (e▸ht);by_cases q:x.b7[i].Target=z
   .rw[zb (by simp[q,h0]),we (λr=>((l1 _).1 r).2 q)];rfl
   .rw[za (by simp[q]),zG ((l1 _).2 ⟨ht,q⟩),zcp,<-E]
 .obtain⟨w,hw,rfl,_,_⟩:=mg.1 ht;simp at hk
 .rw[(u h hh).2.2.2,s2] at s1;cases s1
 .unfold ny at hfree;have key:gZ (iU x [z]).S (iU x [z]).T (qj (iU x [z])) h/\h≠z:=by
   induction hh with
   | base C h2=>
    rename_i a;have o:a≠z:=λe=>by
     subst e;exact JN h0 (by omega:L0 (qj x) a=0) C
    refine⟨.base ?_ ((l1 _).2 ⟨h2,o⟩),o⟩;unfold qj at C |-;rw[H,P,BS _ _ _ λt ht=>by
     obtain⟨w,_,rfl,_⟩:=mg.1 ht;simp]
    exact C
   | step F A G ih=>
    rename_i a b;have o:b≠z:=λe=>by
     subst e;have:=Gq (y:=b) F.live;have C:=gT.2 ⟨h0,A⟩;omega
    refine⟨.step ih.1 ?_ ((l1 _).2 ⟨G,o⟩),o⟩;unfold outs at A |-;rw[(u _ ((l1 _).2 ⟨F.live,ih.2⟩)).2.2.1];exact A
   | pair A F G ih=>
    rename_i a b;have o:b≠z:=λe=>by
     subst e;have:=GM A h0;omega
    exact⟨.pair (by rw[N];exact (R _ _).2 ⟨Ω ih.2,A⟩) ih.1 ((l1 _).2 ⟨G,o⟩),o⟩
  exact key.1
 .rw[N] at hh;exact ((R _ _).1 hh).2
theorem WJ{x:Hp}(hx:M0 x):HT x (JY x):=by
 cases h:zr x with
 | nil=>rw[pE h];exact HT.refl hx.sh
 | cons z l=>
  have hz:z∈zr x:=by rw[h];exact zh ..
  rw[lH h];split
  .rename_i q;unfold due at q;rw[zB,zE,zcd] at q;exact Wm hx (du.1 hz).1 q.2
  .exact UQ hx hz
theorem WH{x:Hp}(hx:M0 x)(n:Nat):HT x (lG n x):=by
 induction n with
 | zero=>exact HT.refl hx.sh
 | succ n ih=>rw[gR];exact ih.trans (WJ (M9 hx n))
theorem nR{x:Hp}(hx:M0 x):HT x (cy x):=WH hx 100
theorem AH{T E R:Type}{f:T × Int->Option ((T × Int) ⊕ E)}{t0:T}{κ:E->Option R}{r:R}(n:Nat)(P:Nat->T->Prop)(hn:n<4611686018427387904)(h0:P 0 t0)
  (hs:∀k t,k<n->P k t->∃t',f (t,(k:Int))=some (.inl (t',((k+1:Nat):Int)))/\P (k+1) t')(he:∀t,P n t->∃e,f (t,(n:Int))=some (.inr e)/\κ e=some r):(lp f (t0,0)).bind κ=some r:=by
 refine VF (λ(s:T × Int)=>∃k:Nat,s.2=(k:Int)/\k<=n/\P k s.1) (λs=>n-s.2.toNat) ⟨0,rfl,zU _,h0⟩ (by show n-_<_;omega) ?_;rintro⟨t,_⟩ ⟨k,rfl,hk,u⟩;rcases zI k n with o | o
 .obtain⟨t',k1,k2⟩:=hs k t o u;exact .inl ⟨_,k1,⟨k+1,rfl,o,k2⟩,by show n-_<n-_;simp;omega⟩
 .have:k=n:=by omega
  subst this;exact .inr (he t u)
section
variable{x:Hp} 
end
structure Ks (s s':b6):Prop where
 sr:SR s'
 cP:s'.Serial=s.Serial
 lv:lv s'=lv s
 ob:∀h∈Sh.lv s,(ob s' h).Serial=(ob s h).Serial
theorem Ks.refl{s:b6}(hR:SR s):Ks s s:=⟨hR,rfl,rfl,λ_ _=>rfl⟩
theorem Ks.trans{a b c:b6}(h:Ks a b)(q:Ks b c):Ks a c:=⟨q.sr,q.cP.trans h.cP,q.lv.trans h.lv,λk hk=>(q.ob k (by rw[h.lv];exact hk)).trans (h.ob k hk)⟩
theorem yl.ks{s s':b6}(hR:SR s)(k:yl s s'):Ks s s':=⟨k.sr,k.cP,k.lv,λh hh=>by
 obtain⟨n,e⟩:=k.ob h Ωv;rw[e]⟩
theorem Kn.ks{s s':b6}(k:Kn s s')(e:s'.Serial=s.Serial):Ks s s':=⟨k.sr,e,k.lv,λh hh=>by
 obtain⟨n,m,e⟩:=k.ob h hh;rw[e]⟩
theorem ZM{s:b6}(hR:SR s){h:Int}(hh:h∈lv s){o:p9}(hs:o.Serial=(ob s h).Serial)(ho:Ds s o):Ks s (eC s h o):=⟨dh hR hh hs ho,rfl,jW hR hh hs ho,λk hk=>by
 rw[iI hR hh hs ho (by have:=L5 hR hk;omega)];split;·rename_i e;subst e;exact hs
 .rfl⟩
theorem Ho{x:Hp}(hR:SR x.S)(h:Int):Ks x.S (I3 x h).S:=(K9 hR h λc=>H5).ks hR
theorem Hl{x:Hp}(hR:SR x.S)(h:Int):Ks x.S (bD x h).S:=(K9 hR h λc=>U2).ks hR
theorem CI(x:Hp)(h:Int):(bD x h).Roots=x.Roots/\(bD x h).b7=x.b7/\(bD x h).T=x.T/\(bD x h).Q=x.Q:=CU x h mJ
theorem gL{x:Hp}(hR:SR x.S)(r:Nat)(h:Int):Ks x.S (K1 x r h).S:=
 (Ho hR h).trans (Hl (x:=wR (I3 x h) (x.Roots.set r h)) (mT hR h) _)
theorem Em{x:Hp}(hR:SR x.S){h:Int}(hh:h∈lv x.S){n:Nat}(hn:n<(ob x.S h).Fields.length)(v:Int):Ks x.S (cW x h n v).S:=by
 have k1:=Ho hR v;have r:h∈lv (I3 x v).S:=by rw[k1.lv];exact hh
 have u:(ob (I3 x v).S h).Fields=(ob x.S h).Fields:=by
  obtain⟨n,e⟩:=(K9 hR v (f:=aK) λc=>H5).ob h Ωv;show (ob (wK x v aK).S h).Fields=_;rw[e]
 have ho:Ds (I3 x v).S (ub (ob (I3 x v).S h) ((ob x.S h).Fields.set n v)):=by
  have:=N7 k1.sr r;refine⟨this.s1,this.s2,this.st,this.wk,this.p1,this.p2,?_⟩;have w:=this.fl;rw[u] at w;simpa using w
 have k2:=ZM (o:=ub (ob (I3 x v).S h) ((ob x.S h).Fields.set n v)) k1.sr r rfl ho;exact (k1.trans k2).trans (Hl (x:=wS (I3 x v) (eC (I3 x v).S h (ub (ob (I3 x v).S h) ((ob x.S h).Fields.set n v)))) k2.sr _)
theorem qG(x:Hp)(h:Int)(n:Nat)(v:Int):(cW x h n v).Roots=x.Roots/\(cW x h n v).b7=x.b7/\(cW x h n v).T=x.T/\(cW x h n v).Q=x.Q:=by
 obtain⟨a,b,c,d⟩:=CI (wS (I3 x v) (eC (I3 x v).S h (ub (ob (I3 x v).S h) ((ob x.S h).Fields.set n v)))) ((ob x.S h).Fields.getD n 0);obtain⟨e,o,r,d'⟩:=CL x v;exact⟨a.trans e,b.trans o,c.trans r,d.trans d'⟩
theorem Je{x:Hp}(hR:SR x.S)(v:Int)(t:Tb)(old:Int):Ks x.S (kc x v t old).S:=
 (Ho hR v).trans (Hl (x:=wT (I3 x v) t) (mT hR v) old)
theorem ur(x:Hp)(v:Int)(t:Tb)(old:Int):(kc x v t old).Roots=x.Roots/\(kc x v t old).b7=x.b7/\(kc x v t old).T=t/\(kc x v t old).Q=x.Q:=by
 obtain⟨a,b,c,d⟩:=CI (wT (I3 x v) t) old;obtain⟨e,o,r,d'⟩:=CL x v;exact⟨a.trans e,b.trans o,c,d.trans d'⟩
theorem Yy{s:b6}(hR:SR s){i:Nat}(hi:i<s.S.b7.length)(e:(ce s i).State=2):Ks s (HP s i):=⟨Gi hR hi,rfl,Gf hR hi e,λh hh=>by rw[Gg hR hi e hh]⟩
theorem YU{x:Hp}(hR:SR x.S)(h:Int){d:Int}(hd:Y1 x.S h (F9 h)->0<=(ce x.S (F9 h)).Val.Weak+d):Ks x.S (lQ x h d).S:=by
 unfold lQ;split
 .rename_i q;exact (oV hR q.1 q.2.1 (hd q)).ks rfl
 .exact Ks.refl hR
theorem RN(x:Hp)(h d:Int):(lQ x h d).Roots=x.Roots/\(lQ x h d).b7=x.b7/\(lQ x h d).T=x.T/\(lQ x h d).Q=x.Q:=by
 unfold lQ;split <;> exact⟨rfl,rfl,rfl,rfl⟩
theorem Px(x:Hp)(h:Int):(rK x h).Roots=x.Roots/\(rK x h).b7=x.b7/\(rK x h).T=x.T/\(rK x h).Q=x.Q:=by
 unfold rK;split;·split <;> exact⟨rfl,rfl,rfl,rfl⟩
 .exact⟨rfl,rfl,rfl,rfl⟩
theorem NH{x:Hp}(hR:SR x.S)(h:Int)(hd:Y1 x.S h (F9 h)->1<=(ce x.S (F9 h)).Val.Weak):Ks x.S (rK x h).S:=by
 unfold rK;split
 .rename_i q;have hd:=hd q;have kn:=oV (d:=-1) hR q.1 q.2.1 Δ;split
  .rename_i c;have o:F9 h<(nq x.S (F9 h) (-1)).S.b7.length:=by rw[kn.len];exact q.1
   have e:ce (nq x.S (F9 h) (-1)) (F9 h)=⟨(ce x.S (F9 h)).State,(ce x.S (F9 h)).Gen,wkg (ce x.S (F9 h)).Val ((ce x.S (F9 h)).Val.Weak + -1)⟩:=by
    rw[gx hR q.1 q.2.1,zb rfl]
   have r:(ce (nq x.S (F9 h) (-1)) (F9 h)).State=2:=by rw[e];exact c.1
   exact (kn.ks rfl).trans (Yy kn.sr o r)
  .exact kn.ks rfl
 .exact Ks.refl hR
theorem JQ{x:Hp}(hx:M0 x){n:Nat}(hn:n<6)(h call:Int):Ks x.S (dO x n h call).S:=by
 have hR:=hx.sh.sr;have hnl:n<x.b7.length:=by have:=hx.sh.c6;omega
 have ok:∀k i,Y1 x.S k i->0<=(ce x.S i).Val.Weak:=λk i q=>(hR.ok i q.1 q.2.1).wk;have tw:∀i,Y1 x.S (nU x n) i->1<=(ce x.S i).Val.Weak:=λi q=>by
  have o:nU x n=x.b7[n].Target:=by
   unfold nU;rw[zd,zc hnl];rfl
  have r:=q.PD hR;have p:=vY hnl (by rw[<-o];omega);rw[<-o,q.2.2] at p;have:=(hx.wk i q.1 q.2.1).1;omega
 unfold dO;have s1:Ks x.S (lQ (wC x (x.b7.set n (fR h call))) h 1).S:=YU (x:=wC x (x.b7.set n (fR h call))) hR h λq=>by
  have:=ok _ _ q;dsimp only;omega
 by_cases q:Y1 x.S h (F9 h)
 .have e:lQ (wC x (x.b7.set n (fR h call))) h 1=wS (wC x (x.b7.set n (fR h call))) (nq x.S (F9 h) 1):=by
   unfold lQ;rw[zb q]
  have hd:=ok _ _ q;have kn:=oV (d:=1) hR q.1 q.2.1 Δ;rw[e] at s1 |-;refine s1.trans (NH (x:=wS (wC x (x.b7.set n (fR h call))) (nq x.S (F9 h) 1)) kn.sr _ λu=>?_);dsimp only at u |-;have w:=(kn.ad _ _).1 u;have:=tw _ w;rw[gx hR q.1 q.2.1];split
  .rename_i v;rw[v] at this;show 1<=(ce x.S (F9 h)).Val.Weak+1;omega
  .exact this
 .have e:lQ (wC x (x.b7.set n (fR h call))) h 1=wC x (x.b7.set n (fR h call)):=by
   unfold lQ;rw[za q]
  rw[e] at s1 |-;exact s1.trans (NH (x:=wC x (x.b7.set n (fR h call))) hR _ λu=>tw _ u)
theorem Di(x:Hp)(n:Nat)(h call:Int):(dO x n h call).Roots=x.Roots/\(dO x n h call).b7=x.b7.set n (fR h call)/\(dO x n h call).T=x.T/\(dO x n h call).Q=x.Q:=by
 obtain⟨a,b,c,d⟩:=Px (lQ (wC x (x.b7.set n (fR h call))) h 1) (nU x n);obtain⟨e,o,r,d'⟩:=RN (wC x (x.b7.set n (fR h call))) h 1;exact⟨a.trans e,b.trans o,c.trans r,d.trans d'⟩
abbrev nwo(s:b6)(n:Nat)(p:Int):p9:=⟨s.Serial+1,0,0,p,false,List.replicate n 0⟩
def eh(s:b6)(i n:Nat)(p:Int):b6:=⟨⟨s.S.b7.set i ⟨1,(ce s i).Gen,nwo s n p⟩,s.S.Last⟩,s.Serial+1⟩
section
variable{s:b6}(hR:SR s){i:Nat}(hi:i<s.S.b7.length)(h0:(ce s i).State=0){n:Nat}(hn:n<=4){p:Int}(hp : -1<=p/\p<=5)
include hR hi h0 hn hp
theorem lj:(eh s i n p).S.b7.length=s.S.b7.length:=by simp[eh]
theorem nr(j:Nat):ce (eh s i n p) j=if j=i then ⟨1,(ce s i).Gen,nwo s n p⟩ else ce s j:=BP hi _ _ j
theorem IY:SR (eh s i n p):=by
 have o:=hR.cP;have hc:=hR.cell i hi;have r:¬Th (ce s i):=λh=>by
  rcases h with h | h <;> omega
 refine⟨by rw[lj hR hi h0 hn hp];exact hR.len,hR.l0,hR.l9,by show 0<=s.Serial+1;omega,λj hj=>?_,λj hj ht=>?_,λj hj ht=>?_,λj k hj hk a b e=>?_⟩
 .rw[lj hR hi h0 hn hp] at hj;rw[nr hR hi h0 hn hp];split;·exact⟨show (0:Int)<=1 by decide,show (1:Int)<=3 by decide,hc.2.2.1,hc.2.2.2⟩
  .exact hR.cell j hj
 .rw[lj hR hi h0 hn hp] at hj;rw[nr hR hi h0 hn hp] at ht |-;split at ht;·exact absurd (.inl rfl) ht
  .rename_i e;rw[za e];exact hR.no j hj ht
 .rw[lj hR hi h0 hn hp] at hj;rw[nr hR hi h0 hn hp] at ht |-;split at ht
  .rename_i e;rw[zb e];exact⟨by show 1<=s.Serial+1;omega,zan _,zan 0,zan 0,hp.1,hp.2,Ω hn⟩
  .rename_i e;rw[za e];have:=hR.ok j hj ht;exact⟨this.s1,by show _<=s.Serial+1;have:=this.s2;omega,this.st,this.wk,this.p1,this.p2,this.fl⟩
 .rw[lj hR hi h0 hn hp] at hj hk;rw[nr hR hi h0 hn hp] at a e;rw[nr hR hi h0 hn hp] at b e;have old:∀m,m<s.S.b7.length->Th (ce s m)->(ce s m).Val.Serial≠s.Serial+1:=λm hm t q=>by
   have:=(hR.ok m hm t).s2;omega
  by_cases ej:j=i <;> by_cases ek:k=i
  .rw[ej,ek]
  .rw[za ek] at b e;rw[zb ej] at e;exact absurd e.symm (old k hk b)
  .rw[za ej] at a e;rw[zb ek] at e;exact absurd e (old j hj a)
  .rw[za ej] at a e;rw[za ek] at b e;exact hR.dif j k hj hk a b e
theorem Ci{k:Int}{j:Nat}(q:Y1 s k j):j≠i:=λe=>by
 subst e;rcases q.2.1 with h | h <;> omega
theorem RL{k:Int}{j:Nat}:Y1 (eh s i n p) k j↔Y1 s k j\/(j=i/\k=cY s i):=by
 unfold Y1;rw[lj hR hi h0 hn hp,nr hR hi h0 hn hp];by_cases e:j=i
 .rw[zb e];subst e;constructor
  .rintro⟨a,b,c⟩;exact .inr ⟨rfl,c⟩
  .rintro (⟨a,b,c⟩ | ⟨_,c⟩);·exact absurd rfl (Ci hR hi h0 hn hp ⟨a,b,c⟩)
   .exact⟨hi,.inl rfl,c⟩
 .rw[za e];constructor;·exact .inl
  .rintro (h | ⟨h,_⟩);·exact h
   .exact absurd h e
theorem Ch:lv (eh s i n p)=lv s ++ [cY s i]:=by
 have e:=KP (s:=s) (D5.2 hR) hi (by rw[<-X5 hi];exact h0) (nwo s n p) rfl (Gt (D5.2 hR));unfold eh;rw[show (ce s i).Gen=s.S.b7[i].Gen by rw[X5 hi]];have o:cY s i=1+(i:Int)+32*s.S.b7[i].Gen:=by unfold cY;rw[X5 hi]
 rw[o];have:=Gt (D5.2 (by have:=IY hR hi h0 hn hp;unfold eh at this;rw[show (ce s i).Gen=s.S.b7[i].Gen by rw[X5 hi]] at this;exact this));rw[e] at this;exact (zK this).symm
theorem RM:cY s i∉lv s:=λh=>by
 obtain⟨j,q⟩:=(lf hR).1 h;have:i=j:=by
  have a:=q.2.2;have b:=q.1;unfold cY at a;have:=hR.len;omega
 subst this;have:=q.2.1;omega
theorem EN{k:Int}(hk:k∈lv s):ob (eh s i n p) k=ob s k:=by
 obtain⟨j,q⟩:=(lf hR).1 hk;have hj:=Ci hR hi h0 hn hp q.d;have e:At (eh s i n p) k j:=by
  refine⟨by rw[lj hR hi h0 hn hp];exact q.1,?_,?_⟩ <;> rw[nr hR hi h0 hn hp,za hj]
  .exact q.2.1
  .exact q.2.2
 rw[J2 (IY hR hi h0 hn hp) e,J2 hR q,nr hR hi h0 hn hp,za hj]
theorem xH:ob (eh s i n p) (cY s i)=nwo s n p:=by
 have e:At (eh s i n p) (cY s i) i:=by
  refine⟨by rw[lj hR hi h0 hn hp];exact hi,?_,?_⟩ <;> rw[nr hR hi h0 hn hp,zb rfl]
  rfl
 rw[J2 (IY hR hi h0 hn hp) e,nr hR hi h0 hn hp,zb rfl]
end
theorem HB{l:List Int}{h:Int}(e:h∉l):L0 l h=0:=Nat.eq_zero_of_not_pos λq=>e (gT.1 q).2
variable {x y z:Hp}{a b c:Int}
theorem vN(hx:M0 x){i:Nat}(hi:i<x.S.S.b7.length)(h0:(ce x.S i).State=0){n:Nat}(hn:n<=4){p:Int}(hp : -1<=p/\p<=5):M0 (wS x (eh x.S i n p)):=by
 have hR:=hx.sh.sr;have hS:=IY hR hi h0 hn hp;have hl:=Ch hR hi h0 hn hp;have o:=RM hR hi h0 hn hp;have mem:∀ {k},k∈lv x.S->k∈lv (eh x.S i n p):=λhk=>by rw[hl];exact rx _ hk
 have mem0:∀ {k},k=0\/k∈lv x.S->k=0\/k∈lv (eh x.S i n p):=λhk=>hk.imp id mem;have hpos:=vA hR hi;have split:∀ {k},k∈lv (eh x.S i n p)->k∈lv x.S\/k=cY x.S i:=λhk=>by
  rw[hl] at hk;rcases zH.1 hk with q | q
  .exact .inl q
  .exact .inr (zu.1 q)
 have rep:∀v∈List.replicate n (0:Int),v=0:=λv hv=>(zbi.1 hv).2;have ntgt:∀j (hj:j<x.b7.length),x.b7[j].Target≠cY x.S i:=λj hj e=>by
  obtain⟨q,hq⟩:=(hx.sh.cl j hj).2.2.2.1 (by rw[e];omega);rw[e] at hq;have:q=i:=by
   have a:=hq.2.2;have b:=hq.1;unfold cY at a;have:=hR.len;omega
  exact Ci hR hi h0 hn hp hq this
 refine⟨⟨hS,hx.sh.hr,hx.sh.r6,hx.sh.c6,hx.sh.cap,hx.sh.q30,λt ht=>?_,hx.sh.td,λh hh=>mem0 (hx.sh.rt h hh),λh hh v hv=>?_,λk v hk=>?_,λj hj=>?_⟩,λj hj ht=>?_,λh hh hs=>?_⟩
 .obtain⟨a,b,c⟩:=hx.sh.tk t ht;refine⟨a,b,c.imp (λ⟨d,e,f⟩=>⟨d,mem e,?_⟩) id⟩;show (ob (eh x.S i n p) t.At).Started=true;rw[EN hR hi h0 hn hp e];exact f
 .rcases split hh with q | q
  .have r:v∈(ob (eh x.S i n p) h).Fields:=hv;rw[EN hR hi h0 hn hp q] at r;exact mem0 (hx.sh.fl h q v r)
  .subst q;have r:v∈(ob (eh x.S i n p) (cY x.S i)).Fields:=hv;rw[xH hR hi h0 hn hp] at r;exact .inl (rep v r)
 .obtain⟨a,b⟩:=hx.sh.pr k v hk;exact⟨mem a,mem b⟩
 .obtain⟨a,b,c,d,e⟩:=hx.sh.cl j hj;refine⟨a,b,c,λq=>?_,λq=>⟨mem (e q).1,(e q).2⟩⟩;obtain⟨m,hm⟩:=d q;exact⟨m,(RL hR hi h0 hn hp).2 (.inl hm)⟩
 .have E:j<x.S.S.b7.length:=by have:j<(eh x.S i n p).S.b7.length:=hj;rwa [lj hR hi h0 hn hp] at this
  show (ce (eh x.S i n p) j).Val.Weak=(iZ x.b7 (1+(j:Int)+32*(ce (eh x.S i n p) j).Gen):Int)/\_;have u:Th (ce (eh x.S i n p) j):=ht;rw[nr hR hi h0 hn hp] at u |-;by_cases e:j=i
  .subst e;rw[zb rfl];refine⟨?_,λq=>absurd (show (1:Int)=2 from q) Θ⟩;show (0:Int)=(iZ x.b7 (cY x.S j):Int);have:iZ x.b7 (cY x.S j)=0:=by
    unfold iZ;rw[List.countP_eq_zero];intro c hc;obtain⟨m,hm,rfl⟩:=u8 hc;have:=ntgt m hm;simp[this]
   rw[this];rfl
  .rw[za e] at u |-;exact hx.wk j E u
 .have A:∀y,na (eh x.S i n p) y=na x.S y:=λy=>by
   unfold na;rw[hl,zV,List.sum_append];have H:(lv x.S).map (λk=>L0 (outs (eh x.S i n p) k) y)=(lv x.S).map λk=>L0 (outs x.S k) y:=zt λk hk=>by
    unfold outs;rw[EN hR hi h0 hn hp hk]
   rw[H];have K:outs (eh x.S i n p) (cY x.S i) = []:=by
    refine zba.2 λv hv=>?_;have w:=ln.1 hv;rw[xH hR hi h0 hn hp] at w;exact w.2 (rep v w.1)
   simp[K,H6]
  have G:∀y,ny (wS x (eh x.S i n p)) y=ny x y:=λy=>by
   unfold ny;show na (eh x.S i n p) y+own x.T y+L0 (qj x) y=_;rw[A]
  rw[G];have B:(ob (eh x.S i n p) h).Strong<12:=hs;show (ob (eh x.S i n p) h).Strong=_;rcases split hh with q | q
  .rw[EN hR hi h0 hn hp q] at B |-;exact hx.fair h q B
  .subst q;rw[xH hR hi h0 hn hp];have w:ny x (cY x.S i)=0:=by
    unfold ny;have N:na x.S (cY x.S i)=0:=by
     unfold na;have:=LA (λk=>L0 (outs x.S k) (cY x.S i)) 0 (lv x.S) λk hk=>Nat.le_of_eq<|HB λq=>by
      have C:=ln.1 q;rcases hx.sh.fl k hk _ C.1 with e | e
      .exact C.2 e
      .exact o e
     omega
    have P:own x.T (cY x.S i)=0:=by
     unfold own;rw[List.countP_eq_zero];intro c hc;have:=(hx.sh.pr _ _ (gw.1 hc)).2;have F:c.Val≠cY x.S i:=λe=>o (e▸this);simp[F]
    have R:L0 (qj x) (cY x.S i)=0:=HB λq=>by
     unfold qj at q;rcases zH.1 q with q | q
     .have C:=ln.1 q;rcases hx.sh.rt _ C.1 with e | e
      .exact C.2 e
      .exact o e
     .obtain⟨t,ht,k1,k2⟩:=np.1 q;rcases (hx.sh.tk t ht).2.2 with ⟨_,b,_⟩ | ⟨b,_⟩;·exact o (k2▸b)
      .omega
    omega
   rw[w,H6];rfl
structure Ev (x y:Hp):Prop where
 lv:∀h∈lv y.S,(h∈Sh.lv x.S/\(ob y.S h).Serial=(ob x.S h).Serial)\/(h∉Sh.lv x.S/\(ob y.S h).Serial=x.S.Serial+1)
 s1:x.S.Serial<=y.S.Serial
 s2:y.S.Serial<=x.S.Serial+1
theorem Ev.refl(x:Hp):Ev x x:=⟨λh hh=>.inl ⟨hh,rfl⟩,Δ,Δ⟩
theorem Ks.ev(k:Ks x.S y.S):Ev x y:=⟨λh hh=>by
 rw[k.lv] at hh;exact .inl ⟨hh,k.ob h hh⟩,by rw[k.cP];omega,by rw[k.cP];omega⟩
theorem Ev.ks(e:Ev x y)(k:Ks y.S z.S):Ev x z:=⟨λh hh=>by
 rw[k.lv] at hh;rw[k.ob h hh];exact e.lv h hh,by rw[k.cP];exact e.s1,by rw[k.cP];exact e.s2⟩
theorem Ev.stl(e:Ev x y)(s:HT y z):Ev x z:=⟨λh hh=>by
 rw[(s.ob h hh).1];exact e.lv h (s.lv h hh),by rw[s.cP];exact e.s1,by rw[s.cP];exact e.s2⟩
theorem a0Z(hx:M0 x){i:Nat}(hi:i<x.S.S.b7.length)(h0:(ce x.S i).State=0){n:Nat}(hn:n<=4){p:Int}(hp : -1<=p/\p<=5):Ev x (wS x (eh x.S i n p)):=⟨λh hh=>by
 have hR:=hx.sh.sr;have e:h∈lv (eh x.S i n p):=hh;show (_/\(ob (eh x.S i n p) h).Serial=_)\/_/\(ob (eh x.S i n p) h).Serial=_;rw[Ch hR hi h0 hn hp] at e;rcases zH.1 e with q | q
 .exact .inl ⟨q,by rw[EN hR hi h0 hn hp q]⟩
 .rw[zu.1 q];exact .inr ⟨RM hR hi h0 hn hp,by rw[xH hR hi h0 hn hp]⟩,by show _<=x.S.Serial+1;omega,zan _⟩
def Cw(x y:Hp)(w:Int):Prop:=∀i:Nat,(i:Int)≠w->(y.b7.getD i cz).Target=(x.b7.getD i cz).Target/\((y.b7.getD i cz).Intact=true->(x.b7.getD i cz).Intact=true)
theorem Cw.refl(x:Hp)(w:Int):Cw x x w:=λi _=>⟨rfl,id⟩
theorem Cw.same(h:y.b7=x.b7)(w:Int):Cw x y w:=λi _=>by rw[h];exact⟨rfl,id⟩
theorem Cw.trans{w:Int}(a:Cw x y w)(b:Cw y z w):Cw x z w:=λi hi=>⟨(b i hi).1.trans (a i hi).1,λq=>(a i hi).2 ((b i hi).2 q)⟩
theorem HT.cw(s:HT x y)(w:Int):Cw x y w:=λi _=>by
 by_cases h:i<x.b7.length
 .have h':i<y.b7.length:=by rw[s.cn];exact h
  rw[ME h,ME h',s.cl i h' h];exact⟨rfl,λq=>(zB _ _▸q).1⟩
 .have h':¬i<y.b7.length:=by rw[s.cn];exact h
  rw[zd,zd,zab Δ,zab Δ];exact⟨rfl,id⟩
theorem Cw.set{w:Nat}{c:l4}(h:y.b7=x.b7.set w c):Cw x y w:=λi hi=>by
 rw[h,zd,zd,List.getElem?_set_ne Δ];exact⟨rfl,id⟩
def Fst(s:b6)(i:Nat):Prop:=i<s.S.b7.length/\(ce s i).State=0/\∀j,j<i->(ce s j).State≠0
theorem MW{s:b6}(hR:SR s)(hb:s.Serial<9223372036854775807)(a p:Int) :
  (¬(0<=a/\a<=4)/\aw s a p=some (s,0,1)) \/
  ((0<=a/\a<=4)/\¬(-1<=p/\p<=5)/\aw s a p=some (s,0,13)) \/
  ((0<=a/\a<=4)/\(-1<=p/\p<=5)/\(∀i,i<s.S.b7.length->(ce s i).State≠0)/\aw s a p=some (s,0,4)) \/
  ((0<=a/\a<=4)/\(-1<=p/\p<=5)/\∃i,Fst s i/\aw s a p=some (eh s i a.toNat p,cY s i,0)):=by
 have w:=hR.cP;have o:=D5.2 hR;unfold aw sI;by_cases ha:0<=a/\a<=4
 .right;obtain⟨r,u⟩:=ha;obtain⟨n,rfl⟩:∃n:Nat,a=n:=⟨a.toNat,Δ⟩;rw[za Ξ,ka Δ Δ];simp only[a2D];by_cases hp : -1<=p/\p<=5
  .right;unfold ah;simp only[a2D];have v:(decide (p >= -1)&&decide (p<6))=true:=by simp;omega
   rw[v];have hl:SlO s.S:=⟨rq o,o.l0,o.l9,λi hi=>Hn o i hi⟩;rcases Hy hl ⟨s.Serial+1,0,0,p,false,List.replicate n 0⟩ with ⟨i,hi,h0,hf,e⟩ | ⟨hf,e⟩
   .right;refine⟨⟨r,u⟩,hp,i,⟨hi,by rw[X5 hi];exact h0,λj hj=>by rw[X5 Δ];exact hf j hj⟩,?_⟩;simp only[zbm,zM,pu,za2];rw[show y4 (s.Serial+1)=s.Serial+1 from Y8 Δ Δ,e];unfold eh cY;rw[X5 hi];simp
   .left;refine⟨⟨r,u⟩,hp,λi hi=>by rw[X5 hi];exact hf i hi,?_⟩;simp only[zbm,zM,pu,za2];rw[show y4 (s.Serial+1)=s.Serial+1 from Y8 Δ Δ,e];simp
  .left;refine⟨⟨r,u⟩,hp,?_⟩;unfold ah;simp only[a2D];have v:(decide (p >= -1)&&decide (p<6))=false:=by rw[zcc];simp;omega
   rw[v];simp
 .left;refine⟨ha,?_⟩;rw[zb Ξ];simp
def sd(x:Hp)(r:Int):Int:=if r<0 then 0 else x.Roots.getD r.toNat 0
def Dt(x:Hp)(r:Int):Int × Int:=if sd x r=0 then (0,2) else (sd x r,0)
def cP(x:Hp)(h:Int):Int:=(ob x.S h).Serial
theorem EA{n l m e:Int}(he:e≠0)(h:U0 n l m e=0):l<=n/\n<=m:=by
 unfold U0 at h;split at h;·exact absurd h he
 .omega
theorem KJ(h:dK a b c=0):a=0/\b=0/\c=0:=by
 unfold dK at h;split at h;·contradiction
 .split at h;·contradiction
  .omega
theorem sb{k:Int}(h:A5 k a b c=0):1<=k/\k<=12:=by
 refine Decidable.byContradiction λq=>?_;have:A5 k a b c=14:=by
  unfold A5;repeat rw[za Δ]
 omega
theorem UT(h:A5 1 a b c=0):(0<=a/\a<=5)/\(0<=b/\b<=4) /\ -1<=c/\c<=5:=by
 obtain⟨e,o,r⟩:=KJ (show dK (U0 a 0 5 6) (U0 b 0 4 1) (U0 c (-1) 5 13)=0 from h);exact⟨EA Θ e,EA Θ o,EA Θ r⟩
theorem On(h:A5 2 a b c=0):(0<=a/\a<=5)/\(0<=b/\b<=5):=by
 obtain⟨e,o,_⟩:=KJ (show dK (U0 a 0 5 6) (U0 b 0 5 6) 0=0 from h);exact⟨EA Θ e,EA Θ o⟩
theorem Yg(h:A5 3 a b c=0):0<=a/\a<=5:=EA Θ (show U0 a 0 5 6=0 from h)
theorem QA(h:A5 4 a b c=0):(0<=a/\a<=5)/\(0<=b/\b<=5)/\0<=c/\c<=3:=by
 obtain⟨e,o,r⟩:=KJ (show dK (U0 a 0 5 6) (U0 b 0 5 6) (U0 c 0 3 5)=0 from h);exact⟨EA Θ e,EA Θ o,EA Θ r⟩
theorem UU(h:A5 5 a b c=0):(0<=a/\a<=5)/\(0<=b/\b<=3) /\ -1<=c/\c<=5:=by
 obtain⟨e,o,r⟩:=KJ (show dK (U0 a 0 5 6) (U0 b 0 3 5) (U0 c (-1) 5 6)=0 from h);exact⟨EA Θ e,EA Θ o,EA Θ r⟩
theorem QB(h:A5 6 a b c=0):(0<=a/\a<=5)/\(-1<=b/\b<=5) /\ -1<=c/\c<=5:=by
 obtain⟨e,o,r⟩:=KJ (show dK (U0 a 0 5 7) (U0 b (-1) 5 6) (U0 c (-1) 5 13)=0 from h);exact⟨EA Θ e,EA Θ o,EA Θ r⟩
theorem QC(h:A5 7 a b c=0):(0<=a/\a<=5)/\(0<=b/\b<=5):=by
 obtain⟨e,o,_⟩:=KJ (show dK (U0 a 0 5 6) (U0 b 0 5 7) 0=0 from h);exact⟨EA Θ e,EA Θ o⟩
theorem UW(h:A5 8 a b c=0):(0<=a/\a<=5)/\(-1<=b/\b<=5):=by
 obtain⟨e,o,_⟩:=KJ (show dK (U0 a 0 5 6) (U0 b (-1) 5 6) 0=0 from h);exact⟨EA Θ e,EA Θ o⟩
theorem QD(h:A5 9 a b c=0):(0<=a/\a<=5)/\(0<=b/\b<=5):=On (show A5 2 a b c=0 from h)
theorem Qz(h:A5 10 a b c=0):(0<=a/\a<=5)/\(0<=b/\b<=5):=On (show A5 2 a b c=0 from h)
section
variable{x:Hp}(hx:lS x)
include hx
theorem Xz{r:Int}(h:0<=r/\r<=5):ix x.Roots r=some (sd x r):=by
 have:=hx.r6;obtain⟨n,rfl⟩:∃n:Nat,r=n:=⟨r.toNat,Δ⟩;have hn:n<x.Roots.length:=Δ
 rw[u4 hn];unfold sd;rw[za Δ,zN,zd,zc hn];rfl
theorem Lw{r:Int}(h:¬(0<=r/\r<=5)):sd x r=0:=by
 have:=hx.r6;unfold sd;split;·rfl
 .rw[zd,zab Δ];rfl
theorem dM(r:Int):sd x r=0\/sd x r∈lv x.S:=by
 by_cases h:0<=r/\r<=5
 .have e:=Xz hx h;unfold ix at e;rw[zb h.1] at e;exact hx.rt _ (zk e)
 .exact .inl (Lw hx h)
theorem lF(r:Int):sd x r<=9223372036854775807:=by
 rcases dM hx r with h | h
 .omega
 .have:=L5 hx.sr h;omega
theorem py(r:Int):T0 x r=some (sd x r):=by
 have e:=hx.r6;unfold T0;by_cases h:0<=r/\r<=5
 .rw[za Ξ,Xz hx h];rfl
 .rw[zb Ξ,Lw hx h]
theorem kI(r:Int):T3 x r=some (Dt x r):=by
 unfold T3 Dt;rw[py hx,a2D];by_cases h:sd x r=0
 .rw[zb (Ω h),zb h]
 .rw[za (Ω h),za h]
theorem ZO{h:Int}(hh:h<=9223372036854775807):gr x h=some (cP x h):=by
 obtain⟨e,o,_⟩:=qI (D5.2 hx.sr) hh;unfold gr;rw[o];rfl
theorem Mo(r:Int):fw x r=some (cP x (sd x r)):=by
 unfold fw;rw[py hx,a2D,ZO hx (lF hx r)];rfl
theorem JC:cP x 0=0:=by
 unfold cP;rw[ES (D5.2 hx.sr) Δ (gq hx.sr)]
end
theorem ZP{x z:Hp}(hx:lS x)(k:Ks x.S z.S){h:Int}(hh:h=0\/h∈lv x.S):cP z h=cP x h:=by
 rcases hh with e | e
 .subst e;unfold cP;rw[ES (D5.2 hx.sr) Δ (gq hx.sr),ES (D5.2 k.sr) Δ (gq k.sr)]
 .exact k.ob h e
theorem Wx{x z:Hp}(h:z.Roots=x.Roots)(r:Int):sd z r=sd x r:=by unfold sd;rw[h]
noncomputable def DC(x:Hp)(o:k8)(v:Hp × Int):Option (Hp × Int × Int):=
 if (v.2 != 0) then some (x,0,v.2) else (W5 v.1).bind λe=>(aL v.1 e o).bind λr=>some (e,r,0)
theorem tq{x:Hp}{o:k8}{n:Option Nat}(hc:A5 o.Kind o.A o.B o.C=0)(hk:∃l,iW=some l/\C4 l o.Kind=some n):z7 x o=(AG n ⟨x,o⟩).bind (DC x o):=by
 obtain⟨l,e,r⟩:=hk;unfold z7;rw[qw,hc,a2D,za Ψ,e,a2D,r,za Ψ];rfl
theorem QQ{x:Hp}{o:k8}(hc:A5 o.Kind o.A o.B o.C≠0):z7 x o=some (x,0,A5 o.Kind o.A o.B o.C)/\True:=by
 constructor
 .unfold z7;rw[qw,a2D,zb (Ω hc)]
 .trivial
section
variable{x:Hp}{a b c:Int}
theorem a1T(hc:A5 1 a b c=0):z7 x ⟨1,a,b,c⟩=(aB ⟨x,⟨1,a,b,c⟩⟩).bind (DC x ⟨1,a,b,c⟩):=tq (o:=⟨1,a,b,c⟩) (n:=some 201) hc ⟨_,rfl,rfl⟩
theorem a1U(hc:A5 2 a b c=0):z7 x ⟨2,a,b,c⟩=(O7 ⟨x,⟨2,a,b,c⟩⟩).bind (DC x ⟨2,a,b,c⟩):=tq (o:=⟨2,a,b,c⟩) (n:=some 202) hc ⟨_,rfl,rfl⟩
theorem a1V(hc:A5 3 a b c=0):z7 x ⟨3,a,b,c⟩=(cI ⟨x,⟨3,a,b,c⟩⟩).bind (DC x ⟨3,a,b,c⟩):=tq (o:=⟨3,a,b,c⟩) (n:=some 203) hc ⟨_,rfl,rfl⟩
theorem a1W(hc:A5 4 a b c=0):z7 x ⟨4,a,b,c⟩=(cJ ⟨x,⟨4,a,b,c⟩⟩).bind (DC x ⟨4,a,b,c⟩):=tq (o:=⟨4,a,b,c⟩) (n:=some 204) hc ⟨_,rfl,rfl⟩
theorem a1X(hc:A5 5 a b c=0):z7 x ⟨5,a,b,c⟩=(bu ⟨x,⟨5,a,b,c⟩⟩).bind (DC x ⟨5,a,b,c⟩):=tq (o:=⟨5,a,b,c⟩) (n:=some 205) hc ⟨_,rfl,rfl⟩
theorem Yk(hc:A5 6 a b c=0):z7 x ⟨6,a,b,c⟩=(P2 ⟨x,⟨6,a,b,c⟩⟩).bind (DC x ⟨6,a,b,c⟩):=tq (o:=⟨6,a,b,c⟩) (n:=some 206) hc ⟨_,rfl,rfl⟩
theorem a1Y(hc:A5 7 a b c=0):z7 x ⟨7,a,b,c⟩=(bK ⟨x,⟨7,a,b,c⟩⟩).bind (DC x ⟨7,a,b,c⟩):=tq (o:=⟨7,a,b,c⟩) (n:=some 207) hc ⟨_,rfl,rfl⟩
theorem a1Z(hc:A5 8 a b c=0):z7 x ⟨8,a,b,c⟩=(cK ⟨x,⟨8,a,b,c⟩⟩).bind (DC x ⟨8,a,b,c⟩):=tq (o:=⟨8,a,b,c⟩) (n:=some 208) hc ⟨_,rfl,rfl⟩
theorem a10(hc:A5 9 a b c=0):z7 x ⟨9,a,b,c⟩=(dz ⟨x,⟨9,a,b,c⟩⟩).bind (DC x ⟨9,a,b,c⟩):=tq (o:=⟨9,a,b,c⟩) (n:=some 209) hc ⟨_,rfl,rfl⟩
theorem a0D(hc:A5 10 a b c=0):z7 x ⟨10,a,b,c⟩=(X6 ⟨x,⟨10,a,b,c⟩⟩).bind (DC x ⟨10,a,b,c⟩):=tq (o:=⟨10,a,b,c⟩) (n:=some 210) hc ⟨_,rfl,rfl⟩
theorem FQ{k:Int}(hk:k=11\/k=12)(hc:A5 k a b c=0):z7 x ⟨k,a,b,c⟩=some (x,0,14)/\True:=by
 constructor
 .unfold z7;rw[qw,hc,a2D,za Ψ];rcases hk with rfl | rfl <;> rfl
 .trivial
variable{y:df}
end
section
variable{s:b6}(hR:SR s){i:Nat}(hi:i<s.S.b7.length)
include hR hi
end
theorem a0X{s:b6}(hR:SR s)(hb:s.Serial<9223372036854775807)(a p:Int) :
  (∃e,e≠0/\aw s a p=some (s,0,e)/\True) \/
  ((0<=a/\a<=4)/\(-1<=p/\p<=5)/\∃i,Fst s i/\aw s a p=some (eh s i a.toNat p,cY s i,0)/\True):=by
 rcases MW hR hb a p with ⟨o,e⟩ | ⟨o,r,e⟩ | ⟨o,r,u,e⟩ | ⟨o,r,i,u,e⟩;·exact .inl ⟨1,Θ,e,trivial⟩
 .exact .inl ⟨13,Θ,e,trivial⟩
 .exact .inl ⟨4,Θ,e,trivial⟩
 .exact .inr ⟨o,r,i,u,e,trivial⟩
abbrev Nf(o:k8):s6:=⟨o.Kind,o.A,o.B,o.C⟩
structure Dn (x:Hp) (o:k8) (z:Hp) (v:Int):Prop where
 rt:M0 z
 sl:SL z
 ev:Ev x z
 cw:Cw x z (if o.Kind=6 then o.A else -1)
 mc:z7 x o=some (cy z,v,0)
 rf:True
def Er(x:Hp)(o:k8)(e:Int):Prop:=e≠0/\z7 x o=some (x,0,e)/\True
theorem a00{x:Hp}(hx:M0 x)(hS:SL x){i:Nat}(hi:i<x.S.S.b7.length)(h0:(ce x.S i).State=0){n:Nat}(hn:n<=4){p:Int}(hp : -1<=p/\p<=5):SL (wS x (eh x.S i n p)):=λk hk=>by
 have hR:=hx.sh.sr;have e:k∈lv (eh x.S i n p):=hk;show (ob (eh x.S i n p) k).Strong<=_;rw[Ch hR hi h0 hn hp] at e;rcases zH.1 e with q | q
 .rw[EN hR hi h0 hn hp q];exact hS k q
 .rw[zu.1 q,xH hR hi h0 hn hp];show (0:Int)<=_;decide
theorem xX{y:Hp}(hy:M0 y){a:Int}(ha:0<=a/\a<=5){h:Int}(hh:h=0\/h∈lv y.S):sd (cy (K1 y a.toNat h)) a=h/\cP (cy (K1 y a.toNat h)) h=cP y h:=by
 have hz:=bc hy (r:=a.toNat) Δ hh;have st:=nR hz;have w:=pA hz;have u:(cy (K1 y a.toNat h)).Roots=y.Roots.set a.toNat h:=st.rt.trans (lD y a.toNat h).1;have A:=hy.sh.r6;have e:sd (cy (K1 y a.toNat h)) a=h:=by
  unfold sd;rw[za Δ,u,zd,List.getElem?_set_self Δ];rfl
 refine⟨e,?_⟩;have k:=gL hy.sh.sr a.toNat h;rcases dM w.sh a with q | q
 .rw[e] at q;subst q;rw[JC w.sh,JC hy.sh]
 .rw[e] at q;have v:=(st.ob h q).1;have o:=st.lv h q;rw[k.lv] at o;exact v.trans (k.ob h o)
section
variable{x:Hp}{a b c:Int}
theorem lY{o:k8}{y:Hp}{e:Int}(he:e≠0):DC x o (y,e)=some (x,0,e):=by
 unfold DC;rw[zb (Ω he)]
theorem Xe{z:Hp}(hz:M0 z)(hS:SL z){k:Int}(hk:k≠5/\k≠6/\k≠8/\k≠10):DC x ⟨k,a,b,c⟩ (z,0)=some (cy z,cP (cy z) (sd (cy z) a),0):=by
 unfold DC aL;rw[za Ψ,yb hz hS,a2D];simp only[jn];rw[za Ξ,za Ξ];have:(k==8)=false:=by simp;omega
 rw[this,za Ψ,za Ξ,Mo (pA hz).sh];rfl
theorem LB{o:k8}{v e:Int}(he:e≠0):E6 ⟨x,o⟩ v e=some (x,e):=by
 unfold E6;rw[zb (Ω he)]
variable(hx:M0 x)(hS:SL x)
include hx hS
theorem sG{k:Int}(ha:0<=a/\a<=5){h:Int}(hh:h=0\/h∈lv x.S):E6 ⟨x,⟨k,a,b,c⟩⟩ h 0=some (K1 x a.toNat h,0):=by
 unfold E6;rw[za Ψ,Wt hx hS a (vJ hx hS hh),za Δ,zb hh];rfl
theorem nV{k:Int}(hk:k=2\/k=3\/k=4\/k=7\/k=9)(hc:A5 k a b c=0)(ha:0<=a/\a<=5){h:Int}(hh:h=0\/h∈lv x.S)
  (u:z7 x ⟨k,a,b,c⟩=DC x ⟨k,a,b,c⟩ (K1 x a.toNat h,0))(v:True):Dn x ⟨k,a,b,c⟩ (K1 x a.toNat h) (cP x h):=by
 have hz:=bc hx (r:=a.toNat) Δ hh;have zS:=wE hx.sh.sr hS a.toNat h;obtain⟨e,o⟩:=xX hx ha hh;refine⟨hz,zS,(gL hx.sh.sr a.toNat h).ev,Cw.same (lD x a.toNat h).2.1 _,?_,?_⟩;·rw[u,Xe hz zS Δ,e,o]
 .trivial
theorem d2(hc:A5 2 a b c=0):Dn x ⟨2,a,b,c⟩ (K1 x a.toNat (sd x b)) (cP x (sd x b)):=by
 obtain⟨ha,hb⟩:=On hc;refine nV hx hS (.inl rfl) hc ha (dM hx.sh b) ?_ ?_
 .rw[a1U hc];unfold O7;rw[py hx.sh,a2D,sG hx hS ha (dM hx.sh b)];rfl
 .trivial
theorem d3(hc:A5 3 a b c=0):Dn x ⟨3,a,b,c⟩ (K1 x a.toNat 0) 0:=by
 have ha:=Yg hc;have:=nV (b:=b) (c:=c) hx hS (.inr (.inl rfl)) hc ha (h:=0) (.inl rfl) ?_ ?_;·rwa [JC hx.sh] at this
 .rw[a1V hc];unfold cI;rw[sG hx hS ha (.inl rfl)];rfl
 .trivial
theorem d4(hc:A5 4 a b c=0):(sd x b=0/\Er x ⟨4,a,b,c⟩ 2)\/(∃e,N2 x.S (sd x b) c=some (0,e)/\Er x ⟨4,a,b,c⟩ e) \/
  (sd x b∈lv x.S/\∃n:Nat,c=n/\∃hn:n<(ob x.S (sd x b)).Fields.length,Dn x ⟨4,a,b,c⟩ (K1 x a.toNat (ob x.S (sd x b)).Fields[n]) (cP x (ob x.S (sd x b)).Fields[n])):=by
 obtain⟨ha,hb,_⟩:=QA hc;have hm:z7 x ⟨4,a,b,c⟩=_:=a1W hc;unfold cJ at hm;rw[kI hx.sh,a2D] at hm;by_cases h0:sd x b=0
 .refine .inl ⟨h0,Θ,?_,?_⟩
  .rw[hm];unfold Dt;rw[zb h0,zb Ψ,a2D,lY Θ]
  .trivial
 .have has:Dt x b=(sd x b,0):=by unfold Dt;rw[za h0]
  rw[has,za Ψ] at hm;right;rcases yv hx hS (sd x b) c (lF hx.sh b) with ⟨e,he,f1,f2⟩ | ⟨hl,n,o,hn,f1,f2⟩
  .refine .inl ⟨e,f1,he,?_,?_⟩
   .rw[hm];dsimp only;rw[f1,a2D,LB he,a2D,a2D,lY he]
   .trivial
  .refine .inr ⟨hl,n,o,hn,?_⟩;have hv:=hx.sh.fl _ hl _ (zl hn);refine nV hx hS Δ hc ha hv ?_ ?_
   .rw[hm];dsimp only;rw[f1,a2D,sG hx hS ha hv];rfl
   .trivial
theorem VC{n:Nat}(hn:n<6):∃h:n<x.b7.length,ca x.b7 n=some (if x.b7[n].Target=0\/x.b7[n].Intact=false then (0,9) else (x.b7[n].Target,0))/\True:=by
 have c6:=hx.sh.c6;have hl:n<x.b7.length:=Δ
 refine⟨hl,?_,?_⟩
 .unfold ca lK;have:(decide ((n:Int)>=0)&&decide ((n:Int)<(x.b7.length:Int)))=true:=by simp;omega
  rw[this,a2D,za Ψ,u4 hl,a2D];by_cases q:x.b7[n].Target=0\/x.b7[n].Intact=false
  .rw[zb q,zb (by rcases q with q | q <;> simp[q])]
  .rw[za q,za (Ω q)]
 .trivial
theorem d7(hc:A5 7 a b c=0):∃h:b.toNat<x.b7.length,((x.b7[b.toNat].Intact=false/\Er x ⟨7,a,b,c⟩ 9) \/
  (x.b7[b.toNat].Intact=true/\Dn x ⟨7,a,b,c⟩ (K1 x a.toNat x.b7[b.toNat].Target) (cP x x.b7[b.toNat].Target))):=by
 obtain⟨ha,hb⟩:=QC hc;obtain⟨n,rfl⟩:∃n:Nat,b=n:=⟨b.toNat,Δ⟩;obtain⟨hl,l1,v⟩:=VC hx hS (n:=n) Δ;rw[zN];refine⟨hl,?_⟩;have hm:z7 x ⟨7,a,n,c⟩=_:=a1Y hc;unfold bK at hm;rw[show ca (x6.mk x ⟨7,a,n,c⟩).x.b7 (x6.mk x ⟨7,a,n,c⟩).o.B=_ from l1,a2D] at hm;have cl:=hx.sh.cl n hl;cases r:x.b7[n].Intact
 .left;rw[zb (.inr r)] at hm;refine⟨rfl,Θ,?_,?_⟩
  .rw[hm];dsimp only;rw[LB Θ,a2D,a2D];exact lY (e:=9) Θ
  .trivial
 .right;have ht:=(cl.2.2.2.2 r).1;have u:x.b7[n].Target≠0:=λe=>gq hx.sh.sr (e▸ht);rw[za (by simp[u,r])] at hm;refine⟨rfl,nV hx hS Δ hc ha (.inr ht) ?_ trivial⟩;rw[hm];dsimp only;rw[sG hx hS ha (.inr ht)];rfl
theorem d9(hc:A5 9 a b c=0):(sd x b=0/\Er x ⟨9,a,b,c⟩ 2)\/(sd x b∈lv x.S/\(∀v,¬Has x.T (sd x b) v)/\Er x ⟨9,a,b,c⟩ 9) \/
  (sd x b∈lv x.S/\∃v,Has x.T (sd x b) v/\Dn x ⟨9,a,b,c⟩ (K1 x a.toNat v) (cP x v)):=by
 obtain⟨ha,hb⟩:=QD hc;have hT:=hx.sh.hr;have hm:z7 x ⟨9,a,b,c⟩=_:=a10 hc;unfold dz at hm;rw[kI hx.sh,a2D] at hm;by_cases h0:sd x b=0
 .refine .inl ⟨h0,Θ,?_,?_⟩
  .rw[hm];unfold Dt;rw[zb h0,zb Ψ,a2D,lY Θ]
  .trivial
 .have has:Dt x b=(sd x b,0):=by unfold Dt;rw[za h0]
  have hl:=(dM hx.sh b).resolve_left h0;rw[has,za Ψ] at hm;dsimp only at hm;unfold xq at hm;right;by_cases hv:∃v,Has x.T (sd x b) v
  .obtain⟨v,hv⟩:=hv;rw[Vp hT hv] at hm;refine .inr ⟨hl,v,hv,nV hx hS Δ hc ha (.inr (hx.sh.pr _ _ hv).2) ?_ trivial⟩;rw[hm,a2D,a2D];dsimp only;rw[sG hx hS ha (.inr (hx.sh.pr _ _ hv).2)];rfl
  .have o:∀v,¬Has x.T (sd x b) v:=λv q=>hv ⟨v,q⟩;rw[OH hT o] at hm;refine .inl ⟨hl,o,Θ,?_,?_⟩
   .rw[hm,a2D,a2D];dsimp only;rw[LB Θ,a2D,a2D];exact lY (e:=9) Θ
   .trivial
end
section
variable{x:Hp}{a b c:Int}
theorem Xd{z:Hp}(hz:M0 z)(hS:SL z){k:Int}{r:Int}(hk:k=5/\r=c\/(k=6\/k=8)/\r=b):DC x ⟨k,a,b,c⟩ (z,0)=some (cy z,cP z (sd z r),0):=by
 unfold DC aL;rw[za Ψ,yb hz hS,a2D];simp only[jn];rcases hk with ⟨rfl,rfl⟩ | ⟨rfl | rfl,rfl⟩
 .rw[zb (by rfl),Mo hz.sh];rfl
 .rw[za Θ,zb (by rfl),zb (by rfl),Mo hz.sh];rfl
 .rw[za Θ,za Θ,zb (by rfl),Mo hz.sh];rfl
variable(hx:M0 x)(hS:SL x)
include hx hS
theorem uo{z:Hp}(hz:M0 z)(zS:SL z)(k:Ks x.S z.S)(er:z.Roots=x.Roots){kd r:Int}(hk:kd=5/\r=c\/(kd=6\/kd=8)/\r=b)(hc:A5 kd a b c=0)(cw:Cw x z (if kd=6 then a else -1))
  (e:z7 x ⟨kd,a,b,c⟩=DC x ⟨kd,a,b,c⟩ (z,0))(o:True):Dn x ⟨kd,a,b,c⟩ z (cP x (sd x r)):=by
 refine⟨hz,zS,k.ev,cw,?_,?_⟩;·rw[e,Xd hz zS hk,Wx er,ZP hx.sh k (dM hx.sh r)]
 .trivial
theorem d5(hc:A5 5 a b c=0):(sd x a=0/\Er x ⟨5,a,b,c⟩ 2)\/(∃e,bq x (sd x a) b (sd x c)=some (x,e)/\Er x ⟨5,a,b,c⟩ e) \/
  (sd x a∈lv x.S/\∃n:Nat,b=n/\n<(ob x.S (sd x a)).Fields.length/\Dn x ⟨5,a,b,c⟩ (cW x (sd x a) n (sd x c)) (cP x (sd x c))):=by
 obtain⟨ha,hb,r⟩:=UU hc;have hm:z7 x ⟨5,a,b,c⟩=_:=a1X hc;unfold bu at hm;rw[kI hx.sh,a2D] at hm;by_cases h0:sd x a=0
 .have has:Dt x a=(0,2):=by unfold Dt;rw[zb h0]
  rw[has,zb Ψ] at hm;refine .inl ⟨h0,Θ,?_,?_⟩
  .rw[hm,a2D];exact lY (e:=2) Θ
  .trivial
 .have has:Dt x a=(sd x a,0):=by unfold Dt;rw[za h0]
  rw[has,za Ψ] at hm;dsimp only at hm;rw[py hx.sh,a2D] at hm;right;rcases BD hx hS (sd x a) b (sd x c) (lF hx.sh a) (lF hx.sh c) with ⟨e,he,f1,f2⟩ | ⟨hl,hv,n,o,hn,f1,f2⟩
  .refine .inl ⟨e,f1,he,?_,?_⟩;·rw[hm,f1,a2D,a2D,lY he]
   .trivial
  .refine .inr ⟨hl,n,o,hn,uo hx hS (FW hx hl hn hv) (OB hx.sh.sr hS hl _ _) (Em hx.sh.sr hl hn _) (qG _ _ _ _).1 (.inl ⟨rfl,rfl⟩) hc (Cw.same (qG _ _ _ _).2.1 _) ?_ ?_⟩
   .rw[hm,f1];rfl
   .trivial
theorem d6(hc:A5 6 a b c=0):(sd x b=0/\Er x ⟨6,a,b,c⟩ 2)\/(∃e,W7 x a (sd x b) c=some (x,e)/\Er x ⟨6,a,b,c⟩ e) \/
  (uM x.Q a=false/\Dn x ⟨6,a,b,c⟩ (dO x a.toNat (sd x b) c) (cP x (sd x b))):=by
 obtain⟨ha,hb,o⟩:=QB hc;have hm:z7 x ⟨6,a,b,c⟩=_:=Yk hc;unfold P2 at hm;have key:(z7 x ⟨6,a,b,c⟩=(((W7 x a (sd x b) c).bind λv=>some (v.1,v.2)).bind (DC x ⟨6,a,b,c⟩))/\True)\/(sd x b=0/\Er x ⟨6,a,b,c⟩ 2):=by
  by_cases u:b = -1
  .subst u;left;rw[Lw hx.sh (r:=-1) Δ];refine⟨?_,trivial⟩;rw[hm,zb (by rfl)]
  .rw[za (Ω u),kI hx.sh,a2D] at hm;by_cases h0:sd x b=0
   .have has:Dt x b=(0,2):=by unfold Dt;rw[zb h0]
    rw[has,zb Ψ] at hm;refine .inr ⟨h0,Θ,?_,?_⟩
    .rw[hm,a2D];exact lY (e:=2) Θ
    .trivial
   .have has:Dt x b=(sd x b,0):=by unfold Dt;rw[za h0]
    rw[has,za Ψ] at hm;exact .inl ⟨hm,trivial⟩
 rcases key with ⟨hm,w⟩ | key
 .right;rcases HG hx a (sd x b) c (lF hx.sh b) o with ⟨e,he,f1,f2⟩ | ⟨hh,n,rfl,hn,hw,f1,f2⟩
  .refine .inl ⟨e,f1,he,?_,?_⟩;·rw[hm,f1,a2D,a2D,lY he]
   .trivial
  .rw[zN];obtain⟨A,B,_,_⟩:=Di x n (sd x b) c;refine .inr ⟨hw,uo hx hS (yU hx hn hh o hw) (JR hx hS hn _ _) (JQ hx hn _ _) A (.inr ⟨.inl rfl,rfl⟩) hc (by rw[zb rfl];exact Cw.set B) ?_ ?_⟩
   .rw[hm,f1];rfl
   .trivial
 .exact .inl key
theorem d8(hc:A5 8 a b c=0):(sd x a=0/\Er x ⟨8,a,b,c⟩ 2)\/(sd x a∈lv x.S/\∃e,dy x (sd x a) (sd x b)=some (x,e)/\Er x ⟨8,a,b,c⟩ e) \/
  (sd x a∈lv x.S/\∃r,Y9 x.T (sd x a) (sd x b)=some r/\r.2.2=0/\Dn x ⟨8,a,b,c⟩ (kc x (sd x b) r.1 r.2.1) (cP x (sd x b))):=by
 obtain⟨ha,hb⟩:=UW hc;have hm:z7 x ⟨8,a,b,c⟩=_:=a1Z hc;unfold cK at hm;rw[kI hx.sh,a2D] at hm;by_cases h0:sd x a=0
 .have has:Dt x a=(0,2):=by unfold Dt;rw[zb h0]
  rw[has,zb Ψ] at hm;refine .inl ⟨h0,Θ,?_,?_⟩
  .rw[hm,a2D];exact lY (e:=2) Θ
  .trivial
 .have has:Dt x a=(sd x a,0):=by unfold Dt;rw[za h0]
  have hl:=(dM hx.sh a).resolve_left h0;rw[has,za Ψ] at hm;dsimp only at hm;rw[py hx.sh,a2D] at hm;right;rcases Wc hx hS (sd x a) (sd x b) (lF hx.sh a) (lF hx.sh b) with ⟨e,he,f1,f2⟩ | ⟨hl,hv,r,o,u,f1,f2⟩
  .refine .inl ⟨hl,e,f1,he,?_,?_⟩;·rw[hm,f1,a2D,a2D,lY he]
   .trivial
  .refine .inr ⟨hl,r,o,u,uo hx hS (Jf hx hl hv o u) (Ss hx.sh.sr hS _ _ _) (Je hx.sh.sr _ _ _) (ur _ _ _ _).1 (.inr ⟨.inr rfl,rfl⟩) hc (Cw.same (ur _ _ _ _).2.1 _) ?_ ?_⟩
   .rw[hm,f1];rfl
   .trivial
theorem d10(hz:zr x = [])(hc:A5 10 a b c=0):Dn x ⟨10,a,b,c⟩ x (if sd x a=sd x b then 1 else 0):=by
 obtain⟨ha,hb⟩:=Qz hc;refine⟨hx,hS,Ev.refl x,Cw.refl x _,?_,?_⟩
 .rw[a0D hc];unfold X6 DC aL;rw[a2D,za Ψ,yb hx hS,a2D];simp only[jn];rw[za Θ,za Θ,za Θ,zb (by rfl),py hx.sh,a2D,py hx.sh,a2D];by_cases q:sd x a=sd x b
  .rw[zb (Ω q),zb q];rfl
  .rw[za (Ω q),za q];rfl
 .trivial
theorem d1(hb:x.S.Serial<9223372036854775807)(hc:A5 1 a b c=0):(∃e,aw x.S b c=some (x.S,0,e)/\Er x ⟨1,a,b,c⟩ e) \/
  (b.toNat<=4/\(-1<=c/\c<=5)/\∃i,Fst x.S i/\Dn x ⟨1,a,b,c⟩ (K1 (wS x (eh x.S i b.toNat c)) a.toNat (cY x.S i)) (x.S.Serial+1)):=by
 obtain⟨ha,A,o⟩:=UT hc;have hR:=hx.sh.sr;have hm:z7 x ⟨1,a,b,c⟩=_:=a1T hc;unfold aB at hm;dsimp only at hm;rcases a0X hR hb b c with ⟨e,he,f1,f2⟩ | ⟨_,_,i,hF,f1,f2⟩
 .refine .inl ⟨e,f1,he,?_,?_⟩;·rw[hm,f1,a2D,zb (Ω he),a2D,lY he]
  .trivial
 .refine .inr ⟨Δ,o,i,hF,?_⟩;obtain⟨hi,h0,_⟩:=hF;have hn:b.toNat<=4:=by omega
  have hy:=vN hx hi h0 hn o;have yS:=a00 hx hS hi h0 hn o;have hh:cY x.S i=0\/cY x.S i∈lv (wS x (eh x.S i b.toNat c)).S:=.inr (by
   show _∈lv (eh x.S i b.toNat c);rw[Ch hR hi h0 hn o];exact t6 _ (zu.2 rfl))
  have hz:=bc hy (r:=a.toNat) Δ hh;have zS:=wE hy.sh.sr yS a.toNat (cY x.S i);obtain⟨u,v⟩:=xX hy ha hh;have w:cP (wS x (eh x.S i b.toNat c)) (cY x.S i)=x.S.Serial+1:=by
   show (ob (eh x.S i b.toNat c) (cY x.S i)).Serial=_;rw[xH hR hi h0 hn o]
  refine⟨hz,zS,(a0Z hx hi h0 hn o).ks (gL hy.sh.sr a.toNat _),Cw.same (lD (wS x (eh x.S i b.toNat c)) a.toNat _).2.1 _,?_,?_⟩
  .rw[hm,f1,a2D,za Ψ];dsimp only;rw[show E6 ⟨⟨eh x.S i b.toNat c,x.Roots,x.b7,x.T,x.Q⟩,⟨1,a,b,c⟩⟩ (cY x.S i) 0=_ from sG hy yS ha hh,a2D,a2D,Xe hz zS Δ,u,v,w]
  .trivial
end
theorem Yl{x:Hp}(hx:M0 x)(hS:SL x)(hz:zr x = [])(hb:x.S.Serial<9223372036854775807)(o:k8):(∃e,Er x o e)\/∃z v,Dn x o z v:=by
 obtain⟨k,a,b,c⟩:=o;by_cases hc:A5 k a b c=0
 .have:=sb hc;have hk:k=1\/k=2\/k=3\/k=4\/k=5\/k=6\/k=7\/k=8\/k=9\/k=10\/k=11\/k=12:=by omega
  rcases hk with rfl | rfl | rfl | rfl | rfl | rfl | rfl | rfl | rfl | rfl | rfl | rfl
  .rcases d1 hx hS hb hc with ⟨e,_,h⟩ | ⟨_,_,i,_,h⟩;·exact .inl ⟨e,h⟩
   .exact .inr ⟨_,_,h⟩
  .exact .inr ⟨_,_,d2 hx hS hc⟩
  .exact .inr ⟨_,_,d3 hx hS hc⟩
  .rcases d4 hx hS hc with ⟨_,h⟩ | ⟨e,_,h⟩ | ⟨_,n,_,_,h⟩;·exact .inl ⟨_,h⟩
   .exact .inl ⟨_,h⟩
   .exact .inr ⟨_,_,h⟩
  .rcases d5 hx hS hc with ⟨_,h⟩ | ⟨e,_,h⟩ | ⟨_,n,_,_,h⟩;·exact .inl ⟨_,h⟩
   .exact .inl ⟨_,h⟩
   .exact .inr ⟨_,_,h⟩
  .rcases d6 hx hS hc with ⟨_,h⟩ | ⟨e,_,h⟩ | ⟨_,h⟩;·exact .inl ⟨_,h⟩
   .exact .inl ⟨_,h⟩
   .exact .inr ⟨_,_,h⟩
  .obtain⟨_,⟨_,h⟩ | ⟨_,h⟩⟩:=d7 hx hS hc;·exact .inl ⟨_,h⟩
   .exact .inr ⟨_,_,h⟩
  .rcases d8 hx hS hc with ⟨_,h⟩ | ⟨_,e,_,h⟩ | ⟨_,r,_,_,h⟩;·exact .inl ⟨_,h⟩
   .exact .inl ⟨_,h⟩
   .exact .inr ⟨_,_,h⟩
  .rcases d9 hx hS hc with ⟨_,h⟩ | ⟨_,_,h⟩ | ⟨_,v,_,h⟩;·exact .inl ⟨_,h⟩
   .exact .inl ⟨_,h⟩
   .exact .inr ⟨_,_,h⟩
  .exact .inr ⟨_,_,d10 hx hS hz hc⟩
  .obtain⟨u,w⟩:=FQ (x:=x) (a:=a) (b:=b) (c:=c) (.inl rfl) hc;exact .inl ⟨14,Θ,u,w⟩
  .obtain⟨u,w⟩:=FQ (x:=x) (a:=a) (b:=b) (c:=c) (.inr rfl) hc;exact .inl ⟨14,Θ,u,w⟩
 .obtain⟨u,w⟩:=QQ (x:=x) (o:=⟨k,a,b,c⟩) hc;exact .inl ⟨_,hc,u,w⟩
noncomputable def gX(x:Hp)(o:k8):Hp × Int × Int:=(z7 x o).getD (x,0,0)
structure Nxt (x:Hp) (o:k8) (y:Hp) (v e:Int):Prop where
 rt:M0 y
 sl:SL y
 zr:zr y = []
 ev:Ev x y
 cw:Cw x y (if o.Kind=6 then o.A else -1)
 er:e≠0->y=x/\v=0
 mc:z7 x o=some (y,v,e)
 rf:True
theorem Dn.nxt{x z:Hp}{o:k8}{v:Int}(d:Dn x o z v):Nxt x o (cy z) v 0:=by
 have st:=nR d.rt;exact⟨pA d.rt,NC d.rt d.sl,Fb d.rt,d.ev.stl st,d.cw.trans (st.cw _),λh=>absurd rfl h,d.mc,d.rf⟩
theorem VO{x:Hp}(hx:M0 x)(hS:SL x)(hz:zr x = [])(hb:x.S.Serial<9223372036854775807)(o:k8):∃y v e,Nxt x o y v e:=by
 rcases Yl hx hS hz hb o with ⟨e,w,r,u⟩ | ⟨z,v,d⟩;·exact⟨x,0,e,hx,hS,hz,Ev.refl x,Cw.refl x _,λ_=>⟨rfl,rfl⟩,r,u⟩
 .exact⟨_,_,_,d.nxt⟩
theorem GC{x:Hp}(hx:M0 x)(hS:SL x)(hz:zr x = [])(hb:x.S.Serial<9223372036854775807)(o:k8):Nxt x o (gX x o).1 (gX x o).2.1 (gX x o).2.2:=by
 obtain⟨y,v,e,h⟩:=VO hx hS hz hb o;have:gX x o=(y,v,e):=by unfold gX;rw[h.mc];rfl
 rw[this];exact h
noncomputable def runs(x:Hp)(l:List k8):Hp × List Int:=l.foldl (λp o=>((gX p.1 o).1,p.2 ++ [(gX p.1 o).2.1])) (x,[])
theorem ya(x:Hp)(l:List k8)(o:k8):runs x (l ++ [o])=((gX (runs x l).1 o).1,(runs x l).2 ++ [(gX (runs x l).1 o).2.1]):=by
 unfold runs;rw[pi];rfl
theorem JA{x:Hp}(hx:M0 x)(hS:SL x)(hz:zr x = [])(l:List k8)(hb:x.S.Serial+l.length<9223372036854775807)(P:Hp->Prop)(h0:P x)
  (hs:∀(y:Hp) (o:k8),o∈l->M0 y->Nxt y o (gX y o).1 (gX y o).2.1 (gX y o).2.2->P y->P (gX y o).1):∀k,k<=l.length ->
  M0 (runs x (l.take k)).1/\SL (runs x (l.take k)).1/\zr (runs x (l.take k)).1 = []/\(runs x (l.take k)).1.S.Serial<=x.S.Serial+k/\(runs x (l.take k)).2.length=k/\P (runs x (l.take k)).1
 | 0,_=>⟨hx,hS,hz,by show x.S.Serial<=_;omega,rfl,h0⟩
 | k+1,hk=>by
  obtain⟨r,u,v,B,w,A⟩:=JA hx hS hz l hb P h0 hs k Δ;have e:k<l.length:=Δ
  have n:=GC r u v Δ l[k];rw[dI e,ya];exact⟨n.rt,n.sl,n.zr,by have:=n.ev.s2;show (gX _ _).1.S.Serial<=_;omega,by simp[w],hs _ _ (zl e) r n A⟩
section
variable{x:Hp} 
end
def tE(k:Nat)(l:Int)(p:Nat):Hp:=⟨⟨⟨List.replicate k ⟨0,0,z0⟩,l⟩,0⟩,List.replicate 6 0,List.replicate 6 ⟨0,false,-1⟩,List.replicate p ⟨0,0,0⟩,⟨[],30⟩⟩
theorem Rn{k p:Nat}{l:Int}(hk:1<=k/\k<=24)(hl:0<=l/\l<=9)(hp:1<=p/\p<=8) :
  nj k l p=some (tE k l p)/\sp k l p=some (hO (tE k l p))/\M0 (tE k l p)/\SL (tE k l p)/\zr (tE k l p) = []:=by
 have r:kM k l=some (tE k l p).S:=by
  unfold kM bE;rw[za Ξ,ka Δ Δ];rfl
 obtain⟨a,u,w,A,_⟩:=a07 k l;rw[r] at u;have ha:=zK u;subst ha;have hR:SR (tE k l p).S:=D5.1 A;have o:∀i,ce (tE k l p).S i=⟨0,0,z0⟩:=λi=>by
  unfold ce tE;dsimp only;rw[zd,List.getElem?_replicate];split <;> rfl
 have e:lv (tE k l p).S = []:=zba.2 λh hh=>by
  obtain⟨i,q⟩:=(lf hR).1 hh;have:=q.2.1;rw[o] at this;cases this
 refine⟨?_,?_,⟨⟨hR,(a0b (V:=Int) (λ_ _=>True) hp.1 hp.2).1,rfl,rfl,rfl,zU _,(λt ht=>nomatch ht),List.Pairwise.nil,(λh hh=>.inl (zbi.1 hh).2),λh hh=>?_,λa v hv=>?_,λi hi=>?_⟩,λi hi ht=>?_,λh hh=>?_⟩,λh hh=>?_,?_⟩
 .unfold nj;rw[za Ξ,r,a2D,show mk 8 6 (0:Int)=some (List.replicate 6 0) from rfl,a2D];refine rX (a:=List.replicate 6 ⟨0,false,-1⟩) Φ ?_;rw[YY hp.1 hp.2,a2D];refine rX (a:=⟨[],30⟩) Φ ?_;rfl
 .unfold sp;rw[za Ξ,w,a2D,show mk 8 6 (0:Int)=some (List.replicate 6 0) from rfl,a2D];refine rX (a:=List.replicate 6 ⟨0,false,-1⟩) Φ ?_;unfold GU;rw[za Ξ,ka Δ Δ,a2D,a2D];refine rX (a:=⟨[],30⟩) Φ ?_;unfold hO tE;dsimp only;rw[zcj,zcj];rfl
 .rw[e] at hh;cases hh
 .obtain⟨i,hi,_⟩:=hv;have:=hi.2.1;rw[show (tE k l p).T=List.replicate p ⟨0,0,0⟩ from rfl,xU] at this;cases this
 .have:(tE k l p).b7[i]=⟨0,false,-1⟩:=List.getElem_replicate ..;rw[this];exact⟨Θ,Θ,λ_=>rfl,λh=>absurd rfl h,λh=>by cases h⟩
 .rw[o] at ht;rcases ht with h | h <;> cases h
 .rw[e] at hh;cases hh
 .rw[e] at hh;cases hh
 .unfold zr;rw[e];rfl
section
variable{x:Hp} 
end
def Jr(o:k8):s6:=⟨o.Kind,o.A,o.B,o.C⟩
abbrev FK(o:k8):Int:=A5 o.Kind o.A o.B o.C
theorem Mz(k a b c:Int):Z2 [k,a,b,c]=some (if A5 k a b c≠0 then (⟨0,0,0,0⟩,A5 k a b c) else (⟨k,a,b,c⟩,0)):=by
 unfold Z2;rw[za Ψ];show (al ⟨k,a,b,c⟩).bind _=_;rw[qw,a2D];by_cases h:A5 k a b c=0
 .rw[za (Ω h),za (Ω h)]
 .rw[zb (Ω h),zb h]
theorem QN(k a b c:Int):fA [k,a,b,c]=some (if A5 k a b c≠0 then (⟨0,0,0,0⟩,A5 k a b c) else (⟨k,a,b,c⟩,0)):=by
 unfold fA;rw[za Ψ];show (fI ⟨k,a,b,c⟩).bind _=_;rw[Mv,a2D];by_cases h:A5 k a b c=0
 .rw[za (Ω h),za (Ω h)]
 .rw[zb (Ω h),zb h]
theorem four(l:List Int):(∃k a b c,l = [k,a,b,c])\/l.length≠4:=by
 match l with
 | []=>exact .inr Ψ
 | [_]=>exact .inr Ψ
 | [_,_]=>exact .inr Ψ
 | [_,_,_]=>exact .inr Ψ
 | [k,a,b,c]=>exact .inl ⟨k,a,b,c,rfl⟩
 | _::_::_::_::_::l=>exact .inr Ψ
theorem FP{l:List Int}(h:l.length≠4):Z2 l=some (⟨0,0,0,0⟩,14)/\fA l=some (⟨0,0,0,0⟩,14):=by
 unfold Z2 fA;have:(((l.length:Int) != 4))=true:=by simp;omega
 rw[zb this,zb this];exact⟨rfl,rfl⟩
def Q3(l:List Int):k8 × Int:=(Z2 l).getD (⟨0,0,0,0⟩,0)
theorem Io(l:List Int):Z2 l=some (Q3 l)/\fA l=some (Jr (Q3 l).1,(Q3 l).2):=by
 unfold Q3;rcases four l with ⟨k,a,b,c,rfl⟩ | h
 .rw[Mz,QN];refine⟨rfl,?_⟩;rw[un];by_cases h:A5 k a b c≠0
  .rw[zb h,zb h];rfl
  .rw[za h,za h];rfl
 .rw[(FP h).1,(FP h).2];exact⟨rfl,rfl⟩
def qV(o:k8):Bool:=((decide (o.Kind>=1))&&(decide (o.Kind<=10)))&&(FK o==0)
def wg(p:List k8):Bool:=decide (p.length<=6)&&p.all qV
def gJ(l:List (List k8)):Bool:=decide (l.length<=6)&&l.all wg
section
variable{l:List (List k8)}(hl:l.length<=12)(hp:∀p∈l,p.length<=1000)
include hl hp
theorem Ji:ir l=some (gJ l):=by
 unfold ir gJ;by_cases R:l.length > 6
 .rw[zb Ξ,we Δ];rfl
 .rw[za Ξ,zG Δ,zax];simp only[jn];have key:=Gs (f:=λ(F:Int)=>
   if (decide (F<(l.length:Int))) then
     (ix l F).bind λG=>
     if (decide ((G.length:Int) > 6)) then
      some (.inr (.inl false))
     else
     (lp (S:=Int) (E:=Bool ⊕ Unit) (λ(o:Int)=>
      if (decide (o<(G.length:Int))) then
       (ix G o).bind λu=>
       (iq u).bind λv=>
       (y6 ((!v)==false) 0 (al u)).bind λH=>
       if ((!v)||(H != 0)) then
        some (.inr (.inl false))
       else
       some (.inl (y4 (o+1)))
      else
      some (.inr (.inr ()))) 0).bind λK=>
     match K with
     | .inl w=>some (.inr (.inl w))
     | .inr w=>some (Sum.inl (y4 (F+1)))
   else
   some (.inr (.inr ()))) l wg (.inr ()) (Sum.inl (β:=Unit) false) Δ (λk hk=>?_) Ψ
  .refine rX key ?_;cases l.all wg <;> rfl
  .rw[zb (Ω hk),u4 hk,a2D];unfold wg;have hm:=hp _ (zl hk);generalize l[k]=p at hm |-;by_cases hq:p.length > 6
   .rw[zb Ξ,we Δ];rfl
   .rw[za Ξ,zG Δ,zax];have k2:=Gs (f:=λ(o:Int)=>
      if (decide (o<(p.length:Int))) then
       (ix p o).bind λu=>
       (iq u).bind λv=>
       (y6 ((!v)==false) 0 (al u)).bind λH=>
       if ((!v)||(H != 0)) then
        some (.inr (.inl false))
       else
       some (Sum.inl (y4 (o+1)))
      else
      some (.inr (.inr ()))) p qV (.inr ()) (Sum.inl (β:=Unit) false) Δ (λj hj=>?_) Ψ
    .refine Eq.trans (rX k2 (r:=if p.all qV=true then some (.inl (y4 ((k:Int)+1))) else some (.inr (.inl false))) ?_) ?_;·cases p.all qV <;> rfl
     .rw[p8]
    .rw[zb (Ω hj),u4 hj,a2D,qw];unfold qV iq;rw[a2D,p8];cases ((decide (p[j].Kind>=1))&&(decide (p[j].Kind<=10)));·rfl
     .by_cases h:FK p[j]=0
      .have e:A5 p[j].Kind p[j].A p[j].B p[j].C=0:=h;rw[e,h];rfl
      .have N:(A5 p[j].Kind p[j].A p[j].B p[j].C != 0)=true:=by simpa using h
       have P:(FK p[j]==0)=false:=Ω h
       rw[P];refine rX (a:=FK p[j]) rfl ?_;rw[show (FK p[j] != 0)=true from N];rfl
theorem KZ:nI (l.map (List.map Jr))=some (gJ l):=by
 unfold nI gJ;rw[zf];by_cases R:l.length > 6
 .rw[zb Ξ,we Δ];rfl
 .rw[za Ξ,zG Δ,zax];simp only[jn];have key:=Gs (f:=λ(F:Int)=>
   if (decide (F<(l.length:Int))) then
     (ix (l.map (List.map Jr)) F).bind λG=>
     if (decide ((G.length:Int) > 6)) then
      some (.inr (.inl false))
     else
     (lp (S:=Int) (E:=Bool ⊕ Unit) (λ(o:Int)=>
      if (decide (o<(G.length:Int))) then
       (ix G o).bind λu=>
       (kL u).bind λv=>
       (y6 ((!v)==false) 0 (fI u)).bind λH=>
       if ((!v)||(H != 0)) then
        some (.inr (.inl false))
       else
       some (.inl (y4 (o+1)))
      else
      some (.inr (.inr ()))) 0).bind λK=>
     match K with
     | .inl w=>some (.inr (.inl w))
     | .inr w=>some (Sum.inl (y4 (F+1)))
   else
   some (.inr (.inr ()))) l wg (.inr ()) (Sum.inl (β:=Unit) false) Δ (λk hk=>?_) Ψ
  .refine rX key ?_;cases l.all wg <;> rfl
  .rw[zb (Ω hk),oR,u4 hk,rg,a2D,zf];unfold wg;have hm:=hp _ (zl hk);generalize l[k]=p at hm |-;by_cases hq:p.length > 6
   .rw[zb Ξ,we Δ];rfl
   .rw[za Ξ,zG Δ,zax];have k2:=Gs (f:=λ(o:Int)=>
      if (decide (o<(p.length:Int))) then
       (ix (p.map Jr) o).bind λu=>
       (kL u).bind λv=>
       (y6 ((!v)==false) 0 (fI u)).bind λH=>
       if ((!v)||(H != 0)) then
        some (.inr (.inl false))
       else
       some (Sum.inl (y4 (o+1)))
      else
      some (.inr (.inr ()))) p qV (.inr ()) (Sum.inl (β:=Unit) false) Δ (λj hj=>?_) Ψ
    .refine Eq.trans (rX k2 (r:=if p.all qV=true then some (.inl (y4 ((k:Int)+1))) else some (.inr (.inl false))) ?_) ?_;·cases p.all qV <;> rfl
     .rw[p8]
    .rw[zb (Ω hj),oR,u4 hj,rg,a2D,Mv];unfold qV kL;rw[a2D,p8];rw[show (Jr p[j]).Kind=p[j].Kind from rfl];cases ((decide (p[j].Kind>=1))&&(decide (p[j].Kind<=10)));·rfl
     .by_cases h:FK p[j]=0
      .have e:A5 p[j].Kind (Jr p[j]).A (Jr p[j]).B (Jr p[j]).C=0:=h;rw[e,h];rfl
      .have N:(A5 p[j].Kind p[j].A p[j].B p[j].C != 0)=true:=by simpa using h
       have P:(FK p[j]==0)=false:=Ω h
       rw[P];refine rX (a:=FK p[j]) rfl ?_;rw[show (FK p[j] != 0)=true from N];rfl
end
noncomputable def IH(x:Hp):List Int:=Vu x.S x.T
noncomputable def cG(x:Hp):List Int:=fls x.S x.T (IH x)
theorem cH{x:Hp}{h:Int}:h∈cG x↔h∈lv x.S/\¬gZ x.S x.T (IH x) h:=by
 classical
 unfold cG fls;rw[zj,zE]
section
variable{x:Hp}(hx:M0 x)
include hx
theorem cX:(cG x).Nodup:=zb9 _ (vK (D5.2 hx.sh.sr))
theorem Y5:∀d∈cG x,d∈lv x.S:=λd hd=>(cH.1 hd).1
theorem Ny{h:Int}(hl:h∈lv x.S)(hs:(ob x.S h).Strong<12):rst x.S x.T h=(L0 (qj x) h:Int):=QV.2 hx.fair h hl hs
theorem Gk{h:Int}(hl:h∈lv x.S)(ho:h∈qj x):h∈IH x:=by
 refine vB.2 ⟨hl,?_⟩;by_cases hs:(ob x.S h).Strong<12
 .left;rw[Ny hx hl hs];have:=gT.2 ⟨λe=>gq hx.sh.sr (e▸hl),ho⟩;omega
 .exact .inr Δ
theorem KN{h:Int}(hh:h∈IH x):h∈lv x.S/\(h∈qj x\/12<=(ob x.S h).Strong):=by
 obtain⟨hl,hs⟩:=vB.1 hh;refine⟨hl,?_⟩;by_cases q:(ob x.S h).Strong<12
 .rcases hs with hs | hs
  .rw[Ny hx hl q] at hs;exact .inl (gT.1 Δ).2
  .omega
 .exact .inr Δ
theorem Vm:∀d∈cG x,d∉qj x:=λd hd q=>by
 obtain⟨a,b⟩:=cH.1 hd;exact b (.base (Gk hx a q) a)
theorem Vl:∀h∈lv x.S,h∉cG x->∀v∈(ob x.S h).Fields,v∉cG x:=λh hh hn v hv q=>by
 obtain⟨a,b⟩:=cH.1 q;have hr:gZ x.S x.T (IH x) h:=zap λr=>hn (cH.2 ⟨hh,r⟩);exact b (.step hr (ln.2 ⟨hv,λe=>gq hx.sh.sr (e▸a)⟩) a)
theorem Vn:∀k v,Has x.T k v->k∉cG x->v∉cG x:=λk v hk hn q=>by
 obtain⟨a,b⟩:=cH.1 q;have hr:gZ x.S x.T (IH x) k:=zap λr=>hn (cH.2 ⟨(hx.sh.pr k v hk).1,r⟩);exact b (.pair hk hr a)
theorem kE:M0 (iU x (cG x)):=Ej hx (cX hx) (Y5 hx) (Vm hx) (Vl hx) (Vn hx)
end
theorem CH:∀(l:List Int) {x:Hp} (hR:SR x.S) {h:Int} (hh:h∈lv x.S) (hs:12<=(ob x.S h).Strong),12<=(ob (l.foldl bD x).S h).Strong
 | [],_,_,_,_,hs=>hs
 | v::l,x,hR,h,hh,hs=>by
  have k1:=K9 hR v (f:=mJ) λc=>U2;refine CH l (x:=bD x v) k1.sr (by
   show h∈lv (wK x v mJ).S;rw[k1.lv];exact hh) ?_
  show 12<=(ob (wK x v mJ).S h).Strong;rw[ye (x:=x) hR (h:=v) (f:=mJ) (λc=>U2) hh];split
  .unfold mJ;rw[zb hs];omega
  .exact hs
section
variable{x:Hp}(hx:M0 x)
include hx
theorem BM{h:Int}:h∈lv (iU x (cG x)).S↔gZ x.S x.T (IH x) h:=by
 rw[Ku hx.sh.sr (cX hx) (Y5 hx),zj,zE,cH];constructor
 .rintro⟨a,b⟩;exact zap λr=>b ⟨a,r⟩
 .intro r;exact⟨r.live,λq=>q.2 r⟩
theorem a0I{h:Int}(hh:h∈lv (iU x (cG x)).S):(ob (iU x (cG x)).S h).Serial=(ob x.S h).Serial/\(ob (iU x (cG x)).S h).Prog=(ob x.S h).Prog/\(ob (iU x (cG x)).S h).Fields=(ob x.S h).Fields/\(ob (iU x (cG x)).S h).Started=(ob x.S h).Started:=by
 have r:=(BM hx).1 hh;obtain⟨n,e⟩:=Kv hx.sh.sr (cX hx) (Y5 hx) r.live (λq=>(cH.1 q).2 r);rw[e];exact⟨rfl,rfl,rfl,rfl⟩
theorem Rf{h:Int}(hh:h∈lv (iU x (cG x)).S)(hs:12<=(ob x.S h).Strong):12<=(ob (iU x (cG x)).S h).Strong:=by
 have r:=(BM hx).1 hh;have g:=gb (cG x) hx.sh.sr (cX hx) (Y5 hx);have hn:h∉cG x:=λq=>(cH.1 q).2 r;refine CH _ (x:=kU x (cG x) (mY x.T (cG x)).1) g.sr ?_ ?_
 .show h∈lv (qq x.S (cG x));rw[g.lv,zj];exact⟨r.live,Ω hn⟩
 .show 12<=(ob (qq x.S (cG x)) h).Strong;rw[g.ob h r.live hn];exact hs
theorem Yv:qj (iU x (cG x))=qj x:=by
 obtain⟨e,_,_,o⟩:=uV hx.sh.sr (cX hx) (Y5 hx);unfold qj;rw[e,o,BS _ _ _ λt ht=>by
  obtain⟨w,_,rfl,_⟩:=mg.1 ht;simp]
theorem Vk{h:Int}(hh:gZ x.S x.T (IH x) h):gZ (iU x (cG x)).S (iU x (cG x)).T (IH (iU x (cG x))) h:=by
 have w:=kE hx;obtain⟨_,_,v,_⟩:=uV hx.sh.sr (cX hx) (Y5 hx);have hlen:(cG x).length<=1000:=by
  have:=aO (cX hx) (Y5 hx);have:=dT (D5.2 hx.sh.sr);omega
 obtain⟨_,_,_,_,B,_⟩:=lL hx.sh.hr (cG x) hlen;induction hh with
 | base u A=>
  have hl:=(BM hx).2 (.base u A);refine .base ?_ hl;rcases (KN hx u).2 with q | q
  .exact Gk w hl (by rw[Yv hx];exact q)
  .exact vB.2 ⟨hl,.inr (Rf hx hl q)⟩
 | step o e r ih=>
  refine .step ih ?_ ((BM hx).2 (.step o e r));unfold outs at e |-;rw[(a0I hx ((BM hx).2 o)).2.2.1];exact e
 | pair e o r ih=>
  refine .pair ?_ ih ((BM hx).2 (.pair e o r));rw[v];exact (B _ _).2 ⟨λq=>(cH.1 q).2 o,e⟩
theorem IC:cG (iU x (cG x)) = []:=zba.2 λh hh=>by
 obtain⟨a,b⟩:=cH.1 hh;exact b (Vk hx ((BM hx).1 a))
end
theorem Ii{x:Hp}(hx:M0 x)(w:cG x = []):zr x = []:=zba.2 λh hh=>by
 have hl:=(du.1 hh).1;have hs:=(du.1 hh).2;have hf:=HM hx hh;have h0:h≠0:=λe=>gq hx.sh.sr (e▸hl);have r:gZ x.S x.T (IH x) h:=zap λr=>by
  have:h∈cG x:=cH.2 ⟨hl,r⟩;rw[w] at this;cases this
 unfold ny at hf;cases r with
 | base u B=>
  rcases (KN hx u).2 with q | q
  .have:=gT.2 ⟨h0,q⟩;omega
  .omega
 | step v o A=>
  have:=Gq (y:=h) v.live;have u:=gT.2 ⟨h0,o⟩;omega
 | pair o v A=>
  have:=GM o h0;omega
variable {x:Hp}{h:Int}
theorem BN(hx:M0 x):cy (iU x (cG x))=iU x (cG x):=Tk (Ii (kE hx) (IC hx))
theorem Ro{c:Int}(h:0<=c):1<=aK c:=Ω4
theorem La(hR:SR x.S)(hh:h∈lv x.S){k:Int}(hk:k∈lv x.S):(ob (kK x h).S k).Strong=if k=h then aK (ob x.S k).Strong else (ob x.S k).Strong:=by
 have oko:=N7 hR hh;have ho:Ds x.S (gQ (ob x.S h)):=⟨oko.s1,oko.s2,oko.st,oko.wk,oko.p1,oko.p2,oko.fl⟩;have u:=dh (o:=gQ (ob x.S h)) hR hh rfl ho;have l1:lv (eC x.S h (gQ (ob x.S h)))=lv x.S:=jW (o:=gQ (ob x.S h)) hR hh rfl ho;have hr:=L5 hR hk;have r:(ob (eC x.S h (gQ (ob x.S h))) k).Strong=(ob x.S k).Strong:=by
  rw[iI (o:=gQ (ob x.S h)) hR hh rfl ho Δ];split;·rename_i e;subst e;rfl
  .rfl
 have:=ye (x:=⟨eC x.S h (gQ (ob x.S h)),x.Roots,x.b7,x.T,⟨x.Q.L ++ [Dv x h],x.Q.Cap⟩⟩) u (h:=h) (f:=aK) (λc=>H5) (k:=k) (by
  show k∈lv (eC x.S h (gQ (ob x.S h)));rw[l1];exact hk)
 rw[show (ob (kK x h).S k).Strong=_ from this];show (if k=h then aK (ob (eC x.S h (gQ (ob x.S h))) k).Strong else (ob (eC x.S h (gQ (ob x.S h))) k).Strong)=_;rw[r]
theorem ZA(hx:M0 x)(hz:zr x = [])(hh:h∈lv x.S):zr (kK x h) = []:=zba.2 λk hk=>by
 obtain⟨a,b⟩:=du.1 hk;rw[GP hx.sh.sr hh] at a;rw[La hx.sh.sr hh a] at b;have h0:=(N7 hx.sh.sr a).st;have hn:(ob x.S k).Strong≠0:=λq=>by
  have:k∈zr x:=du.2 ⟨a,q⟩;rw[hz] at this;cases this
 split at b;·have:=Ro h0;omega
 .exact hn b
structure Qd (x y:Hp) (l:List Int):Prop where
 rt:M0 y
 sl:SL y
 zr:zr y = []
 lv:lv y.S=lv x.S
 ob:∀k∈Sh.lv x.S,∃n,Sh.ob y.S k=DU (if k∈l then gQ (Sh.ob x.S k) else Sh.ob x.S k) n
 ro:y.Roots=x.Roots
 ce:y.b7=x.b7
 t:y.T=x.T
 q:y.Q=⟨x.Q.L++l.map (Dv x),x.Q.Cap⟩
 cP:y.S.Serial=x.S.Serial
theorem Wl(hR:SR x.S)(hh:h∈lv x.S):(kK x h).S.Serial=x.S.Serial:=(pe hR hh).1.cP
theorem Ct:∀(l:List Int) {x:Hp},M0 x->SL x->Sh.zr x = []->l.Nodup->(∀h∈l,h∈Sh.lv x.S/\due (Sh.ob x.S h)=true)->Qd x (l.foldl kK x) l
 | [],x,hx,hS,hz,_,_=>⟨hx,hS,hz,rfl,λk hk=>⟨(Sh.ob x.S k).Strong,by rw[za Ψ];rfl⟩,rfl,rfl,rfl,Ψ,rfl⟩
 | h::l,x,hx,hS,hz,hn,hd=>by
  obtain⟨hl,v⟩:=hd h (zh ..);have hR:=hx.sh.sr;rw[me] at hn;have u:=v;unfold due at u;rw[zB,zE,zcd] at u;have A:=xV hx hl u.1 u.2;have B:=SG hR hS hl;have C:=ZA hx hz hl;have lq:=GP hR hl;have oq:∀k∈Sh.lv x.S,k≠h->∃n,Sh.ob (kK x h).S k=DU (Sh.ob x.S k) n:=λk hk w=>by
   obtain⟨n,e⟩:=Cs hR hl hk;rw[za w] at e;exact⟨n,e⟩
  have ih:=Ct l A B C hn.2 λk hk=>by
   obtain⟨a,b⟩:=hd k (zw _ hk);obtain⟨n,e⟩:=oq k a λe=>hn.1 (e▸hk);refine⟨by rw[lq];exact a,?_⟩;rw[e];exact b
  obtain⟨_,k1,k2,E,F⟩:=pe hR hl;refine⟨ih.rt,ih.sl,ih.zr,ih.lv.trans lq,λk hk=>?_,ih.ro.trans k1,ih.ce.trans k2,ih.t.trans E,?_,ih.cP.trans (Wl hR hl)⟩
  .obtain⟨n,e⟩:=ih.ob k (by rw[lq];exact hk);obtain⟨m,o⟩:=Cs hR hl hk;refine⟨n,?_⟩;show Sh.ob (l.foldl kK (kK x h)).S k=_;rw[e];by_cases c:k=h
   .subst c;rw[za hn.1,zb (zh ..),o,zb rfl]
   .rw[za c] at o;by_cases c2:k∈l
    .rw[zb c2,zb (zw _ c2),o]
    .rw[za c2,za (λq=>by
      rcases zJ.1 q with r | r
      .exact c r
      .exact c2 r),o]
  .show (l.foldl kK (kK x h)).Q=_;rw[ih.q,F];have:l.map (Dv (kK x h))=l.map (Dv x):=zt λk hk=>by
    obtain⟨a,_⟩:=hd k (zw _ hk);obtain⟨n,e⟩:=oq k a λe=>hn.1 (e▸hk);show (⟨1,k,(Sh.ob (kK x h).S k).Prog⟩:k7)=⟨1,k,(Sh.ob x.S k).Prog⟩;rw[e]
   rw[this];simp
noncomputable def uK(x:Hp):List Int:=(cG x).filter λh=>due (Sh.ob x.S h)
noncomputable def DB(x:Hp):Hp:=if uK x = [] then iU x (cG x) else (uK x).foldl kK x
theorem uU:∀h∈uK x,h∈Sh.lv x.S/\due (Sh.ob x.S h)=true:=λh hh=>by
 obtain⟨a,b⟩:=zj.1 hh;exact⟨(cH.1 a).1,b⟩
theorem FI(hx:M0 x):(uK x).Nodup:=zb9 _ (cX hx)
theorem Qv(hx:M0 x)(hS:SL x)(hz:zr x = []):Qd x ((uK x).foldl kK x) (uK x):=Ct _ hx hS hz (FI hx) uU
theorem Yh(hx:M0 x)(hS:SL x)(hz:zr x = []):M0 (DB x)/\SL (DB x)/\zr (DB x) = []:=by
 unfold DB;split;·exact⟨kE hx,Qw hx.sh.sr hS (cX hx) (Y5 hx),Ii (kE hx) (IC hx)⟩
 .have q:=Qv hx hS hz;exact⟨q.rt,q.sl,q.zr⟩
section
variable{x:Hp}(hx:M0 x)
include hx
end
structure Rs (x:Hp) (n:Nat):Prop where
 rt:M0 x
 sl:SL x
 zr:zr x = []
 cP:x.S.Serial<=n
section
variable{x:Hp}(hx:M0 x)(hS:SL x)
include hx hS
noncomputable def Yf(x:Hp):Int:=if uK x = [] then ((lv x.S).length:Int)-((lv (DB x).S).length:Int) else 0
variable(hz:zr x = [])
include hz
end
variable {x:Hp}{s s':b6}{h:Int}{i:Nat}
theorem Vb(hx:M0 x)(hS:SL x)(hz:zr x = []):(DB x).S.Serial=x.S.Serial:=by
 unfold DB;split
 .have g:=gb (cG x) hx.sh.sr (cX hx) (Y5 hx);exact (jE ((cG x).flatMap (outs x.S)++(mY x.T (cG x)).2) (x:=kU x (cG x) (mY x.T (cG x)).1) g.sr).1.cP.trans g.cP
 .exact (Qv hx hS hz).cP
def Sv(s s':b6):Prop:=s'.S.b7.length=s.S.b7.length/\∀i,i<s.S.b7.length->(ce s i).Gen<=(ce s' i).Gen/\((ce s' i).Gen=(ce s i).Gen->((ce s i).State≠0->(ce s' i).State≠0)/\((ce s' i).State=1->(ce s i).State=0\/((ce s i).State=1/\((ce s i).Val.Started=true->(ce s' i).Val.Started=true))))
theorem Sv.refl(s:b6):Sv s s:=⟨rfl,λi _=>⟨zan _,λ_=>⟨id,λh=>.inr ⟨h,id⟩⟩⟩⟩
theorem Sv.trans{a b c:b6}(h:Sv a b)(q:Sv b c):Sv a c:=by
 obtain⟨C,E⟩:=h;obtain⟨F,G⟩:=q;refine⟨F.trans C,λi hi=>?_⟩;obtain⟨H,u⟩:=E i hi;obtain⟨K,w⟩:=G i Δ;refine⟨Δ,λe=>?_⟩;obtain⟨o,v⟩:=u Δ;obtain⟨A,B⟩:=w Δ;refine⟨λh=>A (o h),λh=>?_⟩;rcases B h with r | ⟨r,r'⟩
 .exact .inl (zap λn=>o n r)
 .rcases v r with k | ⟨k,k'⟩
  .exact .inl k
  .exact .inr ⟨k,λs=>r' (k' s)⟩
def LL(s:b6)(h:Int):Prop:=∃(i:Nat) (g:Int),i<s.S.b7.length/\h=1+(i:Int)+32*g/\(g<(ce s i).Gen\/(g=(ce s i).Gen/\(ce s i).State≠0/\((ce s i).State=1->(ce s i).Val.Started=true)))
theorem Sv.a1p(h:Sv s s'){k:Int}(q:LL s k):LL s' k:=by
 obtain⟨i,g,hi,e,q⟩:=q;obtain⟨B,w⟩:=h;obtain⟨a,b⟩:=w i hi;refine⟨i,g,Δ,e,?_⟩;rcases q with q | ⟨C,o,A⟩
 .exact .inl Δ
 .by_cases c:(ce s' i).Gen=(ce s i).Gen
  .obtain⟨u,v⟩:=b c;refine .inr ⟨Δ,u o,λr=>?_⟩;rcases v r with k | ⟨k1,k2⟩
   .exact absurd k o
   .exact k2 (A k1)
  .exact .inl Δ
theorem Pp(hR:SR s)(hh:h∈lv s)(hs:(ob s h).Started=false):¬LL s h:=by
 rintro⟨i,g,hi,e,q⟩;obtain⟨j,hj⟩:=(lf hR).1 hh;have hl:=hR.len;have hij:i=j:=by
  have:=hj.2.2;have:=hj.1;omega
 subst hij;have:=hj.2.2;rcases q with q | ⟨r,u,o⟩
 .omega
 .rw[J2 hR hj,o hj.2.1] at hs;cases hs
theorem yl.sv(hR:SR s)(k:yl s s'):Sv s s':=⟨k.len,λi hi=>by
 obtain⟨a,b,_,_,_⟩:=k.ce i hi;refine⟨Δ,λ_=>⟨Δ,λh=>.inr ⟨Δ,λq=>?_⟩⟩⟩;have o:At s (cY s i) i:=⟨hi,Δ,rfl⟩;have r:At s' (cY s i) i:=⟨by rw[k.len];exact hi,h,by rw[b];rfl⟩;have hl:=L5 hR ((lf hR).2 ⟨i,o⟩);obtain⟨n,e⟩:=k.ob (cY s i) Δ;rw[J2 k.sr r,J2 hR o] at e;rw[e];exact q⟩
theorem Tg{s:b6}(hR:SR s){h:Int}(hh:h∈lv s){o:p9}(hs:o.Serial=(ob s h).Serial)(ho:Ds s o)(u:(ob s h).Started=true->o.Started=true):Sv s (eC s h o):=⟨NA s h o,λi hi=>by
 have q:=r8 hR hh;rw[CP hR hh hs ho];split
 .rename_i e;subst e;refine⟨zan _,λ_=>⟨id,λr=>.inr ⟨q.2.1,λk=>u ?_⟩⟩⟩;rw[J2 hR q];exact k
 .exact⟨zan _,λ_=>⟨id,λr=>.inr ⟨r,id⟩⟩⟩⟩
theorem RK(hR:SR s)(hi:i<s.S.b7.length)(ht:Th (ce s i))(d:Int):Sv s (nq s i d):=⟨M6 ..,λj hj=>by
 rw[gx hR hi ht];split
 .rename_i e;subst e;exact⟨zan _,λ_=>⟨id,λr=>.inr ⟨r,id⟩⟩⟩
 .exact⟨zan _,λ_=>⟨id,λr=>.inr ⟨r,id⟩⟩⟩⟩
theorem Yz(hi:i<s.S.b7.length):Sv s (HP s i):=⟨ae ..,λj hj=>by
 unfold HP;rw[O2 hi];by_cases e:j=i
 .subst e;rw[zb rfl];split;·exact⟨zan _,λ_=>⟨λ_=>(by decide:(3:Int)≠0),λr=>absurd (show (3:Int)=1 from r) Θ⟩⟩
  .refine⟨by show _<=(ce s j).Gen+1;omega,λr=>?_⟩;have:(ce s j).Gen+1=(ce s j).Gen:=r;omega
 .rw[za e];exact⟨zan _,λ_=>⟨id,λr=>.inr ⟨r,id⟩⟩⟩⟩
theorem Gn.sv{ds:List Int}(g:Gn s s' ds):Sv s s':=⟨g.len,λj hj=>by
 rw[g.ce];split
 .unfold JV;split
  .split;·exact⟨zan _,λ_=>⟨λ_=>(by decide:(3:Int)≠0),λr=>absurd (show (3:Int)=1 from r) Θ⟩⟩
   .refine⟨by show _<=(Sh.ce s j).Gen+1;omega,λr=>?_⟩;have:(Sh.ce s j).Gen+1=(Sh.ce s j).Gen:=r;omega
  .exact⟨zan _,λ_=>⟨λ_=>(by decide:(2:Int)≠0),λr=>absurd (show (2:Int)=1 from r) Θ⟩⟩
 .exact⟨zan _,λ_=>⟨id,λr=>.inr ⟨r,id⟩⟩⟩⟩
theorem a01(hR:SR s)(hi:i<s.S.b7.length)(h0:(ce s i).State=0){n:Nat}(hn:n<=4){p:Int}(hp : -1<=p/\p<=5):Sv s (eh s i n p):=⟨lj hR hi h0 hn hp,λj hj=>by
 rw[nr hR hi h0 hn hp];split
 .rename_i e;subst e;exact⟨zan _,λ_=>⟨λr=>absurd h0 r,λ_=>.inl h0⟩⟩
 .exact⟨zan _,λ_=>⟨id,λr=>.inr ⟨r,id⟩⟩⟩⟩
theorem Lt(hR:SR x.S)(h:Int):Sv x.S (I3 x h).S:=(K9 hR h (f:=aK) λc=>H5).sv hR
theorem Hm{x:Hp}(hR:SR x.S)(h:Int):Sv x.S (bD x h).S:=(K9 hR h (f:=mJ) λc=>U2).sv hR
theorem Jy{x:Hp}(hR:SR x.S)(r:Nat)(h:Int):Sv x.S (K1 x r h).S:=
 (Lt hR h).trans (Hm (x:=wR (I3 x h) (x.Roots.set r h)) (mT hR h) _)
theorem OC(hR:SR x.S)(hh:h∈lv x.S){n:Nat}(hn:n<(ob x.S h).Fields.length)(v:Int):Sv x.S (cW x h n v).S:=by
 have k1:=Ho hR v;have r:h∈lv (I3 x v).S:=by rw[k1.lv];exact hh
 have u:(ob (I3 x v).S h).Fields=(ob x.S h).Fields:=by
  obtain⟨n,e⟩:=(K9 hR v (f:=aK) λc=>H5).ob h Ωv;show (ob (wK x v aK).S h).Fields=_;rw[e]
 have ho:Ds (I3 x v).S (ub (ob (I3 x v).S h) ((ob x.S h).Fields.set n v)):=by
  have:=N7 k1.sr r;refine⟨this.s1,this.s2,this.st,this.wk,this.p1,this.p2,?_⟩;have w:=this.fl;rw[u] at w;simpa using w
 have k2:=Tg (o:=ub (ob (I3 x v).S h) ((ob x.S h).Fields.set n v)) k1.sr r rfl ho id;exact ((Lt hR v).trans k2).trans (Hm (x:=wS (I3 x v) (eC (I3 x v).S h (ub (ob (I3 x v).S h) ((ob x.S h).Fields.set n v)))) (dh (o:=ub (ob (I3 x v).S h) ((ob x.S h).Fields.set n v)) k1.sr r rfl ho) _)
theorem Su(hR:SR x.S)(v:Int)(t:Tb)(old:Int):Sv x.S (kc x v t old).S:=
 (Lt hR v).trans (Hm (x:=wT (I3 x v) t) (mT hR v) old)
theorem YW{x:Hp}(hR:SR x.S)(h d:Int):Sv x.S (lQ x h d).S:=by
 unfold lQ;split
 .rename_i q;exact RK hR q.1 q.2.1 d
 .exact Sv.refl _
theorem WM(hR:SR x.S)(h:Int):Sv x.S (rK x h).S:=by
 unfold rK;split
 .rename_i q;have k:=RK hR q.1 q.2.1 (-1);split;·exact k.trans (Yz (by rw[k.1];exact q.1))
  .exact k
 .exact Sv.refl _
theorem Tu(hx:M0 x)(n:Nat)(h call:Int):Sv x.S (dO x n h call).S:=by
 have hR:=hx.sh.sr;unfold dO;have s1:Sv x.S (lQ (wC x (x.b7.set n (fR h call))) h 1).S:=YW (x:=wC x (x.b7.set n (fR h call))) hR h 1;refine s1.trans (WM ?_ _);unfold lQ;split
 .rename_i q;have:=(hR.ok _ q.1 q.2.1).wk;exact xG hR q.1 q.2.1 Δ
 .exact hR
theorem Yd(hR:SR x.S){ds:List Int}(hn:ds.Nodup)(hm:∀d∈ds,d∈lv x.S):Sv x.S (iU x ds).S:=by
 have g:=gb ds hR hn hm;exact g.sv.trans ((jE (ds.flatMap (outs x.S)++(mY x.T ds).2) (x:=kU x ds (mY x.T ds).1) g.sr).1.sv g.sr)
theorem Zz(hR:SR x.S)(hh:h∈lv x.S):Sv x.S (kK x h).S:=by
 have oko:=N7 hR hh;have ho:Ds x.S (gQ (ob x.S h)):=⟨oko.s1,oko.s2,oko.st,oko.wk,oko.p1,oko.p2,oko.fl⟩;exact (Tg (o:=gQ (ob x.S h)) hR hh rfl ho λ_=>rfl).trans ((pe hR hh).1.sv (dh (o:=gQ (ob x.S h)) hR hh rfl ho))
theorem ZX{x:Hp}(hx:M0 x):Sv x.S (JY x).S:=by
 cases h:zr x with
 | nil=>rw[pE h];exact Sv.refl _
 | cons z l=>
  have hz:z∈zr x:=by rw[h];exact zh ..
  have e:=(du.1 hz).1;rw[lH h];split;·exact Zz hx.sh.sr e
  .exact Yd hx.sh.sr Ψ (Ω e)
theorem ZU{x:Hp}(hx:M0 x)(n:Nat):Sv x.S (lG n x).S:=by
 induction n with
 | zero=>exact Sv.refl _
 | succ n ih=>rw[gR];exact ih.trans (ZX (M9 hx n))
theorem Wz(hx:M0 x):Sv x.S (cy x).S:=ZU hx 100
structure uI (x y:Hp):Prop where
 sv:Sv x.S y.S
 q:∃l,y.Q=⟨x.Q.L++l,x.Q.Cap⟩/\∀t∈l,t.Kind=1->¬LL x.S t.At
theorem uI.of{y:Hp}(h:Sv x.S y.S)(q:y.Q=x.Q):uI x y:=⟨h,[],by rw[q,za9],λt ht=>by cases ht⟩
theorem uI.refl(x:Hp):uI x x:=uI.of (Sv.refl _) rfl
theorem uI.trans{y z:Hp}(a:uI x y)(b:uI y z):uI x z:=by
 obtain⟨l,e,o⟩:=a.q;obtain⟨m,r,u⟩:=b.q;refine⟨a.sv.trans b.sv,l++m,by rw[r,e,zac],λt ht hk=>?_⟩;rcases zH.1 ht with h | h
 .exact o t h hk
 .exact λs=>u t h hk (a.sv.a1p s)
theorem Hu(hx:M0 x):uI x (cy x):=by
 obtain⟨l,o,e,_⟩:=(nR hx).q;exact⟨Wz hx,l,o,λt ht hk=>Pp hx.sh.sr (e t ht hk).1 (e t ht hk).2⟩
theorem lC{x:Hp}(hR:SR x.S)(r:Nat)(h:Int):uI x (K1 x r h):=uI.of (Jy hR r h) (lD x r h).2.2.2
theorem a0E(hx:M0 x)(hS:SL x)(hz:zr x = [])(hb:x.S.Serial<9223372036854775807)(o:k8):(∃e,Er x o e)\/∃z v,Dn x o z v/\uI x z:=by
 have hR:=hx.sh.sr;obtain⟨k,a,b,c⟩:=o;by_cases hc:A5 k a b c=0
 .have:=sb hc;have hk:k=1\/k=2\/k=3\/k=4\/k=5\/k=6\/k=7\/k=8\/k=9\/k=10\/k=11\/k=12:=by omega
  rcases hk with rfl | rfl | rfl | rfl | rfl | rfl | rfl | rfl | rfl | rfl | rfl | rfl
  .rcases d1 hx hS hb hc with ⟨e,_,h⟩ | ⟨hn,A,i,hF,h⟩;·exact .inl ⟨e,h⟩
   .obtain⟨hi,h0,_⟩:=hF;have k1:uI x (wS x (eh x.S i b.toNat c)):=uI.of (a01 hR hi h0 hn A) rfl;exact .inr ⟨_,_,h,k1.trans (lC (x:=wS x (eh x.S i b.toNat c)) (IY hR hi h0 hn A) _ _)⟩
  .exact .inr ⟨_,_,d2 hx hS hc,lC hR _ _⟩
  .exact .inr ⟨_,_,d3 hx hS hc,lC hR _ _⟩
  .rcases d4 hx hS hc with ⟨_,h⟩ | ⟨e,_,h⟩ | ⟨_,n,_,_,h⟩;·exact .inl ⟨_,h⟩
   .exact .inl ⟨_,h⟩
   .exact .inr ⟨_,_,h,lC hR _ _⟩
  .rcases d5 hx hS hc with ⟨_,h⟩ | ⟨e,_,h⟩ | ⟨hl,n,_,hn,h⟩;·exact .inl ⟨_,h⟩
   .exact .inl ⟨_,h⟩
   .exact .inr ⟨_,_,h,uI.of (OC hR hl hn _) (qG _ _ _ _).2.2.2⟩
  .rcases d6 hx hS hc with ⟨_,h⟩ | ⟨e,_,h⟩ | ⟨_,h⟩;·exact .inl ⟨_,h⟩
   .exact .inl ⟨_,h⟩
   .exact .inr ⟨_,_,h,uI.of (Tu hx _ _ _) (Di _ _ _ _).2.2.2⟩
  .obtain⟨_,⟨_,h⟩ | ⟨_,h⟩⟩:=d7 hx hS hc;·exact .inl ⟨_,h⟩
   .exact .inr ⟨_,_,h,lC hR _ _⟩
  .rcases d8 hx hS hc with ⟨_,h⟩ | ⟨_,e,_,h⟩ | ⟨_,r,_,_,h⟩;·exact .inl ⟨_,h⟩
   .exact .inl ⟨_,h⟩
   .exact .inr ⟨_,_,h,uI.of (Su hR _ _ _) (ur _ _ _ _).2.2.2⟩
  .rcases d9 hx hS hc with ⟨_,h⟩ | ⟨_,_,h⟩ | ⟨_,v,_,h⟩;·exact .inl ⟨_,h⟩
   .exact .inl ⟨_,h⟩
   .exact .inr ⟨_,_,h,lC hR _ _⟩
  .exact .inr ⟨_,_,d10 hx hS hz hc,uI.refl x⟩
  .obtain⟨u,w⟩:=FQ (x:=x) (a:=a) (b:=b) (c:=c) (.inl rfl) hc;exact .inl ⟨14,Θ,u,w⟩
  .obtain⟨u,w⟩:=FQ (x:=x) (a:=a) (b:=b) (c:=c) (.inr rfl) hc;exact .inl ⟨14,Θ,u,w⟩
 .obtain⟨u,w⟩:=QQ (x:=x) (o:=⟨k,a,b,c⟩) hc;exact .inl ⟨_,hc,u,w⟩
theorem Ym(hx:M0 x)(hS:SL x)(hz:zr x = [])(hb:x.S.Serial<9223372036854775807)(o:k8):uI x (gX x o).1:=by
 rcases a0E hx hS hz hb o with ⟨e,_,h,_⟩ | ⟨z,v,d,f⟩
 .have:gX x o=(x,0,e):=by unfold gX;rw[h];rfl
  rw[this];exact uI.refl x
 .have:gX x o=(cy z,v,0):=by unfold gX;rw[d.mc];rfl
  rw[this];exact f.trans (Hu d.rt)
theorem a1o(e:lS x)(o:Wk x){L:List Int}(u:bH x L){r:Nat}(hr:r<6)(hh:h=0\/h∈lv x.S):lS (K1 x r h)/\Wk (K1 x r h)/\bH (K1 x r h) L:=by
 have Ae:=K9 e.sr h (f:=aK) λc=>H5;have l1:lv (I3 x h).S=lv x.S:=Ae.lv;have f1:bH (I3 x h) (h::L):=Jz e.sr u h;have s1:lS (I3 x h):=e.st h (f:=aK) λc=>H5;have s2:lS (wR (I3 x h) (x.Roots.set r h)):=s1.roots (by rw[zaq];exact e.r6) λv hv=>by
  rw[l1];rcases zay hv with q | q
  .exact e.rt v q
  .exact q▸hh
 have w1:Wk (I3 x h):=o.st e.sr h (f:=aK) λc=>H5;have one:∀v k,L0 [v] k=if v=k/\k≠0 then 1 else 0:=λv k=>by rw[I6,H6,zar]
 have f2:bH (wR (I3 x h) (x.Roots.set r h)) (x.Roots.getD r 0::L):=f1.mv rfl (λ_ _=>rfl) λk hk=>by
  have:=AU (l:=x.Roots) (r:=r) (by rw[e.r6];exact hr) h k;rw[one,one] at this;rw[ru x h];unfold ny qj;dsimp only;rw[H3,H3,rJ,rJ,I6 h L,I6 (x.Roots.getD r 0) L];omega
 exact⟨s2.st _ λc=>U2,Wk.st (x:=wR (I3 x h) (x.Roots.set r h)) w1 s2.sr _ λc=>U2,wD (x:=wR (I3 x h) (x.Roots.set r h)) s2.sr f2⟩
abbrev yi(x:Hp)(ts:List k7):Hp:=wQ x ⟨ts,x.Q.Cap⟩
noncomputable def DG(x:Hp)(ts:List k7)(h:Int):Hp:=bD (K1 (yi x ts) 5 h) h
section
variable{x:Hp}(hx:M0 x){t:k7}{ts:List k7}(hq:x.Q.L=t::ts)
include hx hq
theorem LD:lS (yi x ts):=by
 have h:=hx.sh;refine⟨h.sr,h.hr,h.r6,h.c6,h.cap,?_,λu hu=>h.tk u (by rw[hq];exact zw _ hu),?_,h.rt,h.fl,h.pr,λi hi=>?_⟩
 .have:=h.q30;rw[hq,zF] at this;show ts.length<=30;omega
 .have:=h.td;rw[hq,or] at this;exact this.2
 .obtain⟨a,b,c,d,e⟩:=h.cl i hi;refine⟨a,b,c,d,λq=>⟨(e q).1,?_⟩⟩;have:=(e q).2;rw[zcc] at this |-;intro r;obtain⟨u,hu,k1,k2⟩:=kz.1 r;exact this (kz.2 ⟨u,by rw[hq];exact zw _ hu,k1,k2⟩)
theorem JP:bH (yi x ts) (if t.Kind=1 then [t.At] else []):=hx.fair.mv rfl (λ_ _=>rfl) λh _=>by
 unfold ny qj qf;dsimp only;rw[hq,pm];by_cases k:t.Kind=1
 .rw[zb k,zb (Ω k),zT,H3,H3,I6 t.At (List.map _ _),I6 t.At [],H6];omega
 .rw[za k,za (Ω k),H6]
theorem Br(hk:t.Kind≠1):M0 (yi x ts):=⟨LD hx hq,hx.wk,by have:=JP hx hq;rwa [za hk] at this⟩
theorem QZ(hk:t.Kind=1):t.At∈lv x.S/\(ob x.S t.At).Started=true:=by
 rcases (hx.sh.tk t (by rw[hq];exact zh ..)).2.2 with ⟨_,b,c⟩ | ⟨b,_⟩;·exact⟨b,c⟩
 .omega
theorem sa(hk:t.Kind=1):M0 (DG x ts t.At):=by
 have f:=JP hx hq;rw[zb hk] at f;obtain⟨a,b,c⟩:=a1o (LD hx hq) (x:=yi x ts) hx.wk f (r:=5) Θ (.inr (QZ hx hq hk).1);exact⟨a.st _ λc=>U2,b.st a.sr _ λc=>U2,wD a.sr c⟩
omit hq in
theorem Ys (hS:SL x) (h:Int):SL (DG x ts h):=by
 have k:=wE (x:=yi x ts) hx.sh.sr hS 5 h;exact Hk [h] (gL (x:=yi x ts) hx.sh.sr 5 h).sr k
omit hq in
theorem Yr (h:Int):Ks x.S (DG x ts h).S:=by
 have k:=gL (x:=yi x ts) hx.sh.sr 5 h;exact k.trans (Hl k.sr h)
omit hq in
theorem Ra (h:Int):(DG x ts h).Roots=x.Roots.set 5 h/\(DG x ts h).b7=x.b7/\(DG x ts h).T=x.T/\(DG x ts h).Q=⟨ts,x.Q.Cap⟩:=by
 obtain⟨a,b,c,d⟩:=CI (K1 (yi x ts) 5 h) h;obtain⟨e,o,r,d'⟩:=lD (yi x ts) 5 h;exact⟨a.trans e,b.trans o,c.trans r,d.trans d'⟩
omit hq in
theorem Yq (h:Int):uI (yi x ts) (DG x ts h):=uI.of ((Jy (x:=yi x ts) hx.sh.sr 5 h).trans (Hm (gL (x:=yi x ts) hx.sh.sr 5 h).sr h)) (Ra hx h).2.2.2
end
def xe(ps:List (List k8))(n:Int):List k8:=if n<0\/(ps.length:Int)<=n then [] else ps.getD n.toNat []
noncomputable def pre(x:Hp)(t:k7)(ts:List k7):Hp:=if t.Kind=1 then cy (DG x ts t.At) else yi x ts
noncomputable def ran(ps:List (List k8))(x:Hp)(t:k7)(ts:List k7):Hp:=(runs (pre x t ts) (xe ps t.Prog)).1
noncomputable def QP(ps:List (List k8))(x:Hp)(t:k7)(ts:List k7):Hp:=if t.Kind=1 then cy (K1 (ran ps x t ts) 5 0) else ran ps x t ts
structure Oh (x:Hp):Prop where
 rt:M0 x
 sl:SL x
 zr:zr x = []
theorem Nxt.ok{x y:Hp}{o:k8}{v e:Int}(n:Nxt x o y v e):Oh y:=⟨n.rt,n.sl,n.zr⟩
theorem NB{x:Hp}(h:M0 x)(s:SL x):Oh (cy x):=⟨pA h,NC h s,Fb h⟩
theorem Tf{x:Hp}(hx:Oh x)(l:List k8)(hb:x.S.Serial+l.length<9223372036854775807):Oh (runs x l).1/\uI x (runs x l).1/\(runs x l).1.S.Serial<=x.S.Serial+l.length/\(runs x l).2.length=l.length:=by
 have key:∀k,k<=l.length->Oh (runs x (l.take k)).1/\uI x (runs x (l.take k)).1/\(runs x (l.take k)).1.S.Serial<=x.S.Serial+k/\(runs x (l.take k)).2.length=k:=by
  intro k;induction k with
  | zero=>exact λ_=>⟨hx,uI.refl x,by show x.S.Serial<=_;omega,rfl⟩
  | succ k ih=>
   intro hk;obtain⟨a,b,c,d⟩:=ih Δ;have e:k<l.length:=Δ
   have n:=GC a.rt a.sl a.zr Δ l[k];rw[dI e,ya];exact⟨n.ok,b.trans (Ym a.rt a.sl a.zr Δ _),by have:=n.ev.s2;show (gX _ _).1.S.Serial<=_;omega,by simp[d]⟩
 have:=key l.length (zC _);rwa [zL] at this
section
variable{x:Hp}(hx:Oh x){t:k7}{ts:List k7}(hq:x.Q.L=t::ts)(ps:List (List k8))
include hx hq
theorem SA:Oh (pre x t ts):=by
 unfold pre;split
 .rename_i k;exact NB (sa hx.rt hq k) (Ys hx.rt hx.sl _)
 .rename_i k;exact⟨Br hx.rt hq k,hx.sl,hx.zr⟩
theorem Zq:uI (yi x ts) (pre x t ts):=by
 unfold pre;split
 .rename_i k;exact (Yq hx.rt _).trans (Hu (sa hx.rt hq k))
 .exact uI.refl _
theorem Nj:(pre x t ts).S.Serial=x.S.Serial:=by
 unfold pre;split
 .rename_i k;rw[(nR (sa hx.rt hq k)).cP,(Yr hx.rt _).cP]
 .rfl
variable(hb:x.S.Serial+(xe ps t.Prog).length<9223372036854775807)
include hb
theorem Nn:Oh (ran ps x t ts)/\uI (yi x ts) (ran ps x t ts)/\(ran ps x t ts).S.Serial<=x.S.Serial+(xe ps t.Prog).length:=by
 have e:=Nj hx hq;obtain⟨a,b,c,_⟩:=Tf (SA hx hq) (xe ps t.Prog) (by rw[e];exact hb);exact⟨a,(Zq hx hq).trans b,by rw[e] at c;exact c⟩
theorem Vg:Oh (QP ps x t ts)/\uI (yi x ts) (QP ps x t ts)/\(QP ps x t ts).S.Serial<=x.S.Serial+(xe ps t.Prog).length/\(t.Kind=1->sd (QP ps x t ts) 5=0):=by
 obtain⟨a,b,c⟩:=Nn hx hq ps hb;unfold QP;split
 .have hz:=bc a.rt (r:=5) Θ (h:=0) (.inl rfl);have k:=gL a.rt.sh.sr 5 0;refine⟨NB hz (wE a.rt.sh.sr a.sl 5 0),(b.trans (lC a.rt.sh.sr 5 0)).trans (Hu hz),?_,λ_=>(xX a.rt (a:=5) Θ (h:=0) (.inl rfl)).1⟩;rw[(nR hz).cP,k.cP];exact c
 .exact⟨a,b,c,λq=>absurd q ΩI⟩
end
def yn(ps:List (List k8))(t:k7):Int:=1+((xe ps t.Prog).length:Int)
def can(ps:List (List k8))(p:Hp × Int):Prop:=∃t ts,p.1.Q.L=t::ts/\yn ps t<=p.2
noncomputable def Za(ps:List (List k8))(p:Hp × Int):Hp × Int:=match p.1.Q.L with
 | []=>p
 | t::ts=>if yn ps t<=p.2 then (QP ps p.1 t ts,p.2-yn ps t) else p
noncomputable def dN(ps:List (List k8)):Nat->Hp × Int->Hp × Int
 | 0,p=>p
 | n+1,p=>dN ps n (Za ps p)
section
variable(ps:List (List k8))
theorem AF(n:Nat)(p:Hp × Int):dN ps (n+1) p=Za ps (dN ps n p):=by
 induction n generalizing p with
 | zero=>rfl
 | succ n ih=>exact ih (Za ps p)
theorem VN{p:Hp × Int}(h:p.1.Q.L = []):Za ps p=p:=by unfold Za;rw[h]
theorem vZ{p:Hp × Int}{t:k7}{ts:List k7}(h:p.1.Q.L=t::ts):Za ps p=if yn ps t<=p.2 then (QP ps p.1 t ts,p.2-yn ps t) else p:=by unfold Za;rw[h]
theorem Qx{p:Hp × Int}{t:k7}{ts:List k7}(h:p.1.Q.L=t::ts):can ps p↔yn ps t<=p.2:=by
 constructor
 .rintro⟨u,us,e,c⟩;rw[h] at e;injection e with o r
  rw[o];exact c
 .exact λc=>⟨t,ts,h,c⟩
theorem vc(t:k7):1<=yn ps t:=by unfold yn;omega
theorem Mx{p:Hp × Int}(hb:0<=p.2):∃n:Nat,(n:Int)<=p.2/\¬can ps (dN ps n p)/\∀j,j<n->can ps (dN ps j p):=by
 have key:∀m:Nat,(∃n:Nat,n<=m/\¬can ps (dN ps n p))\/((dN ps m p).2+m<=p.2/\0<=(dN ps m p).2):=by
  intro m;induction m with
  | zero=>exact .inr ⟨by show p.2+((0:Nat):Int)<=_;omega,hb⟩
  | succ m ih=>
   rcases ih with ⟨n,r,o⟩ | ⟨r,o⟩;·exact .inl ⟨n,Δ,o⟩
   .by_cases q:can ps (dN ps m p)
    .right;obtain⟨t,ts,e,c⟩:=q;have:=vc ps t;rw[AF,vZ ps e,zb c];dsimp only;omega
    .exact .inl ⟨m,Δ,q⟩
 have v:∃n:Nat,(n:Int)<=p.2/\¬can ps (dN ps n p):=by
  rcases key (p.2.toNat+1) with ⟨n,r,o⟩ | ⟨r,o⟩
  .rcases zI n (p.2.toNat+1) with q | q
   .exact⟨n,Δ,o⟩
   .have hn:n=p.2.toNat+1:=by omega
    rcases key p.2.toNat with ⟨n,r,o⟩ | ⟨r,w⟩;·exact⟨n,Δ,o⟩
    .refine⟨p.2.toNat,Δ,λ⟨t,ts,e,c⟩=>?_⟩;have:=vc ps t;omega
  .omega
 obtain⟨n,⟨hn,hz⟩,u⟩:=iy v;refine⟨n,hn,hz,λj hj=>zap λq=>?_⟩;have:=u j ⟨Δ,q⟩;omega
theorem Kz{p:Hp × Int}(hx:Oh p.1)(hb:0<=p.2)(hs:p.1.S.Serial+p.2<9223372036854775807):∀n,Oh (dN ps n p).1/\0<=(dN ps n p).2/\(dN ps n p).2<=p.2/\(dN ps n p).1.S.Serial+(dN ps n p).2<=p.1.S.Serial+p.2
 | 0=>⟨hx,hb,zan _,zan _⟩
 | n+1=>by
  obtain⟨a,b,c,d⟩:=Kz hx hb hs n;rw[AF];cases e:(dN ps n p).1.Q.L with
  | nil=>rw[VN ps e];exact⟨a,b,c,d⟩
  | cons t ts=>
   rw[vZ ps e];split
   .rename_i q;have o:=q;unfold yn at o;obtain⟨r,_,u,_⟩:=Vg a e ps Δ;refine⟨r,?_,?_,?_⟩;·dsimp only;omega
    .have:=vc ps t;dsimp only;omega
    .dsimp only;unfold yn;omega
   .exact⟨a,b,c,d⟩
end
noncomputable def dn(ps:List (List k8))(p:Hp × Int):Nat:=if h:0<=p.2 then Classical.choose (Mx ps h) else 0
theorem Vf(ps:List (List k8)){p:Hp × Int}(h:0<=p.2):(dn ps p:Int)<=p.2/\¬can ps (dN ps (dn ps p) p)/\∀j,j<dn ps p->can ps (dN ps j p):=by
 unfold dn;rw[dif_pos h];exact zb6 (Mx ps h)
noncomputable def dr(ps:List (List k8))(p:Hp × Int):Hp × Int:=dN ps (dn ps p) p
theorem a0F(ps:List (List k8)){x:Hp}{f:Int}(hx:Oh x)(hf:0<=f)(hs:x.S.Serial+f<9223372036854775807):Oh (dr ps (x,f)).1/\0<=(dr ps (x,f)).2/\(dr ps (x,f)).2<=f/\(dr ps (x,f)).1.S.Serial+(dr ps (x,f)).2<=x.S.Serial+f:=Kz ps (p:=(x,f)) hx hf hs _
section
variable{x:Hp}(hx:lS x)(hS:∀k∈lv x.S,(ob x.S k).Strong<=9223372036854775807)
include hx hS
end
theorem KY(ps:List (List k8))(n:Int):iw ps n=some (xe ps n):=by
 unfold iw xe;by_cases h:n<0\/(ps.length:Int)<=n
 .rw[zb (Ω h),zb h]
 .rw[za (Ω h),za h];obtain⟨k,rfl⟩:∃k:Nat,n=k:=⟨n.toNat,Δ⟩;have hk:k<ps.length:=by omega
  rw[u4 hk,a2D,zN,zd,zc hk];rfl
abbrev Du(ps:List (List k8)):List (List s6):=ps.map (List.map Nf)
theorem Xv(ps:List (List k8))(n:Int):lu (Du ps) n=some ((xe ps n).map Nf):=by
 unfold lu xe;rw[zf];by_cases h:n<0\/(ps.length:Int)<=n
 .rw[zb (Ω h),zb h];rfl
 .rw[za (Ω h),za h];obtain⟨k,rfl⟩:∃k:Nat,n=k:=⟨n.toNat,Δ⟩;have hk:k<ps.length:=by omega
  have e:k<(Du ps).length:=Ω hk
  rw[u4 e,a2D,zN,zd,zc hk];simp[Du]
def Mp(ps:List (List k8)):Prop:=∀p∈ps,p.length<=6
theorem GO{ps:List (List k8)}(h:Mp ps)(n:Int):(xe ps n).length<=6:=by
 unfold xe;split;·simp
 .rename_i q;have hk:n.toNat<ps.length:=by omega
  rw[zd,zc hk];exact h _ (zl hk)
theorem Mw{ps:List (List k8)}(h:Mp ps)(t:k7):fm ps t=some (yn ps t):=by
 have:=GO h t.Prog;unfold fm yn;rw[KY,a2D,Y8 Δ Δ]
theorem QK{ps:List (List k8)}(h:Mp ps)(t:k7):jw (Du ps) ⟨t.Kind,t.At,t.Prog⟩=some (yn ps t):=by
 have:=GO h t.Prog;unfold jw yn;show (lu (Du ps) t.Prog).bind _=_;rw[Xv,a2D,zf,Y8 Δ Δ]
section
variable{x:Hp}(hx:Oh x){t:k7}{ts:List k7}(hq:x.Q.L=t::ts){ps:List (List k8)}(hm:Mp ps)(hb:x.S.Serial<9000000000000000000)
include hx hq hm hb
end
section
variable{x:Hp}(hx:Oh x){ps:List (List k8)}(hm:Mp ps){f:Int}(hf:0<=f)(hf2:f<=1000000)(hb:x.S.Serial<8000000000000000000)
include hx hm hf hf2 hb
def Yn(p:Hp × Int):Int:=if p.1.Q.L.isEmpty then 0 else 12
end
theorem a03{l:List (List k8)}(h:gJ l=true):Mp l/\l.length<=6:=by
 unfold gJ at h;rw[zB,zE,zg] at h;refine⟨λp hp=>?_,h.1⟩;have:=h.2 p hp;unfold wg at this;rw[zB,zE] at this;exact this.1
noncomputable def eo(ps:List (List k8))(x:Hp)(o:k8):Hp × Int × Int:=
 if o.Kind=11 then (DB x,Yf x-((uK x).length:Int),0)
 else if o.Kind=12 then ((dr ps (x,o.A)).1,(dn ps (x,o.A):Int),Yn (dr ps (x,o.A)))
 else gX x o
noncomputable def er(ps:List (List k8))(x:Hp)(row:List Int):Hp × Int × Int:=if (Q3 row).2≠0 then (x,0,(Q3 row).2) else eo ps x (Q3 row).1
noncomputable def uL(ps:List (List k8))(x:Hp)(rows:List (List Int)):Hp × List (Int × Int):=rows.foldl (λp r=>((er ps p.1 r).1,p.2 ++ [(er ps p.1 r).2])) (x,[])
theorem QT(ps:List (List k8))(x:Hp)(l:List (List Int))(r:List Int):uL ps x (l ++ [r])=((er ps (uL ps x l).1 r).1,(uL ps x l).2 ++ [(er ps (uL ps x l).1 r).2]):=by
 unfold uL;rw[pi];rfl
theorem FV(ps:List (List k8)):∀(l:List (List Int)) (x:Hp) (a:List (Int × Int)),l.foldl (λp r=>((er ps p.1 r).1,p.2 ++ [(er ps p.1 r).2])) (x,a)=((uL ps x l).1,a++(uL ps x l).2)
 | [],x,a=>by simp[uL]
 | r::l,x,a=>by
  unfold uL;rw[ww,ww,FV ps l,FV ps l _ ([]++_)];simp
theorem Vh(ps:List (List k8))(x:Hp)(l m:List (List Int)):uL ps x (l++m)=((uL ps (uL ps x l).1 m).1,(uL ps x l).2++(uL ps (uL ps x l).1 m).2):=by
 have:uL ps x (l++m)=m.foldl (λp r=>((er ps p.1 r).1,p.2 ++ [(er ps p.1 r).2])) (uL ps x l):=by
  unfold uL;rw[pi]
 rw[this];exact FV ps m (uL ps x l).1 (uL ps x l).2
theorem My{row:List Int}(h:(Q3 row).2=0):A5 (Q3 row).1.Kind (Q3 row).1.A (Q3 row).1.B (Q3 row).1.C=0:=by
 unfold Q3 at h |-;rcases four row with ⟨k,a,b,c,rfl⟩ | hl
 .rw[Mz,un] at h |-;by_cases q:A5 k a b c≠0
  .rw[zb q] at h;exact absurd h q
  .rw[za q];exact Classical.not_not.1 q
 .rw[(FP hl).1,un] at h;exact absurd h Θ
theorem Xc{a b c:Int}(h:A5 12 a b c=0):0<=a/\a<=200:=EA Θ (show U0 a 0 200 12=0 from h)
section
variable{ps:List (List k8)}(hm:Mp ps){x:Hp}(hx:Oh x)(hb:x.S.Serial<7000000000000000000)
include hm hx hb
theorem a0G{o:k8}(ho:o.Kind=12->0<=o.A/\o.A<=200):Oh (eo ps x o).1/\(eo ps x o).1.S.Serial<=x.S.Serial+201:=by
 unfold eo;split
 .obtain⟨a,b,c⟩:=Yh hx.rt hx.sl hx.zr;refine⟨⟨a,b,c⟩,?_⟩;show (DB x).S.Serial<=_;rw[Vb hx.rt hx.sl hx.zr];omega
 .split
  .rename_i h;obtain⟨h0,e⟩:=ho h;obtain⟨a,b,c,d⟩:=a0F ps hx h0 Δ;exact⟨a,by show (dr ps (x,o.A)).1.S.Serial<=_;omega⟩
  .have n:=GC hx.rt hx.sl hx.zr Δ o;have:=n.ev.s2;exact⟨n.ok,Δ⟩
theorem Xi(row:List Int):Oh (er ps x row).1/\(er ps x row).1.S.Serial<=x.S.Serial+201:=by
 unfold er;split;·exact⟨hx,by show x.S.Serial<=_;omega⟩
 .rename_i h;have hc:=My (Classical.not_not.1 h);refine a0G hm hx hb λhk=>?_;rw[hk] at hc;exact Xc hc
end
theorem Yp{ps:List (List k8)}(hm:Mp ps){x:Hp}(hx:Oh x):∀(l:List (List Int)),x.S.Serial+201*(l.length:Int)<7000000000000000000->Oh (uL ps x l).1/\(uL ps x l).1.S.Serial<=x.S.Serial+201*(l.length:Int):=by
 intro l;induction l generalizing x with
 | nil=>exact λ_=>⟨hx,by show x.S.Serial<=_;simp⟩
 | cons r l ih=>
  intro hb;rw[zF] at hb |-;obtain⟨a,b⟩:=Xi hm hx Δ r;obtain⟨c,d⟩:=ih a Δ;have e:=Vh ps x [r] l;rw[List.singleton_append] at e;rw[e];exact⟨c,by
   have:(uL ps (uL ps x [r]).1 l).1.S.Serial<=(er ps x r).1.S.Serial+201*(l.length:Int):=d;show (uL ps (uL ps x [r]).1 l).1.S.Serial<=_;omega⟩
noncomputable def Ly(x:Hp):List Int:=(lv x.S).map λh=>cP x h
theorem WC{x:Hp}(hR:SR x.S):(Ly x).length<=24:=by
 unfold Ly;rw[zf];exact dT (D5.2 hR)
inductive Fm (x:Hp) (o:k8) (z:Hp) (v:Int):Prop
 | new (i:Nat) (hF:Fst x.S i) (hk:o.Kind=1) (ha:0<=o.A/\o.A<=5) (hn:o.B.toNat<=4) (hc : -1<=o.C/\o.C<=5) (hv:v=x.S.Serial+1) (hz:z=K1 (wS x (eh x.S i o.B.toNat o.C)) o.A.toNat (cY x.S i)):Fm x o z v
 | root (h:Int) (hk:o.Kind≠1) (ha:0<=o.A/\o.A<=5) (hh:h=0\/h∈lv x.S) (hz:z=K1 x o.A.toNat h):Fm x o z v
 | field (h:Int) (n:Nat) (u:Int) (hk:o.Kind=5) (hl:h∈lv x.S) (hn:n<(ob x.S h).Fields.length) (hu:u=0\/u∈lv x.S) (hz:z=cW x h n u):Fm x o z v
 | weak (h:Int) (hk:o.Kind=6) (ha:0<=o.A/\o.A<=5) (hc : -1<=o.C/\o.C<=5) (hh:h=0\/h∈lv x.S) (hw:uM x.Q o.A=false) (hz:z=dO x o.A.toNat h o.C):Fm x o z v
 | pair (h u:Int) (r:Tb × Int × Int) (hk:o.Kind=8) (hl:h∈lv x.S) (hu:u=0\/u∈lv x.S) (hr:Y9 x.T h u=some r) (h0:r.2.2=0) (hz:z=kc x u r.1 r.2.1):Fm x o z v
 | same (hk:o.Kind=10) (hz:z=x):Fm x o z v
theorem Fm.ks{x z:Hp}{o:k8}{v:Int}(hx:M0 x)(f:Fm x o z v)(hk:o.Kind≠1):Ks x.S z.S:=by
 have hR:=hx.sh.sr;cases f with
 | new i hF e=>exact absurd e hk
 | root h _ ha hh hz=>rw[hz];exact gL hR _ _
 | field h n u _ hl hn hu hz=>rw[hz];exact Em hR hl hn u
 | weak h _ ha hc hh hw hz=>rw[hz];exact JQ hx Δ h _
 | pair h u r _ hl hu hr h0 hz=>rw[hz];exact Je hR u _ _
 | same _ hz=>rw[hz];exact Ks.refl hR
section
variable{ps:List (List k8)}(hm:Mp ps){x:Hp}(hx:Oh x)(hb:x.S.Serial<7000000000000000000)
include hm hx hb
end
section
variable{ps:List (List k8)}(hm:Mp ps){x:Hp}(hx:Oh x)
include hm hx
end
section
variable{ps:List (List k8)}{x:Hp}(hx:M0 x)
include hx
end
theorem Rs.oh{x:Hp}{n:Nat}(h:Rs x n):Oh x:=⟨h.rt,h.sl,h.zr⟩
theorem RU{n last places:Int}{ps:List (List k8)}(hl:ps.length<=12)(hp:∀p∈ps,p.length<=1000) :
  (∃e,bo n last places ps=some (⟨Vv,[]⟩,e)/\wq n last places (Du ps)=some (⟨hO Vv,[]⟩,e)/\(e=13\/e=1/\¬((1<=n/\n<=24)/\(0<=last/\last<=9)/\1<=places/\places<=8))) \/
  (∃k p:Nat,n=k/\places=p/\(1<=k/\k<=24)/\Mp ps/\Rs (tE k last p) 0/\bo n last places ps=some (⟨tE k last p,ps⟩,0)/\wq n last places (Du ps)=some (⟨hO (tE k last p),Du ps⟩,0)):=by
 have u:ir ps=some (gJ ps):=Ji Δ hp;have v:nI (Du ps)=some (gJ ps):=KZ Δ hp;unfold bo wq;rw[u,v,a2D,a2D];cases hq:gJ ps;·exact .inl ⟨13,rfl,rfl,.inl rfl⟩
 .simp only[za2,zM,pu];by_cases h:(1<=n/\n<=24)/\(0<=last/\last<=9)/\1<=places/\places<=8
  .right;obtain⟨A,w,B⟩:=h;obtain⟨k,rfl⟩:∃k:Nat,n=k:=⟨n.toNat,Δ⟩;obtain⟨p,rfl⟩:∃p:Nat,places=p:=⟨places.toNat,Δ⟩;obtain⟨o,r,hx,hS,hz⟩:=Rn (k:=k) (p:=p) (l:=last) Δ w Δ;refine⟨k,p,rfl,rfl,Δ,(a03 hq).1,⟨hx,hS,hz,zan _⟩,?_,?_⟩
   .rw[o,a2D,hx.sh.r6];rfl
   .rw[r,a2D,show (hO (tE k last p)).Roots.length=6 from hx.sh.r6];rfl
  .left;have o:nj n last places=some Vv:=by
    unfold nj;rw[zb Ξ];rfl
   have r:sp n last places=some (hO Vv):=by
    unfold sp;rw[zb Ξ];rfl
   refine⟨1,?_,?_,.inr ⟨rfl,h⟩⟩;·rw[o];rfl
   .rw[r];rfl
theorem Sw{x:Hp}(hx:M0 x)(hS:SL x){k v e:Int}(hk:k∈lv x.S)(hv:v=0\/v∈lv x.S)(h:dy x k v=some (x,e))(he:e≠0):e=8:=by
 have hR:=hx.sh.sr;have o:k≠0:=λq=>gq hR (q▸hk);unfold dy at h;rw[za (Ω o),U8 hR (vJ hx hS (.inr hk)),a2D,U8 hR (vJ hx hS hv),zG (.inr hk),zG hv] at h;simp only[za2,zZ,W4,a2D,zcb,zM,pu] at h;obtain⟨r,A,_,_,B⟩:=fB hx.sh.hr k v;rw[A,a2D] at h;by_cases h0:r.2.2=0
 .have u:(r.2.2 != 0)=false:=by simpa using h0
  rw[u,za Ψ] at h;cases q:G7 x r.2.1 v ⟨r.1⟩ with
  | none=>rw[q] at h;cases h
  | some w=>
   rw[q,a2D] at h;exact absurd (zY (λp=>p.2) (zK h)).symm he
 .rw[zb (Ω h0)] at h;have:r.2.2=e:=zY (λp=>p.2) (zK h);rcases B with ⟨q,rfl⟩ | ⟨_,_,⟨i,hi,rfl⟩ | ⟨_,rfl⟩⟩ | ⟨_,_,⟨i,hi,rfl⟩ | ⟨d,_,_,_,_,rfl⟩ | ⟨_,_,rfl⟩⟩;·exact absurd q o
  .exact absurd rfl h0
  .exact absurd rfl h0
  .exact absurd rfl h0
  .exact absurd rfl h0
  .exact this.symm
theorem Ir{s:b6}(hR:SR s){h:Int}(hh:h∈lv s){n:Nat}(hn:n<(ob s h).Fields.length):N2 s h n=some ((ob s h).Fields[n],0):=by
 unfold N2;rw[BZ (D5.2 hR) hh,a2D,za Ψ,at1 hn];rfl
section
variable{x:Hp} 
end
theorem JS{x:Hp}(hx:M0 x){k h c e:Int}(hk:0<=k/\k<=5)(hh:h=0\/h∈lv x.S)(hm:h<=9223372036854775807)(hc : -1<=c/\c<=5)(q:W7 x k h c=some (x,e))(he:e≠0):e=7:=by
 have hR:=hx.sh.sr;have c6:=hx.sh.c6;have q30:=hx.sh.q30;obtain⟨n,rfl⟩:∃n:Nat,k=n:=⟨k.toNat,Δ⟩;unfold W7 at q;have w:((decide ((n:Int)<0))||(decide ((n:Int)>=(x.b7.length:Int))))=false:=by rw[c6];simp;omega
 rw[w] at q;simp only[zZ,W4,zbj] at q;have o:bG x.Q n=some (uM x.Q n):=AS Δ;rw[o,a2D,U8 hR hm,a2D,zG hh] at q;cases hw:uM x.Q n
 .rw[hw,za Θ,za Θ] at q;cases r:lJ x.b7 n h c with
  | none=>rw[r] at q;cases q
  | some a=>
   rw[r,a2D] at q;cases u:aZ ⟨x.S,x.Roots,a.1,x.T,x.Q⟩ h 1 with
   | none=>rw[u] at q;cases q
   | some b=>
    rw[u,a2D] at q;cases v:bU b a.2.1 with
    | none=>rw[v] at q;cases q
    | some d=>
     rw[v,a2D] at q;exact absurd (zY (λp=>p.2) (zK q)).symm he
 .rw[hw,zb rfl] at q;exact (zY (λp=>p.2) (zK q)).symm
section
variable{x:Hp} 
end
theorem a0y(l:List l4)(h:l.length<=1000):sL l=some (l.map rO):=by
 unfold sL;simp only[jn];have e:=ld (b:=24) rO l Δ Δ;simp only[rO] at e;rw[e];rfl
theorem a1q(q:TQ)(h:q.L.length<=1000):sM q=some (PE q):=by
 unfold sM;simp only[jn];have e:=ld (b:=24) mC q.L Δ Δ;simp only[mC] at e;rw[e];rfl
structure Gd (σ:Int->Int) (s:b6):Prop where
 z:σ 0=0
 f:∀h i,Y1 s h i->σ h=(ce s i).Val.Serial
def nd(σ:Int->Int)(s:b6)(i:Nat):b8:=⟨(ce s i).Val.Serial,i,(ce s i).Val.Prog,(ce s i).Val.Started,decide ((ce s i).State=1),decide (12<=(ce s i).Val.Strong),(ce s i).Val.Fields.map σ⟩
structure Sn (σ:Int->Int) (s:b6) (l:List b8):Prop where
 up:l.Pairwise λa b=>a.Serial<b.Serial
 mem:∀n,n∈l↔∃i,i<s.S.b7.length/\Th (ce s i)/\n=nd σ s i
def Tl(c:g7):Int:=if Th c then c.Val.Serial else if c.State=3 then -1 else 0
def wx(σ:Int->Int)(c:l4):l4:=⟨σ c.Target,c.Intact,c.Call⟩
def tx(σ:Int->Int)(t:k7):k7:=if t.Kind=1 then ⟨1,σ t.At,t.Prog⟩ else t
structure u7 (σ:Int->Int) (x:Hp) (m:a8):Prop where
 gd:Gd σ x.S
 nd:Sn σ x.S m.Nodes
 sl:m.Slots=(List.range x.S.S.b7.length).map λi=>Tl (Sh.ce x.S i)
 ge:m.Gens=(List.range x.S.S.b7.length).map λi=>(Sh.ce x.S i).Gen
 la:m.Last=x.S.S.Last
 npl:m.Places=x.T.length
 se:m.Serial=x.S.Serial
 ro:m.Roots=x.Roots.map σ
 ce:m.b7=x.b7.map (wx σ)
 p1:m.Pairs.Pairwise λa b=>a.Key≠b.Key
 p2:∀p,p∈m.Pairs↔∃k v,Has x.T k v/\p=⟨σ k,σ v⟩
 tk:m.Tasks=x.Q.L.map (tx σ)
section
variable{σ:Int->Int}{s:b6}(hR:SR s)(g:Gd σ s)
include hR g
theorem Gd.lv{h:Int}(hh:h∈lv s):σ h=(ob s h).Serial:=by
 have q:=r8 hR hh;rw[J2 hR q,g.f h _ q.d]
theorem Gd.pos{h:Int}{i:Nat}(q:Y1 s h i):1<=σ h/\σ h<=s.Serial:=by
 rw[g.f h i q];exact⟨(hR.ok i q.1 q.2.1).s1,(hR.ok i q.1 q.2.1).s2⟩
theorem Gd.inj{h k:Int}{i j:Nat}(q:Y1 s h i)(p:Y1 s k j)(e:σ h=σ k):h=k:=by
 rw[g.f h i q,g.f k j p] at e;have:=hR.dif i j q.1 p.1 q.2.1 p.2.1 e;subst this;rw[q.2.2,p.2.2]
theorem Gd.inl{h k:Int}(hh:h∈Sh.lv s)(hk:k∈Sh.lv s)(e:σ h=σ k):h=k:=g.inj hR (r8 hR hh).d (r8 hR hk).d e
theorem Gd.ps{h:Int}(hh:h∈Sh.lv s):1<=σ h/\σ h<=s.Serial:=g.pos hR (r8 hR hh).d
theorem Gd.inz{h k:Int}(hh:h=0\/∃i,Y1 s h i)(hk:k=0\/∃i,Y1 s k i)(e:σ h=σ k):h=k:=by
 rcases hh with o | ⟨i,q⟩ <;> rcases hk with r | ⟨j,p⟩
 .rw[o,r]
 .subst o;rw[g.z] at e;have:=g.pos hR p;omega
 .subst r;rw[g.z] at e;have:=g.pos hR q;omega
 .exact g.inj hR q p e
theorem Gd.zero{h:Int}(hh:h=0\/∃i,Y1 s h i):σ h=0↔h=0:=by
 refine⟨λe=>g.inz hR hh (.inl rfl) (e.trans g.z.symm),λe=>?_⟩;subst e;exact g.z
theorem RD{h:Int}(hh:h=0\/h∈Sh.lv s):h=0\/∃i,Y1 s h i:=hh.imp id λq=>⟨_,(r8 hR q).d⟩
theorem AT{l:List Int}(hl:∀v∈l,v=0\/v∈Sh.lv s){h:Int}(hh:h∈Sh.lv s):L0 (l.map σ) (σ h)=L0 l h:=by
 have p:=g.ps hR hh;have r:=(L5 hR hh).1;unfold L0;rw[za Δ,za Δ];induction l with
 | nil=>rfl
 | cons v l ih=>
  rw[zT,zcy,zcy,ih λu hu=>hl u (zw _ hu)];congr 1;by_cases e:v=h
  .subst e;simp
  .have:σ v≠σ h:=λo=>e (g.inz hR (RD hR g (hl v zh)) (.inr ⟨_,(r8 hR hh).d⟩) o);simp[e,this]
end
section
variable{σ:Int->Int}{s:b6}(hR:SR s){l:List b8}(q:Sn σ s l)
include hR q
theorem Sn.one{n m:b8}(hn:n∈l)(hm:m∈l)(e:n.Serial=m.Serial):n=m:=by
 obtain⟨i,hi,ti,rfl⟩:=(q.mem n).1 hn;obtain⟨j,hj,tj,rfl⟩:=(q.mem m).1 hm;have:=hR.dif i j hi hj ti tj e;rw[this]
theorem Sn.at{i:Nat}(hi:i<s.S.b7.length)(ht:Th (ce s i)):Sh.nd σ s i∈l:=(q.mem _).2 ⟨i,hi,ht,rfl⟩
theorem Sn.pos{n:b8}(hn:n∈l):1<=n.Serial/\n.Serial<=s.Serial:=by
 obtain⟨i,hi,ti,rfl⟩:=(q.mem n).1 hn;exact⟨(hR.ok i hi ti).s1,(hR.ok i hi ti).s2⟩
theorem Sn.len:l.length<=24:=by
 have o:(l.map (·.Slot)).Nodup:=by
  rw[List.Nodup,zbn];refine zbe (λ{a b} ha hb h=>?_) q.up;obtain⟨i,hi,ti,rfl⟩:=(q.mem a).1 ha;obtain⟨j,hj,tj,rfl⟩:=(q.mem b).1 hb;intro e;have:i=j:=by
   have:(i:Int)=(j:Int):=e;omega
  subst this;exact absurd h (Int.lt_irrefl _)
 have r:∀v∈l.map (·.Slot),v∈(List.range s.S.b7.length).map λi:Nat=>(i:Int):=λv hv=>by
  obtain⟨n,hn,rfl⟩:=zn.1 hv;obtain⟨i,hi,ti,rfl⟩:=(q.mem n).1 hn;exact zn.2 ⟨i,za1.2 hi,rfl⟩
 have:=aO o r;rw[zf,zf,zbw] at this;have:=hR.len;omega
theorem Sn.alive:l.filter (·.Alive)=(lv s).map λh=>Sh.nd σ s (F9 h):=by
 have key:∀(a b:List b8),a.Pairwise (λu v=>u.Serial<v.Serial)->b.Pairwise (λu v=>u.Serial<v.Serial)->(∀n,n∈a↔n∈b)->a=b:=by
  intro a;induction a with
  | nil=>intro b _ _ h;cases b with
   | nil=>rfl
   | cons y b=>exact absurd ((h y).2 zh) Ψ
  | cons x a ih=>
   intro b ha hb h;cases b with
   | nil=>exact absurd ((h x).1 zh) Ψ
   | cons y b=>
    rw[or] at ha hb;have e:x=y:=by
     rcases zJ.1 ((h x).1 zh) with e | e
     .exact e
     .rcases zJ.1 ((h y).2 zh) with o | o
      .exact o.symm
      .have:=hb.1 x e;have:=ha.1 y o;omega
    subst e;congr 1;refine ih b ha.2 hb.2 λn=>⟨λhn=>?_,λhn=>?_⟩
    .rcases zJ.1 ((h n).1 (zw _ hn)) with e | e
     .subst e;have:=ha.1 n hn;omega
     .exact e
    .rcases zJ.1 ((h n).2 (zw _ hn)) with e | e
     .subst e;have:=hb.1 n hn;omega
     .exact e
 refine key _ _ (q.up.filter _) ?_ λn=>?_
 .rw[zbn];refine zbe (λ{a b} ha hb h=>?_) (oT (D5.2 hR)).2.2;show (ce s (F9 a)).Val.Serial<(ce s (F9 b)).Val.Serial;rwa [Mq hR (r8 hR ha),Mq hR (r8 hR hb)] at h
 .rw[zj,zn];constructor
  .rintro⟨hn,ha⟩;obtain⟨i,hi,ti,rfl⟩:=(q.mem n).1 hn;have r:(ce s i).State=1:=by simpa[Sh.nd] using ha
   have hA:At s (cY s i) i:=⟨hi,r,rfl⟩;exact⟨cY s i,(lf hR).2 ⟨i,hA⟩,by rw[hA.d.F9 hR]⟩
  .rintro⟨h,hh,rfl⟩;have hA:=r8 hR hh;exact⟨(q.mem _).2 ⟨F9 h,hA.1,hA.d.2.1,rfl⟩,by simp[Sh.nd,hA.2.1]⟩
end
def gj(m:a8):List Int:=qf ⟨m.Tasks,30⟩
def Cn(m:a8)(s:Int):Nat:=L0 m.Roots s+((m.Nodes.filter (·.Alive)).map λn=>L0 n.Fields s).sum+L0 (m.Pairs.map (·.Val)) s+L0 (gj m) s
theorem SC:∀ {t:Tb},HR t->(yA t).Pairwise λa b=>a.Key≠b.Key:=by
 intro t hR;have key:∀(l:Tb),(∀i j,i<l.length->j<l.length->(l.getD i ⟨0,0,0⟩).State=1->(l.getD j ⟨0,0,0⟩).State=1->(l.getD i ⟨0,0,0⟩).Key=(l.getD j ⟨0,0,0⟩).Key->i=j)->(yA l).Pairwise λa b=>a.Key≠b.Key:=by
  intro l;induction l with
  | nil=>intro _;exact List.Pairwise.nil
  | cons p l ih=>
   intro h;have o:=ih λi j hi hj a b e=>by
    have:=h (i+1) (j+1) (Ω hi) (Ω hj) (Ω a) (Ω b) (Ω e);omega
   unfold yA at o |-;rw[pm];split
   .rename_i hp;rw[zT,or];refine⟨λa ha=>?_,o⟩;obtain⟨u,hu,rfl⟩:=zn.1 ha;rw[zj] at hu;obtain⟨k,hk,e⟩:=u8 hu.1;intro eb;have:=h 0 (k+1) Ψ (Ω hk) (Ω hp) (by simp[zd,hk,e];simpa using hu.2) (by simp[zd,hk,e];exact eb);omega
   .exact o
 exact key t λi j hi hj a b e=>hR.uq i j hi hj a b e
section
variable{σ:Int->Int}{x:Hp}{m:a8}(hS:lS x)(q:u7 σ x m)
include hS q
theorem u7.perm:m.Pairs.Perm ((yA x.T).map λp=>⟨σ p.Key,σ p.Val⟩):=by
 have o:m.Pairs.Nodup:=q.p1.imp λh e=>h (by rw[e]);have r:((yA x.T).map λp=>(⟨σ p.Key,σ p.Val⟩:l5)).Nodup:=by
  rw[List.Nodup,zbn];refine zbe (λ{a b} ha hb h e=>h ?_) (SC hS.hr);exact q.gd.inl hS.sr (hS.pr _ _ (gw.1 ha)).1 (hS.pr _ _ (gw.1 hb)).1 (zY l5.Key e)
 rw[List.perm_ext_iff_of_nodup o r];intro p;rw[q.p2,zn];constructor
 .rintro⟨k,v,h,rfl⟩;exact⟨⟨k,v⟩,gw.2 h,rfl⟩
 .rintro⟨⟨k,v⟩,h,rfl⟩;exact⟨k,v,gw.1 h,rfl⟩
theorem u7.Vu:gj m=(qf x.Q).map σ:=by
 unfold gj qf;rw[q.tk];show List.map (·.At) (((x.Q.L.map (tx σ)).filter (·.Kind==1)))=_;rw[zco,za5,za5];have e:((λt:k7=>t.Kind==1) ∘ tx σ)=λt=>t.Kind==1:=by
  funext t
  show ((tx σ t).Kind==1)=_;unfold tx;split;·rename_i h;simp[h]
  .rfl
 rw[e];refine zt λt ht=>?_;have:=(zj.1 ht).2;show (tx σ t).At=σ t.At;unfold tx;rw[zb (Ω this)]
theorem YD:∀v∈qf x.Q,v=0\/v∈lv x.S:=λv hv=>by
 obtain⟨t,ht,k,rfl⟩:=np.1 hv;rcases (hS.tk t ht).2.2 with h | h
 .exact .inr h.2.1
 .rw[h.1] at k;exact absurd k Θ
theorem u7.ny{h:Int}(hh:h∈lv x.S):Cn m (σ h)=ny x h:=by
 have hR:=hS.sr;have p:=q.gd.ps hR hh;have e:=(L5 hR hh).1;unfold Cn Sh.ny;have ea:L0 m.Roots (σ h)=L0 (nz x.Roots) h:=by rw[q.ro,AT hR q.gd hS.rt hh,rJ]
 have eb:((m.Nodes.filter (·.Alive)).map λn=>L0 n.Fields (σ h)).sum=na x.S h:=by
  rw[q.nd.alive hR,za5];unfold na;congr 1;refine zt λa ha=>?_;show L0 ((Sh.ce x.S (F9 a)).Val.Fields.map σ) (σ h)=_;rw[<-J2 hR (r8 hR ha),AT hR q.gd (hS.fl a ha) hh];exact (rJ _ _).symm
 have ec:L0 (m.Pairs.map (·.Val)) (σ h)=own x.T h:=by
  have:L0 (m.Pairs.map (·.Val)) (σ h)=L0 (((yA x.T).map (·.Val)).map σ) (σ h):=by
   unfold L0;split;·rfl
   .rw[za5];have:=(q.perm hS).map (·.Val);rw[za5] at this;exact List.perm_iff_count.1 this _
  rw[this,AT hR q.gd (λv hv=>?_) hh]
  .unfold L0 own;rw[za Δ,List.count_eq_countP,List.countP_map];refine List.countP_congr λu hu=>?_;simp;omega
  .obtain⟨u,hu,rfl⟩:=zn.1 hv;exact .inr (hS.pr _ _ (gw.1 hu)).2
 have ed:L0 (gj m) (σ h)=L0 (qf x.Q) h:=by rw[q.Vu hS,AT hR q.gd (YD hS q) hh]
 rw[ea,eb,ec,ed];unfold qj;rw[H3];omega
end
def cQ(l:List b8)(s:Int)(f:b8->b8):List b8:=l.map λn=>if n.Serial=s then f n else n
theorem Kx(l:List b8)(s:Int){f:b8->b8}(h:∀n∈l,n.Serial=s->f n=n):cQ l s f=l:=by
 unfold cQ;conv=>rhs;rw[<-List.map_id l]
 refine zt λn hn=>?_;split;·rename_i e;exact h n hn e
 .rfl
section
variable{σ:Int->Int}{s s':b6}(hR:SR s){l:List b8}(q:Sn σ s l)
include hR q
theorem Sn.same(hl:s'.S.b7.length=s.S.b7.length)(h:∀i,i<s.S.b7.length->(Th (ce s' i)↔Th (ce s i))/\(Th (ce s i)->Sh.nd σ s' i=Sh.nd σ s i)):Sn σ s' l:=by
 refine⟨q.up,λn=>(q.mem n).trans ⟨?_,?_⟩⟩
 .rintro⟨i,hi,ti,e⟩;exact⟨i,by rw[hl];exact hi,(h i hi).1.2 ti,e.trans ((h i hi).2 ti).symm⟩
 .rintro⟨i,hi,ti,e⟩;rw[hl] at hi;exact⟨i,hi,(h i hi).1.1 ti,e.trans ((h i hi).2 ((h i hi).1.1 ti))⟩
variable{i:Nat}(hi:i<s.S.b7.length)(hl:s'.S.b7.length=s.S.b7.length)(ho:∀j,j≠i->ce s' j=ce s j)
include hi hl ho
omit hR q hi hl in
theorem nx {j:Nat} (h:j≠i):Sh.nd σ s' j=Sh.nd σ s j:=by
 unfold Sh.nd;rw[ho j h]
theorem Sn.A3(ht:Th (ce s i))(u:Th (ce s' i))(hs:(ce s' i).Val.Serial=(ce s i).Val.Serial){f:b8->b8}(hf:f (Sh.nd σ s i)=Sh.nd σ s' i):Sn σ s' (cQ l (ce s i).Val.Serial f):=by
 have h0:∀n∈l,n.Serial=(ce s i).Val.Serial->n=Sh.nd σ s i:=λn hn e=>q.one hR hn (q.at hR hi ht) e;have o:∀n∈l,(if n.Serial=(ce s i).Val.Serial then f n else n).Serial=n.Serial:=λn hn=>by
  split
  .rename_i e;rw[h0 n hn e,hf];exact hs
  .rfl
 constructor
 .unfold cQ;rw[zbn];refine zbe (λ{a b} ha hb h=>?_) q.up;rw[o a ha,o b hb];exact h
 .intro n;unfold cQ;rw[zn];constructor
  .rintro⟨k,hk,rfl⟩;split
   .rename_i e;refine⟨i,by rw[hl];exact hi,u,?_⟩;rw[h0 k hk e,hf]
   .rename_i e;obtain⟨j,hj,tj,eb⟩:=(q.mem k).1 hk;have r:j≠i:=λc=>e (by rw[eb,c];rfl);exact⟨j,by rw[hl];exact hj,by rw[ho j r];exact tj,by rw[nx ho r];exact eb⟩
  .rintro⟨j,hj,tj,rfl⟩;by_cases c:j=i
   .subst c;refine⟨Sh.nd σ s j,q.at hR hi ht,?_⟩;exact (zb rfl).trans hf
   .rw[hl] at hj;rw[ho j c] at tj;refine⟨Sh.nd σ s j,q.at hR hj tj,?_⟩;rw[nx ho c];exact za λe=>c (hR.dif j i hj hi tj ht e)
theorem Sn.del(ht:Th (ce s i))(hn:¬Th (ce s' i)):Sn σ s' (l.filter λn=>n.Serial != (ce s i).Val.Serial):=by
 refine⟨q.up.filter _,λn=>?_⟩;rw[zj];constructor
 .rintro⟨hk,e⟩;obtain⟨j,hj,tj,rfl⟩:=(q.mem n).1 hk;have o:j≠i:=λc=>by subst c;simp[Sh.nd] at e
  exact⟨j,by rw[hl];exact hj,by rw[ho j o];exact tj,(nx ho o).symm⟩
 .rintro⟨j,hj,tj,rfl⟩;have o:j≠i:=λc=>hn (c▸tj);rw[hl] at hj;rw[ho j o] at tj;rw[nx ho o];refine⟨q.at hR hj tj,?_⟩;have:(Sh.nd σ s j).Serial≠(ce s i).Val.Serial:=λe=>o (hR.dif j i hj hi tj ht e);simpa using this
theorem Sn.add(hn:¬Th (ce s i))(ht:Th (ce s' i))(hs:s.Serial<(ce s' i).Val.Serial):Sn σ s' (l ++ [Sh.nd σ s' i]):=by
 constructor
 .rw[za8];refine⟨q.up,List.pairwise_singleton ..,λa ha b hb=>?_⟩;rw[zu] at hb;subst hb;have:=(q.pos hR ha).2;show a.Serial<(ce s' i).Val.Serial;omega
 .intro n;rw[zH,zu];constructor
  .rintro (h | rfl)
   .obtain⟨j,hj,tj,rfl⟩:=(q.mem n).1 h;have e:j≠i:=λc=>hn (c▸tj);exact⟨j,by rw[hl];exact hj,by rw[ho j e];exact tj,(nx ho e).symm⟩
   .exact⟨i,by rw[hl];exact hi,ht,rfl⟩
  .rintro⟨j,hj,tj,rfl⟩;by_cases c:j=i
   .subst c;exact .inr rfl
   .rw[hl] at hj;rw[ho j c] at tj;rw[nx ho c];exact .inl (q.at hR hj tj)
end
abbrev yj(m:a8)(l:List b8):a8:=⟨l,m.Slots,m.Gens,m.Last,m.Places,m.Serial,m.Roots,m.b7,m.Pairs,m.Tasks,m.Progs⟩
abbrev wRo(m:a8)(l:List Int):a8:=⟨m.Nodes,m.Slots,m.Gens,m.Last,m.Places,m.Serial,l,m.b7,m.Pairs,m.Tasks,m.Progs⟩
abbrev PF(m:a8)(l:List l4):a8:=⟨m.Nodes,m.Slots,m.Gens,m.Last,m.Places,m.Serial,m.Roots,l,m.Pairs,m.Tasks,m.Progs⟩
abbrev WT(m:a8)(l:List l5):a8:=⟨m.Nodes,m.Slots,m.Gens,m.Last,m.Places,m.Serial,m.Roots,m.b7,l,m.Tasks,m.Progs⟩
abbrev Ap(m:a8)(l:List k7):a8:=⟨m.Nodes,m.Slots,m.Gens,m.Last,m.Places,m.Serial,m.Roots,m.b7,m.Pairs,l,m.Progs⟩
def uC(n:b8):b8:=⟨n.Serial,n.Slot,n.Prog,n.Started,n.Alive,true,n.Fields⟩
def uD(m:a8)(s:Int):a8:=yj m (cQ m.Nodes s uC)
def cR(m:a8)(s:Int):a8:=if s≠0/\11<=Cn m s then uD m s else m
def ab(m:a8)(r:Nat)(s:Int):a8:=wRo (cR m s) (m.Roots.set r s)
theorem X4(m:a8)(s:Int):cR m s=yj m (cR m s).Nodes:=by
 unfold cR uD;split <;> rfl
theorem Gd.up{σ:Int->Int}{s s':b6}(g:Gd σ s)(h:∀k i,Y1 s' k i->Y1 s k i/\(ce s' i).Val.Serial=(ce s i).Val.Serial):Gd σ s':=
 ⟨g.z,λk i q=>by rw[g.f k i (h k i q).1,(h k i q).2]⟩
theorem X9{n:Nat}{f g:Nat->Int}(h:∀i,i<n->f i=g i):(List.range n).map f=(List.range n).map g:=zt λi hi=>h i (za1.1 hi)
section
variable{σ:Int->Int}{x:Hp}{m:a8}(hR:SR x.S)(q:u7 σ x m)
include hR q
theorem u7.put{h:Int}(hh:h∈lv x.S){o:p9}(hs:o.Serial=(ob x.S h).Serial)(ho:Ds x.S o){f:b8->b8}
  (hf:f (Sh.nd σ x.S (F9 h))=⟨o.Serial,(F9 h:Nat),o.Prog,o.Started,true,decide (12<=o.Strong),o.Fields.map σ⟩):u7 σ (wS x (eC x.S h o)) (yj m (cQ m.Nodes (σ h) f)):=by
 have p:=r8 hR hh;have hc:=λj=>CP hR hh hs ho j;have hl:(eC x.S h o).S.b7.length=x.S.S.b7.length:=M6 ..;have e:o.Serial=(Sh.ce x.S (F9 h)).Val.Serial:=by rw[hs,J2 hR p]
 have same:∀i,(Sh.ce (eC x.S h o) i).State=(Sh.ce x.S i).State/\(Sh.ce (eC x.S h o) i).Gen=(Sh.ce x.S i).Gen/\(Sh.ce (eC x.S h o) i).Val.Serial=(Sh.ce x.S i).Val.Serial:=λi=>by
  rw[hc i];split;·rename_i c;subst c;exact⟨rfl,rfl,e⟩
  .exact⟨rfl,rfl,rfl⟩
 have sT:∀i,Th (Sh.ce (eC x.S h o) i)↔Th (Sh.ce x.S i):=λi=>by unfold Th;rw[(same i).1]
 refine⟨q.gd.up λk i a=>⟨(Hs hR hh hs ho).1 a,(same i).2.2⟩,?_,?_,?_,q.la,q.npl,q.se,q.ro,q.ce,q.p1,q.p2,q.tk⟩
 .have:=q.nd.A3 (s':=eC x.S h o) hR p.1 hl (λj hj=>by rw[hc j,za hj]) p.d.2.1 ((sT _).2 p.d.2.1) (same _).2.2 (f:=f) (by
   rw[hf];unfold Sh.nd;rw[hc,zb rfl,zG p.2.1])
  rw[q.gd.f h _ p.d];exact this
 .show m.Slots=_;rw[q.sl];show _=List.map _ (List.range (eC x.S h o).S.b7.length);rw[hl];refine X9 λi hi=>?_;unfold Tl;rw[(same i).2.2,(same i).1];by_cases c:Th (Sh.ce x.S i)
  .rw[zb c,zb ((sT i).2 c)]
  .rw[za c,za λd=>c ((sT i).1 d)]
 .show m.Gens=_;rw[q.ge];show _=List.map _ (List.range (eC x.S h o).S.b7.length);rw[hl];exact X9 λi hi=>(same i).2.1.symm
theorem u7.DU{h:Int}(hh:h∈lv x.S){n:Int}(hn:0<=n):u7 σ (wS x (eC x.S h (DU (ob x.S h) n))) (yj m (cQ m.Nodes (σ h) λk=>⟨k.Serial,k.Slot,k.Prog,k.Started,k.Alive,decide (12<=n),k.Fields⟩)):=by
 have ho:=N7 hR hh;have p:=r8 hR hh;refine q.put (o:=Sh.DU (ob x.S h) n) hR hh rfl ⟨ho.s1,ho.s2,hn,ho.wk,ho.p1,ho.p2,ho.fl⟩ ?_;unfold Sh.nd;rw[J2 hR p,zG p.2.1]
theorem u7.TH(h:Int):u7 σ (bD x h) m:=by
 unfold bD wK;split
 .rename_i hh;have p:=r8 hR hh;have:=q.DU hR hh (n:=mJ (ob x.S h).Strong) (U2 (N7 hR hh).st);rw[Kx] at this;·exact this
  .intro n hn e;have:n=Sh.nd σ x.S (F9 h):=q.nd.one hR hn (q.nd.at hR p.1 p.d.2.1) Δj;rw[this];unfold Sh.nd;congr 1;rw[J2 hR p];refine zcg.2 ?_;unfold mJ;split;·omega
   .split <;> omega
 .exact q
theorem u7.ZJ{h:Int}(hh:h=0\/h∈lv x.S){k:Nat}(hk:h∈lv x.S->(ob x.S h).Strong<12->(ob x.S h).Strong=k):u7 σ (I3 x h) (if σ h≠0/\11<=k then uD m (σ h) else m):=by
 unfold I3 wK;rcases hh with e | hh
 .subst e;rw[za (gq hR),za (λc=>c.1 q.gd.z)];exact q
 .rw[zb hh];have p:=r8 hR hh;have h0:σ h≠0:=by have:=q.gd.ps hR hh;omega
  have hn:=(N7 hR hh).st;have Q:=q.DU hR hh (n:=aK (ob x.S h).Strong) (H5 hn);have one:∀n∈m.Nodes,n.Serial=σ h->n=Sh.nd σ x.S (F9 h):=λn hn e=>q.nd.one hR hn (q.nd.at hR p.1 p.d.2.1) Δj;have o:12<=aK (ob x.S h).Strong↔11<=(ob x.S h).Strong:=by
   unfold aK;split;·omega
   .split <;> omega
  have r:∀n∈m.Nodes,n.Serial=σ h->n.Stuck=decide (12<=(ob x.S h).Strong):=λn hn e=>by
   rw[one n hn e,J2 hR p];rfl
  by_cases c:11<=(ob x.S h).Strong
  .have e1':(yj m (cQ m.Nodes (σ h) λk=>⟨k.Serial,k.Slot,k.Prog,k.Started,k.Alive,decide (12<=aK (ob x.S h).Strong),k.Fields⟩))=uD m (σ h):=by
    rw[zG (o.2 c)];rfl
   rw[e1'] at Q;split;·exact Q
   .rename_i c2;have v:12<=(ob x.S h).Strong:=by
     rcases Int.lt_or_le (ob x.S h).Strong 12 with u | u
     .exact absurd ⟨h0,by have:=hk hh u;omega⟩ c2
     .exact u
    have:uD m (σ h)=m:=by
     unfold uD;rw[Kx];intro n hn e;have:=r n hn e;rw[zG v] at this;unfold uC;rw[<-this]
    rw[this] at Q;exact Q
  .have e1':(yj m (cQ m.Nodes (σ h) λk=>⟨k.Serial,k.Slot,k.Prog,k.Started,k.Alive,decide (12<=aK (ob x.S h).Strong),k.Fields⟩))=m:=by
    rw[we (λd=>c (o.1 d)),Kx];intro n hn e;have:=r n hn e;rw[we Δ] at this;rw[<-this]
   rw[e1'] at Q;rw[za (λd=>by have:=hk hh Δ;omega)];exact Q
end
theorem u7.a1n{σ:Int->Int}{m:a8}:∀(l:List Int) {x:Hp},SR x.S->u7 σ x m->u7 σ (l.foldl bD x) m
 | [],_,_,h=>h
 | v::l,x,hR,h=>by
  rw[ww];refine u7.a1n l (x:=bD x v) ?_ (h.TH hR v);have:=jE [v] hR;exact this.1.sr
section
variable{σ:Int->Int}{x:Hp}{m:a8}(hS:lS x)(q:u7 σ x m)
include hS q
theorem u7.I3{h:Int}(hf:bH x [])(hh:h=0\/h∈lv x.S):u7 σ (I3 x h) (cR m (σ h)):=
 q.ZJ hS.sr hh λhl hs=>by rw[q.ny hS hl,hf h hl hs,H6];rfl
theorem u7.roots(r:Nat)(h:Int):u7 σ (wR x (x.Roots.set r h)) (wRo m (m.Roots.set r (σ h))):=
 ⟨q.gd,q.nd,q.sl,q.ge,q.la,q.npl,q.se,by rw[q.ro];exact (zca ..).symm,q.ce,q.p1,q.p2,q.tk⟩
theorem u7.Xx{r:Nat}{h:Int}{k:Nat}(hh:h=0\/h∈lv x.S)(hk:h∈lv x.S->(ob x.S h).Strong<12->(ob x.S h).Strong=k):u7 σ (K1 x r h) (wRo (if σ h≠0/\11<=k then uD m (σ h) else m) (m.Roots.set r (σ h))):=by
 unfold K1;have Q:=q.ZJ hS.sr hh hk;refine u7.TH (x:=wR (Sh.I3 x h) (x.Roots.set r h)) (mT hS.sr h) ?_ _;have e:(if σ h≠0/\11<=k then uD m (σ h) else m).Roots=m.Roots:=by split <;> rfl
 have ex:(Sh.I3 x h).Roots=x.Roots:=by rw[ru]
 rw[<-ex,<-e];exact⟨Q.gd,Q.nd,Q.sl,Q.ge,Q.la,Q.npl,Q.se,by rw[Q.ro];exact (zca ..).symm,Q.ce,Q.p1,Q.p2,Q.tk⟩
theorem u7.K1{r:Nat}{h:Int}(hf:bH x [])(hh:h=0\/h∈lv x.S):u7 σ (K1 x r h) (ab m r (σ h)):=by
 have:=q.Xx hS (r:=r) hh (k:=Cn m (σ h)) λhl hs=>by rw[q.ny hS hl,hf h hl hs,H6];rfl
 exact this
end
abbrev Xj(n:b8)(l:List Int):b8:=⟨n.Serial,n.Slot,n.Prog,n.Started,n.Alive,n.Stuck,l⟩
section
variable{σ:Int->Int}{x:Hp}{m:a8}(hS:lS x)(q:u7 σ x m)
include hS q
theorem u7.cW{h:Int}(hf:bH x [])(hh:h∈lv x.S){k:Nat}{v:Int}(hv:v=0\/v∈lv x.S):u7 σ (cW x h k v) (yj (cR m (σ v)) (cQ (cR m (σ v)).Nodes (σ h) λn=>Xj n (((ob x.S h).Fields.map σ).set k (σ v)))):=by
 have hR:=hS.sr;have Q:=q.I3 hS hf hv;have Ae:yl x.S (Sh.I3 x v).S:=K9 hR v λc=>H5;have u:h∈lv (Sh.I3 x v).S:=by rw[Ae.lv];exact hh
 have r:=Ae.sr;have ho:=N7 r u;have p:=r8 r u;have hfl:(ob (Sh.I3 x v).S h).Fields=(ob x.S h).Fields:=by
  obtain⟨n,e⟩:=Ae.ob h Ωv;rw[e]
 have P:=Q.put (o:=ub (ob (Sh.I3 x v).S h) ((ob x.S h).Fields.set k v)) r u rfl ⟨ho.s1,ho.s2,ho.st,ho.wk,ho.p1,ho.p2,by
  show ((ob x.S h).Fields.set k v).length<=4;rw[zaq,<-hfl];exact ho.fl⟩ (f:=λn=>Xj n (((ob x.S h).Fields.map σ).set k (σ v))) (by
  unfold Sh.nd;rw[J2 r p,zG p.2.1,zca])
 unfold Sh.cW;refine u7.TH (x:=wS (Sh.I3 x v) _) ?_ P _;exact dh r u rfl ⟨ho.s1,ho.s2,ho.st,ho.wk,ho.p1,ho.p2,by
  show ((ob x.S h).Fields.set k v).length<=4;rw[zaq,<-hfl];exact ho.fl⟩
end
theorem Ht{t:Tb}(hT:HR t){k v:Int}{r:Tb × Int × Int}(h:Y9 t k v=some r)(h0:r.2.2=0)(k' o:Int):Has r.1 k' o↔(k'≠k/\Has t k' o)\/(v≠0/\k'=k/\o=v):=by
 obtain⟨u,hu,_,_,c⟩:=fB hT k v;rw[hu] at h;obtain rfl:=zK h;rcases c with ⟨_,rfl⟩ | ⟨hk,hv,c⟩ | ⟨hk,hv,c⟩;·exact absurd (show (2:Int)=0 from h0) Θ
 .subst hv;rcases c with ⟨i,hi,rfl⟩ | ⟨hn,rfl⟩;·rw[vd hT hi];simp
  .constructor
   .intro hh;refine .inl ⟨λe=>?_,hh⟩;subst e;obtain⟨i,hi,_⟩:=hh;exact hn i hi
   .rintro (⟨_,hh⟩ | ⟨c,_⟩);·exact hh
    .exact absurd rfl c
 .have key:∀ {a:Tb},AY t k v (a,0)->(Has a k' o↔(k'≠k/\Has t k' o)\/(v≠0/\k'=k/\o=v)):=λP=>by
   rw[AK hT P rfl];constructor
   .rintro (⟨a,b⟩ | c);·exact .inr ⟨hv,a,b⟩
    .exact .inl c
   .rintro (c | ⟨_,a,b⟩);·exact .inr c
    .exact .inl ⟨a,b⟩
  rcases c with ⟨i,hi,rfl⟩ | ⟨d,_,_,_,hp,rfl⟩ | ⟨_,_,rfl⟩;·exact key (.old i hi)
  .exact key hp
  .exact absurd (show (8:Int)=0 from h0) Θ
theorem Wy{t:Tb}(hT:HR t){k v:Int}{r:Tb × Int × Int}(h:Y9 t k v=some r):r.1.length=t.length:=by
 obtain⟨u,hu,_,hl,_⟩:=fB hT k v;rw[hu] at h;obtain rfl:=zK h;exact hl
section
variable{σ:Int->Int}{x:Hp}{m:a8}(hS:lS x)(q:u7 σ x m)
include hS q
theorem u7.kc{k v:Int}(hf:bH x [])(hk:k∈lv x.S)(hv:v=0\/v∈lv x.S){r:Tb × Int × Int}(h:Y9 x.T k v=some r)(h0:r.2.2=0) :
  u7 σ (kc x v r.1 r.2.1) (WT (cR m (σ v)) ((m.Pairs.filter λp=>p.Key != σ k)++if v=0 then [] else [⟨σ k,σ v⟩])):=by
 have hR:=hS.sr;have Q:=q.I3 hS hf hv;unfold Sh.kc;refine u7.TH (x:=wT (Sh.I3 x v) r.1) (mT hR v) ?_ _;refine⟨Q.gd,Q.nd,Q.sl,Q.ge,Q.la,?_,Q.se,Q.ro,Q.ce,?_,λp=>?_,Q.tk⟩
 .show _=((r.1.length:Nat):Int);rw[Wy hS.hr h];have:(Sh.I3 x v).T=x.T:=by rw[ru]
  rw[<-this];exact Q.npl
 .show List.Pairwise _ _;rw[za8];refine⟨q.p1.filter _,?_,λa ha b hb=>?_⟩
  .split;·exact List.Pairwise.nil
   .exact List.pairwise_singleton ..
  .split at hb;·cases hb
   .rw[zu] at hb;subst hb;have:=(zj.1 ha).2;simpa using this
 .show p∈_↔∃k' o,Has r.1 k' o/\_;rw[zH,zj,q.p2];constructor
  .rintro (⟨⟨k',o,hh,rfl⟩,c⟩ | c)
   .refine⟨k',o,(Ht hS.hr h h0 _ _).2 (.inl ⟨λe=>?_,hh⟩),rfl⟩;subst e;simp at c
   .split at c;·cases c
    .rename_i u;rw[zu] at c;exact⟨k,v,(Ht hS.hr h h0 _ _).2 (.inr ⟨u,rfl,rfl⟩),c⟩
  .rintro⟨k',o,hh,rfl⟩;rcases (Ht hS.hr h h0 _ _).1 hh with ⟨c,hh⟩ | ⟨u,rfl,rfl⟩
   .refine .inl ⟨⟨k',o,hh,rfl⟩,?_⟩;have:σ k'≠σ k:=λe=>c (q.gd.inl hR (hS.pr _ _ hh).1 hk e);simpa using this
   .right;rw[za u];exact zu.2 rfl
end
def Ez(m:a8)(n:b8):a8:=
 ⟨m.Nodes.filter (λk=>k.Serial != n.Serial),m.Slots.set n.Slot.toNat (if m.Gens.getD n.Slot.toNat 0=m.Last then -1 else 0),
  if m.Gens.getD n.Slot.toNat 0=m.Last then m.Gens else m.Gens.set n.Slot.toNat (m.Gens.getD n.Slot.toNat 0+1),m.Last,m.Places,m.Serial,m.Roots,m.b7,m.Pairs,m.Tasks,m.Progs⟩
def pH(m:a8)(s:Int):a8:=match m.Nodes.find? (λn=>n.Serial==s) with
 | none=>m
 | some n=>if n.Alive=true\/0<iZ m.b7 s then m else Ez m n
theorem xW{n:Nat}(f:Nat->Int){i:Nat}(v:Int):((List.range n).map f).set i v=(List.range n).map λj=>if j=i then v else f j:=by
 refine zb2 Ψ λj e o=>?_;rw[zcw];simp only[zx,List.getElem_range];by_cases c:i=j
 .rw[zb c,zb c.symm]
 .rw[za c,za (zaz c)]
def JW(s:b6)(i:Nat):g7:=if (ce s i).Gen=s.S.Last then ⟨3,(ce s i).Gen,z0⟩ else ⟨0,(ce s i).Gen+1,z0⟩
theorem YA(s:b6)(i:Nat):¬Th (JW s i):=by
 unfold JW Th;split <;> simp
section
variable{σ:Int->Int}{x:Hp}{m:a8}(hR:SR x.S)(q:u7 σ x m)
include hR q
theorem u7.Ez{i:Nat}(hi:i<x.S.S.b7.length)(ht:Th (Sh.ce x.S i)):u7 σ (wS x (K8 x.S i (JW x.S i))) (Ez m (Sh.nd σ x.S i)):=by
 have hc:=λj=>O2 hi (JW x.S i) j;have hl:=ae x.S i (JW x.S i);have o:=YA x.S i;have v:m.Gens.getD i 0=(Sh.ce x.S i).Gen:=by
  rw[q.ge,zd,zD,List.getElem?_range hi];rfl
 have u:(Sh.nd σ x.S i).Slot.toNat=i:=by unfold Sh.nd;simp
 unfold Sh.Ez;rw[u,v,q.la];refine⟨q.gd.up λk j a=>?_,?_,?_,?_,rfl,q.npl,q.se,q.ro,q.ce,q.p1,q.p2,q.tk⟩
 .have r:j≠i:=λe=>by
   have:=a.2.1;change Th (Sh.ce (K8 x.S i (JW x.S i)) j) at this
   rw[hc,zb e] at this;exact o this
  refine⟨(Ic hi _ r).1 a,?_⟩;change (Sh.ce (K8 x.S i (JW x.S i)) j).Val.Serial=_
  rw[hc,za r]
 .exact q.nd.del (s':=K8 x.S i (JW x.S i)) hR hi hl (λj hj=>by rw[hc,za hj]) ht (by rw[hc,zb rfl];exact o)
 .show _=List.map (λj=>Tl (Sh.ce (K8 x.S i (JW x.S i)) j)) (List.range (K8 x.S i (JW x.S i)).S.b7.length);show m.Slots.set i _=_;rw[hl,q.sl,xW];refine X9 λj hj=>?_;rw[hc];by_cases c:j=i
  .rw[zb c,zb c];unfold Tl;rw[za o];unfold JW;split <;> rfl
  .rw[za c,za c]
 .show _=List.map (λj=>(Sh.ce (K8 x.S i (JW x.S i)) j).Gen) (List.range (K8 x.S i (JW x.S i)).S.b7.length);show (if (Sh.ce x.S i).Gen=x.S.S.Last then m.Gens else m.Gens.set i ((Sh.ce x.S i).Gen+1))=_;rw[hl,q.ge];unfold JW;split
  .rename_i c;refine X9 λj hj=>?_;rw[O2 hi];split;·rename_i e;rw[e]
   .rfl
  .rw[xW];refine X9 λj hj=>?_;rw[O2 hi];split <;> rfl
theorem u7.alike{s':b6}(hl:s'.S.b7.length=x.S.S.b7.length)(e:s'.S.Last=x.S.S.Last)(o:s'.Serial=x.S.Serial)
  (h:∀i,i<x.S.S.b7.length->(Sh.ce s' i).State=(Sh.ce x.S i).State/\(Sh.ce s' i).Gen=(Sh.ce x.S i).Gen/\(Sh.ce s' i).Val.Serial=(Sh.ce x.S i).Val.Serial/\(Sh.ce s' i).Val.Prog=(Sh.ce x.S i).Val.Prog/\(Sh.ce s' i).Val.Started=(Sh.ce x.S i).Val.Started/\(Sh.ce s' i).Val.Strong=(Sh.ce x.S i).Val.Strong/\(Sh.ce s' i).Val.Fields=(Sh.ce x.S i).Val.Fields):u7 σ (wS x s') m:=by
 have sT:∀i,i<x.S.S.b7.length->(Th (Sh.ce s' i)↔Th (Sh.ce x.S i)):=λi hi=>by unfold Th;rw[(h i hi).1]
 refine⟨q.gd.up λk i a=>?_,q.nd.same hR hl λi hi=>⟨sT i hi,λht=>?_⟩,?_,?_,by rw[q.la];exact e.symm,q.npl,by rw[q.se];exact o.symm,q.ro,q.ce,q.p1,q.p2,q.tk⟩
 .have hi:i<x.S.S.b7.length:=by have:=a.1;rw[<-hl];exact this
  refine⟨⟨hi,(sT i hi).1 a.2.1,?_⟩,(h i hi).2.2.1⟩;have:=a.2.2;change k=1+(i:Int)+32*(Sh.ce s' i).Gen at this
  rw[(h i hi).2.1] at this;exact this
 .obtain⟨r,C,u,v,w,A,B⟩:=h i hi;unfold Sh.nd;rw[r,u,v,w,A,B]
 .show _=List.map _ (List.range s'.S.b7.length);rw[hl,q.sl];refine X9 λi hi=>?_;unfold Tl;rw[(h i hi).2.2.1,(h i hi).1];by_cases c:Th (Sh.ce x.S i)
  .rw[zb c,zb ((sT i hi).2 c)]
  .rw[za c,za λd=>c ((sT i hi).1 d)]
 .show _=List.map _ (List.range s'.S.b7.length);rw[hl,q.ge];exact X9 λi hi=>(h i hi).2.1.symm
theorem u7.find{h:Int}{i:Nat}(p:Y1 x.S h i):m.Nodes.find? (λn=>n.Serial==σ h)=some (Sh.nd σ x.S i):=by
 have hs:=q.gd.f h i p;rw[zbb];obtain⟨j,hj,e⟩:=u8 (q.nd.at hR p.1 p.2.1);refine⟨by rw[hs];exact zZ _,j,hj,e,λk hk=>?_⟩;have:=t7.1 q.nd.up k j Δ hj hk;rw[e] at this;have:m.Nodes[k].Serial≠σ h:=by
  rw[hs];have:m.Nodes[k].Serial<(Sh.ce x.S i).Val.Serial:=this;omega
 simpa using this
theorem u7.a0H:m.Nodes.find? (λn=>n.Serial==0)=none:=by
 rw[zb5];intro n hn e;have:=(q.nd.pos hR hn).1;have:n.Serial=0:=Ω e
 omega
theorem u7.iZ{l:List l4}{h:Int}(hl:∀c∈l,σ c.Target=σ h->c.Target=h)(h0:h≠0)(o:σ h≠0):Sh.iZ (l.map (wx σ)) (σ h)=Sh.iZ l h:=by
 unfold Sh.iZ;rw[List.countP_map];refine List.countP_congr λc hc=>?_;show ((σ h != 0)&&(σ c.Target==σ h))=true↔((h != 0)&&(c.Target==h))=true;have:σ c.Target=σ h↔c.Target=h:=⟨hl c hc,λe=>by rw[e]⟩;simp[h0,o,this]
end
def JZ(m:a8)(w:Nat)(s call:Int):a8:=pH (PF m (m.b7.set w (fR s call))) (m.b7.getD w cz).Target
theorem tQ{m:a8}{s:Int}{n:b8}(h:m.Nodes.find? (λn=>n.Serial==s)=some n):pH m s=if n.Alive=true\/0<iZ m.b7 s then m else Ez m n:=by
 unfold pH;rw[h]
theorem xm{m:a8}{s:Int}(h:m.Nodes.find? (λn=>n.Serial==s)=none):pH m s=m:=by
 unfold pH;rw[h]
theorem MZ{σ:Int->Int}{x:Hp}{m:a8}(hR:SR x.S)(q:u7 σ x m){i:Nat}(hi:i<x.S.S.b7.length)(ht:Th (ce x.S i))(d:Int):u7 σ (wS x (nq x.S i d)) m:=by
 refine q.alike hR (M6 ..) rfl rfl λj hj=>?_;rw[gx hR hi ht];split;·rename_i e;subst e;exact⟨rfl,rfl,rfl,rfl,rfl,rfl,rfl⟩
 .exact⟨rfl,rfl,rfl,rfl,rfl,rfl,rfl⟩
theorem nc{x:Hp}(hS:lS x){c:l4}(hc:c∈x.b7):c.Target=0\/∃i,Y1 x.S c.Target i:=by
 obtain⟨i,hi,rfl⟩:=u8 hc;by_cases e:x.b7[i].Target=0
 .exact .inl e
 .exact .inr ((hS.cl i hi).2.2.2.1 e)
theorem u7.dO{σ:Int->Int}{x:Hp}{m:a8}(hx:M0 x)(q:u7 σ x m){w:Nat}(hw:w<6){h call:Int}(hh:h=0\/h∈lv x.S):u7 σ (dO x w h call) (JZ m w (σ h) call):=by
 have hS:=hx.sh;have hR:=hS.sr;have u:w<x.b7.length:=by rw[hS.c6];exact hw
 have hz:(σ h != 0)=(h != 0):=by
  have:=q.gd.zero hR (RD hR q.gd hh);rw[zbh];simp[this]
 have q1:u7 σ (wC x (x.b7.set w (fR h call))) (PF m (m.b7.set w (fR (σ h) call))):=by
  refine⟨q.gd,q.nd,q.sl,q.ge,q.la,q.npl,q.se,q.ro,?_,q.p1,q.p2,q.tk⟩;show m.b7.set w (fR (σ h) call)=(x.b7.set w (fR h call)).map (wx σ);rw[q.ce,zca];congr 1;unfold wx fR;rw[hz]
 have F:(m.b7.getD w cz).Target=σ (nU x w):=by
  unfold nU;rw[q.ce,zd,zD,zd,zc u];rfl
 have r:nU x w=x.b7[w].Target:=by unfold nU;rw[zd,zc u];rfl
 unfold Sh.dO JZ;rw[F];generalize hy:lQ (wC x (x.b7.set w (fR h call))) h 1=y;generalize hm:PF m (m.b7.set w (fR (σ h) call))=H at q1;have k:∃s2,y=wS (wC x (x.b7.set w (fR h call))) s2/\SR s2/\u7 σ y H/\s2.S.b7.length=x.S.S.b7.length/\∀i,i<x.S.S.b7.length->(Sh.ce s2 i).State=(Sh.ce x.S i).State/\(Sh.ce s2 i).Gen=(Sh.ce x.S i).Gen/\(Sh.ce s2 i).Val.Weak=(Sh.ce x.S i).Val.Weak+if h=cY x.S i/\Th (Sh.ce x.S i) then 1 else 0:=by
  subst hy;unfold lQ;split
  .rename_i c;have c:Y1 x.S h (F9 h):=c;refine⟨_,rfl,xG hR c.1 c.2.1 (by have:=(hR.ok _ c.1 c.2.1).wk;omega),MZ (x:=wC x (x.b7.set w (fR h call))) hR q1 c.1 c.2.1 1,M6 ..,λi hi=>?_⟩;show (Sh.ce (nq x.S (F9 h) 1) i).State=_/\(Sh.ce (nq x.S (F9 h) 1) i).Gen=_/\(Sh.ce (nq x.S (F9 h) 1) i).Val.Weak=_;rw[gx hR c.1 c.2.1];split
   .rename_i e;subst e;exact⟨rfl,rfl,by rw[zb ⟨c.2.2,c.2.1⟩]⟩
   .rename_i e;refine⟨rfl,rfl,?_⟩;rw[za λd=>?_];·omega
    .exact e (Y1.one hR (d.1▸Az hi d.2) c)
  .rename_i c;refine⟨_,rfl,hR,q1,rfl,λi hi=>⟨rfl,rfl,?_⟩⟩;rw[za λd=>?_];·omega
   .refine c ?_;have:=Az hi d.2;show Y1 x.S h (F9 h);rw[d.1,this.F9 hR];exact this
 obtain⟨s2,ey,v,K,V,P⟩:=k;have R:∀c∈x.b7.set w (fR h call),c.Target=0\/∃i,Y1 x.S c.Target i:=λc hc=>by
  rcases zay hc with hc | rfl
  .exact nc hS hc
  .exact RD hR q.gd hh
 rcases nc hS (zl u) with e0 | ⟨p,hp⟩
 .rw[<-r] at e0;rw[e0,q.gd.z,xm (K.a0H (by rw[ey];exact v))];unfold rK;rw[za];·exact K
  .intro c;have:=c.PD (by rw[ey];exact v);omega
 .rw[<-r] at hp;have hpp:=hp.F9 hR;obtain⟨s1',g1,w1⟩:=P p hp.1;have N:Th (Sh.ce s2 p):=by unfold Th;rw[s1'];exact hp.2.1
  have hp2:Y1 s2 (nU x w) p:=⟨by rw[V];exact hp.1,N,by rw[g1];exact hp.2.2⟩;have o:Y1 y.S (nU x w) p:=by rw[ey];exact hp2
  have A:SR y.S:=by rw[ey];exact v
  have h0:nU x w≠0:=by have:=hp.PD hR;omega
  have s0:σ (nU x w)≠0:=by have:=q.gd.pos hR hp;omega
  have ehd:nU x w=cY x.S p:=hp.2.2;have B:(Sh.ce y.S p).Val.Weak=(Sh.iZ (x.b7.set w (fR h call)) (nU x w):Int)+1:=by
   rw[ey];show (Sh.ce s2 p).Val.Weak=_;have a:=Nb u (fR h call) h0;have b:(Sh.ce x.S p).Val.Weak=(Sh.iZ x.b7 (nU x w):Int):=by rw[ehd];exact (hx.wk p hp.1 hp.2.1).1
   rw[w1,b];rw[r] at a |-;rw[zb rfl] at a;by_cases c:h=x.b7[w].Target
   .rw[zb ⟨by rw[c,<-r];exact ehd,hp.2.1⟩];rw[zb (show (fR h call).Target=_ from c)] at a;omega
   .rw[za λd=>c (by rw[d.1,<-r];exact ehd.symm)];rw[za (show ¬(fR h call).Target=_ from c)] at a;omega
  have q3:u7 σ (wS y (nq y.S p (-1))) H:=MZ A K o.1 o.2.1 (-1);have E:SR (nq y.S p (-1)):=xG A o.1 o.2.1 (by rw[B];omega);have C:Y1 (wS y (nq y.S p (-1))).S (nU x w) p:=(AA o.1 _).2 o;have hf:=q3.find E C;have G:(Sh.ce (nq y.S p (-1)) p).State=(Sh.ce y.S p).State:=by rw[gx A o.1 o.2.1,zb rfl]
  have T:Sh.iZ H.b7 (σ (nU x w))=Sh.iZ (x.b7.set w (fR h call)) (nU x w):=by
   have:H.b7=(x.b7.set w (fR h call)).map (wx σ):=by
    have:=K.ce;rw[ey] at this;exact this
   rw[this];exact q.iZ hR (λc hc e=>q.gd.inz hR (R c hc) (.inr ⟨p,hp⟩) e) h0 s0
  rw[tQ hf,T];unfold rK;rw[hpp,zb o];by_cases c:(Sh.ce y.S p).State=2/\(Sh.ce y.S p).Val.Weak=1
  .rw[zb c,za];·exact q3.Ez E C.1 C.2.1
   .rintro (d | d)
    .have:(Sh.ce (nq y.S p (-1)) p).State=1:=by simpa[Sh.nd] using d
     rw[G,c.1] at this;exact absurd this Θ
    .have:=c.2;rw[B] at this;omega
  .rw[za c,zb];·exact q3
   .by_cases d:(Sh.ce y.S p).State=2
    .right;have:(Sh.ce y.S p).Val.Weak≠1:=λe=>c ⟨d,e⟩;rw[B] at this;omega
    .left;have:(Sh.ce y.S p).State=1:=o.2.1.resolve_right d;unfold Sh.nd;exact zG (G.trans this)
def jL(n:b8):b8:=⟨n.Serial,n.Slot,n.Prog,n.Started,false,n.Stuck,[]⟩
def sS(m:a8)(s:Int):a8:=pH (yj m (cQ m.Nodes s jL)) s
theorem vm(s:Int){f:b8->b8}(hf:∀n,(f n).Serial=n.Serial):∀l:List b8,(cQ l s f).find? (λn=>n.Serial==s)=(l.find? λn=>n.Serial==s).map f
 | []=>rfl
 | n::l=>by
  unfold cQ at *;rw[zT,zcz,zcz];by_cases e:n.Serial=s
  .rw[zb e];have:(f n).Serial=s:=(hf n).trans e;simp[e,this]
  .rw[za e];have:(n.Serial==s)=false:=by simpa using e
   rw[this];exact vm s hf l
theorem tY(s:Int){f:b8->b8}(hf:∀n,(f n).Serial=n.Serial):∀l:List b8,(cQ l s f).filter (λn=>n.Serial != s)=l.filter λn=>n.Serial != s
 | []=>rfl
 | n::l=>by
  unfold cQ at *;rw[zT,pm,pm];by_cases e:n.Serial=s
  .rw[zb e];have:(f n).Serial=s:=(hf n).trans e;simp only[this,e,zbm];exact tY s hf l
  .rw[za e];have:(n.Serial != s)=true:=by simpa using e
   simp only[this,ut];have ih:=tY s hf l;unfold cQ at ih;rw[ih]
theorem u7.sS{σ:Int->Int}{x:Hp}{m:a8}(hR:SR x.S)(q:u7 σ x m){d:Int}(hd:d∈lv x.S)(C:(ob x.S d).Strong<12)(hw:(ob x.S d).Weak=Sh.iZ x.b7 d)
  (r:∀c∈x.b7,σ c.Target=σ d->c.Target=d):u7 σ (wS x (Ad x.S d)) (sS m (σ d)):=by
 have p:=r8 hR hd;have h0:d≠0:=by have:=L5 hR hd;omega
 have s0:σ d≠0:=by have:=q.gd.ps hR hd;omega
 have hf:=q.find hR p.d;have B:(Sh.nd σ x.S (F9 d)).Serial=σ d:=(q.gd.f d _ p.d).symm;have w:Sh.iZ m.b7 (σ d)=Sh.iZ x.b7 d:=by rw[q.ce];exact q.iZ hR r h0 s0
 have hf2:(yj m (cQ m.Nodes (σ d) jL)).Nodes.find? (λn=>n.Serial==σ d)=some (jL (Sh.nd σ x.S (F9 d))):=by
  show (cQ m.Nodes (σ d) jL).find? _=_;rw[vm _ (f:=jL) (λ_=>rfl),hf];rfl
 unfold Sh.sS;rw[tQ hf2];have o:Sh.iZ (yj m (cQ m.Nodes (σ d) jL)).b7 (σ d)=Sh.iZ x.b7 d:=w;rw[o];unfold Ad;rw[J2 hR p] at hw C;by_cases c:(Sh.ce x.S (F9 d)).Val.Weak=0
 .have e:JV x.S (F9 d)=JW x.S (F9 d):=by unfold JV JW;rw[zb c]
  rw[e,za]
  .have:Sh.Ez (yj m (cQ m.Nodes (σ d) jL)) (jL (Sh.nd σ x.S (F9 d)))=Sh.Ez m (Sh.nd σ x.S (F9 d)):=by
    unfold Sh.Ez jL;dsimp only;rw[B];have:=tY (σ d) (f:=jL) (λ_=>rfl) m.Nodes;unfold jL at this;rw[this]
   rw[this];exact q.Ez hR p.1 p.d.2.1
  .rintro (a | a);·exact absurd a (by unfold jL;simp)
   .rw[c] at hw;omega
 .have e:JV x.S (F9 d)=⟨2,(Sh.ce x.S (F9 d)).Gen,Ox (Sh.ce x.S (F9 d)).Val⟩:=by unfold JV;rw[za c]
  rw[e,zb (.inr (by have:=(hR.ok _ p.1 p.d.2.1).wk;omega))];have hc:=λj=>O2 p.1 ⟨2,(Sh.ce x.S (F9 d)).Gen,Ox (Sh.ce x.S (F9 d)).Val⟩ j;have hl:=ae x.S (F9 d) ⟨2,(Sh.ce x.S (F9 d)).Gen,Ox (Sh.ce x.S (F9 d)).Val⟩;generalize A:K8 x.S (F9 d) ⟨2,(Sh.ce x.S (F9 d)).Gen,Ox (Sh.ce x.S (F9 d)).Val⟩=s' at hc hl;have u:s'.S.Last=x.S.S.Last/\s'.Serial=x.S.Serial:=by subst A;exact⟨rfl,rfl⟩
  have same:∀i,(Th (Sh.ce s' i)↔Th (Sh.ce x.S i))/\(Sh.ce s' i).Gen=(Sh.ce x.S i).Gen/\(Sh.ce s' i).Val.Serial=(Sh.ce x.S i).Val.Serial:=λi=>by
   rw[hc i];split;·rename_i v;subst v;exact⟨⟨λ_=>p.d.2.1,λ_=>.inr rfl⟩,rfl,rfl⟩
   .exact⟨Iff.rfl,rfl,rfl⟩
  refine⟨q.gd.up λk i a=>⟨⟨by have:=a.1;rw[<-hl];exact this,(same i).1.1 a.2.1,?_⟩,(same i).2.2⟩,?_,?_,?_,by rw[q.la];exact u.1.symm,q.npl,by rw[q.se];exact u.2.symm,q.ro,q.ce,q.p1,q.p2,q.tk⟩
  .have:=a.2.2;change k=1+(i:Int)+32*(Sh.ce s' i).Gen at this
   rw[(same i).2.1] at this;exact this
  .have:=q.nd.A3 (s':=s') hR p.1 hl (λj hj=>by rw[hc j,za hj]) p.d.2.1 ((same _).1.2 p.d.2.1) (same _).2.2 (f:=jL) (by
    unfold Sh.nd jL;rw[hc,zb rfl];dsimp only;rw[we (show ¬(12:Int)<=(Sh.ce x.S (F9 d)).Val.Strong by omega)];rfl)
   rw[q.gd.f d _ p.d];exact this
  .show m.Slots=List.map _ (List.range s'.S.b7.length);rw[hl,q.sl];refine X9 λi hi=>?_;unfold Tl;by_cases c2:Th (Sh.ce x.S i)
   .rw[zb c2,zb ((same i).1.2 c2),(same i).2.2]
   .rw[za c2,za λd=>c2 ((same i).1.1 d),hc i,za (show i≠F9 d from λv=>c2 (v▸p.d.2.1))]
  .show m.Gens=List.map _ (List.range s'.S.b7.length);rw[hl,q.ge];exact X9 λi hi=>(same i).2.1.symm
theorem u7.YL{σ:Int->Int}:∀(ds:List Int) {x:Hp} {m:a8},SR x.S->u7 σ x m->ds.Nodup->(∀d∈ds,d∈lv x.S/\(ob x.S d).Strong<12/\(ob x.S d).Weak=Sh.iZ x.b7 d)->(∀d∈ds,∀c∈x.b7,σ c.Target=σ d->c.Target=d) ->
  u7 σ (wS x (qq x.S ds)) ((ds.map σ).foldl Sh.sS m)
 | [],x,m,hR,q,_,_,_=>q
 | d::ds,x,m,hR,q,hn,hm,hi=>by
  rw[me] at hn;obtain⟨r,v,w⟩:=hm d zh;have Q:=q.sS hR r v w (hi d zh);show u7 σ (wS x (qq (Ad x.S d) ds)) ((ds.map σ).foldl Sh.sS (Sh.sS m (σ d)));refine u7.YL ds (x:=wS x (Ad x.S d)) (Gc hR r) Q hn.2 (λk hk=>?_) λk hk=>hi k (zw _ hk);obtain⟨u,A,B⟩:=hm k (zw _ hk);have o:k≠d:=λe=>hn.1 (e▸hk);refine⟨by show k∈lv (Ad x.S d);rw[Rj hR r,zj];exact⟨u,Ω o⟩,?_⟩;show (ob (Ad x.S d) k).Strong<12/\(ob (Ad x.S d) k).Weak=_;rw[Rk hR r u o];exact⟨A,B⟩
def uW(m:a8)(S:List Int):a8:=S.foldl sS (WT (Ap (PF m (hU m.b7 S)) (m.Tasks++jf m.b7 S)) (m.Pairs.filter λp=>decide (p.Key∉S)))
theorem WW{t:Tb}(hT:HR t)(ks:List Int)(e:ks.length<=1000):(mY t ks).1.length=t.length:=by
 obtain⟨a,u,o,_,r,_⟩:=yY hT ks e;unfold mY;rw[o];exact r
section
variable{σ:Int->Int}{x:Hp}{m:a8}(hx:M0 x)(q:u7 σ x m)
include hx q
variable {ds:List Int}
theorem MG(hm:∀d∈ds,d∈lv x.S){c:l4}(hc:c∈x.b7):gi (ds.map σ) (wx σ c)=gi ds c:=by
 have hR:=hx.sh.sr;obtain⟨i,hi,rfl⟩:=u8 hc;unfold gi wx;cases e:x.b7[i].Intact;·rfl
 .have hl:=((hx.sh.cl i hi).2.2.2.2 e).1;have a:=q.gd.ps hR hl;have b:=L5 hR hl;have:(σ x.b7[i].Target∈ds.map σ)↔x.b7[i].Target∈ds:=by
   rw[zn];exact⟨λ⟨d,hd,o⟩=>(q.gd.inl hR (hm d hd) hl o)▸hd,λh=>⟨_,h,rfl⟩⟩
  rw[zbh];simp[this];omega
theorem UY(hm:∀d∈ds,d∈lv x.S):hU m.b7 (ds.map σ)=(hU x.b7 ds).map (wx σ):=by
 unfold hU;rw[q.ce,za5,za5];refine zt λc hc=>?_;show qx (ds.map σ) (wx σ c)=wx σ (qx ds c);unfold qx;rw[MG hx q hm hc];split <;> rfl
theorem Va(hm:∀d∈ds,d∈lv x.S):jf m.b7 (ds.map σ)=jf x.b7 ds:=by
 have o:∀w,w<x.b7.length->(x.b7.map (wx σ)).getD w cz=wx σ (x.b7.getD w cz):=λw hw=>by
  rw[zd,zD,zd,zc hw];rfl
 have hh:∀w,w<x.b7.length->gi (ds.map σ) (wx σ (x.b7.getD w cz))=gi ds (x.b7.getD w cz):=λw hw=>by
  rw[zd,zc hw];exact MG hx q hm (zl hw)
 have e:cls m.b7 (ds.map σ)=cls x.b7 ds:=by
  unfold cls;rw[q.ce,zf];refine zaf λw hw=>?_;rw[za1] at hw;rw[o w hw,hh w hw];rfl
 unfold jf;rw[e];refine zt λw hw=>?_;have hw:w<x.b7.length:=by
  unfold cls at hw;exact za1.1 (zj.1 hw).1
 rw[q.ce,o w hw];rfl
theorem u7.Xb(hn:ds.Nodup)(hm:∀d∈ds,d∈lv x.S):u7 σ (⟨x.S,x.Roots,hU x.b7 ds,(mY x.T ds).1,⟨x.Q.L++jf x.b7 ds,x.Q.Cap⟩⟩:Hp) (WT (Ap (PF m (hU m.b7 (ds.map σ))) (m.Tasks++jf m.b7 (ds.map σ))) (m.Pairs.filter λp=>decide (p.Key∉ds.map σ))):=by
 have hS:=hx.sh;have hR:=hS.sr;have hlen:ds.length<=24:=zQ (aO hn hm) (dT (D5.2 hR));obtain⟨_,w2,_,_,r,_⟩:=lL hS.hr ds Δ;refine⟨q.gd,q.nd,q.sl,q.ge,q.la,?_,q.se,q.ro,UY hx q hm,q.p1.filter _,λp=>?_,?_⟩
 .show m.Places=(((mY x.T ds).1.length:Nat):Int);rw[WW hS.hr ds Δ];exact q.npl
 .show p∈List.filter _ _↔∃k v,Has (mY x.T ds).1 k v/\_;rw[zj,q.p2,zE];constructor
  .rintro⟨⟨k,v,h,rfl⟩,c⟩;exact⟨k,v,(r k v).2 ⟨λhk=>c (zn.2 ⟨k,hk,rfl⟩),h⟩,rfl⟩
  .rintro⟨k,v,h,rfl⟩;obtain⟨u,o⟩:=(r k v).1 h;refine⟨⟨k,v,o,rfl⟩,λc=>?_⟩;obtain⟨d,hd,e⟩:=zn.1 c;exact u (q.gd.inl hR (hm d hd) (hS.pr _ _ o).1 e▸hd)
 .show m.Tasks++jf m.b7 (ds.map σ)=(x.Q.L++jf x.b7 ds).map (tx σ);rw[zV,q.tk,Va hx q hm];congr 1;conv=>lhs;rw[<-List.map_id (jf x.b7 ds)]
  refine zt λt ht=>?_;obtain⟨w,_,rfl,_⟩:=mg.1 ht;unfold tx;rw[za (show ¬(2:Int)=1 by decide)];rfl
theorem u7.iU(hn:ds.Nodup)(hm:∀d∈ds,d∈lv x.S)(hs:∀d∈ds,(ob x.S d).Strong<12):u7 σ (iU x ds) (uW m (ds.map σ)):=by
 have hS:=hx.sh;have hR:=hS.sr;unfold Sh.iU uW;refine u7.a1n (x:=kU x ds (mY x.T ds).1) _ (gb ds hR hn hm).sr ?_;have u:=q.Xb hx hn hm;have:=u7.YL (x:=(⟨x.S,x.Roots,hU x.b7 ds,(mY x.T ds).1,⟨x.Q.L++jf x.b7 ds,x.Q.Cap⟩⟩:Hp)) ds hR u hn (λd hd=>⟨hm d hd,hs d hd,?_⟩) λd hd c hc e=>?_;·exact this
 .show (ob x.S d).Weak=(Sh.iZ (hU x.b7 ds) d:Int);have p:=r8 hR (hm d hd);rw[GB,J2 hR p];have:=(hx.wk _ p.1 p.d.2.1).1;rw[<-p.2.2] at this;exact this
 .refine q.gd.inz hR ?_ (.inr ⟨_,(r8 hR (hm d hd)).d⟩) e;have hc:c∈hU x.b7 ds:=hc;unfold hU at hc;obtain⟨r,o,rfl⟩:=zn.1 hc;rw[(oC ds r).1];exact nc hS o
end
def CW(n:b8):b8:=⟨n.Serial,n.Slot,n.Prog,true,n.Alive,n.Stuck,n.Fields⟩
def GN(m:a8)(s:Int):Int:=((m.Nodes.find? λn=>n.Serial==s).map (·.Prog)).getD 0
def lR(m:a8)(s:Int):a8:=Ap (yj (cR m s) (cQ (cR m s).Nodes s CW)) (m.Tasks ++ [⟨1,s,GN m s⟩])
theorem Mt(s:Int){f g:b8->b8}(hf:∀n,(f n).Serial=n.Serial)(l:List b8):cQ (cQ l s f) s g=cQ l s (λn=>g (f n)):=by
 unfold cQ;rw[za5];refine zt λn _=>?_;by_cases e:n.Serial=s
 .have o:(f n).Serial=s:=(hf n).trans e;simp only[Function.comp,zb e,zb o]
 .simp only[Function.comp,za e]
theorem u7.kK{σ:Int->Int}{x:Hp}{m:a8}(hS:lS x)(hf:bH x [])(q:u7 σ x m){h:Int}(hh:h∈lv x.S):u7 σ (kK x h) (lR m (σ h)):=by
 have hR:=hS.sr;have ho:=N7 hR hh;have p:=r8 hR hh;have u:Ds x.S (gQ (ob x.S h)):=⟨ho.s1,ho.s2,ho.st,ho.wk,ho.p1,ho.p2,ho.fl⟩;have r:=q.put (o:=gQ (ob x.S h)) hR hh rfl u (f:=CW) (by
  unfold Sh.nd CW;rw[J2 hR p,zG p.2.1])
 have A:GN m (σ h)=(ob x.S h).Prog:=by
  unfold GN;rw[q.find hR p.d,J2 hR p];rfl
 have C:u7 σ (⟨eC x.S h (gQ (ob x.S h)),x.Roots,x.b7,x.T,⟨x.Q.L ++ [Dv x h],x.Q.Cap⟩⟩:Hp) (Ap (yj m (cQ m.Nodes (σ h) CW)) (m.Tasks ++ [⟨1,σ h,GN m (σ h)⟩])):=by
  refine⟨r.gd,r.nd,r.sl,r.ge,r.la,r.npl,r.se,r.ro,r.ce,r.p1,r.p2,?_⟩;show m.Tasks++_=(x.Q.L ++ [Dv x h]).map (tx σ);rw[zV,q.tk,A];congr 1
 have v:SR (eC x.S h (gQ (ob x.S h))):=dh hR hh rfl u;have w:h∈lv (eC x.S h (gQ (ob x.S h))):=by rw[jW (o:=gQ (ob x.S h)) hR hh rfl u];exact hh
 have B:=C.ZJ v (h:=h) (.inr w) (k:=Cn m (σ h)) (λ_ hs=>by
  have e:ob (eC x.S h (gQ (ob x.S h))) h=gQ (ob x.S h):=by
   rw[iI (o:=gQ (ob x.S h)) hR hh rfl u Ωv,zb rfl]
  change (ob (eC x.S h (gQ (ob x.S h))) h).Strong<12 at hs
  show (ob (eC x.S h (gQ (ob x.S h))) h).Strong=_;rw[e] at hs |-;rw[q.ny hS hh];show (ob x.S h).Strong=_;rw[hf h hh hs,H6];rfl)
 have e:(if σ h≠0/\11<=Cn m (σ h) then uD (Ap (yj m (cQ m.Nodes (σ h) CW)) (m.Tasks ++ [⟨1,σ h,GN m (σ h)⟩])) (σ h) else (Ap (yj m (cQ m.Nodes (σ h) CW)) (m.Tasks ++ [⟨1,σ h,GN m (σ h)⟩])))=lR m (σ h):=by
  unfold lR cR;split
  .unfold uD;dsimp only;rw[Mt (f:=CW) _ (λ_=>rfl),Mt (f:=uC) _ (λ_=>rfl)];rfl
  .rfl
 rw[e] at B;exact B
def DI(m:a8)(i n:Nat)(p:Int):a8:=⟨m.Nodes ++ [⟨m.Serial+1,i,p,false,true,false,List.replicate n 0⟩],m.Slots.set i (m.Serial+1),m.Gens,m.Last,m.Places,m.Serial+1,m.Roots,m.b7,m.Pairs,m.Tasks,m.Progs⟩
theorem u7.mk'{σ:Int->Int}{x:Hp}{m:a8}(hx:M0 x)(q:u7 σ x m){i:Nat}(hi:i<x.S.S.b7.length)(h0:(Sh.ce x.S i).State=0){n:Nat}(hn:n<=4){p:Int}(hp : -1<=p/\p<=5) :
  ∃σ',u7 σ' (wS x (eh x.S i n p)) (DI m i n p)/\σ' (cY x.S i)=x.S.Serial+1:=by
 have hS:=hx.sh;have hR:=hS.sr;have hc:=λj=>nr hR hi h0 hn hp j;have hl:=lj hR hi h0 hn hp;have w:¬Th (Sh.ce x.S i):=by unfold Th;rw[h0];decide
 have hpos:=vA hR hi;have old:∀ {k:Int} {j:Nat},Y1 x.S k j->k≠cY x.S i:=λ{k j} a e=>by
  have hj:=Ci hR hi h0 hn hp a;have u:=a.2.2;rw[e] at u;unfold cY at u;have:=a.1;have:=hR.len;omega
 refine⟨λh=>if h=cY x.S i then x.S.Serial+1 else σ h,?_,zb rfl⟩;generalize r:(λh=>if h=cY x.S i then x.S.Serial+1 else σ h)=σ';have sn:σ' (cY x.S i)=x.S.Serial+1:=by subst r;exact zb rfl
 have so:∀k,(k=0\/∃j,Y1 x.S k j)->σ' k=σ k:=λk hk=>by
  subst r;refine za ?_;rcases hk with e | ⟨j,a⟩
  .omega
  .exact old a
 have nd':∀j,Th (Sh.ce x.S j)->j<x.S.S.b7.length->Sh.nd σ' x.S j=Sh.nd σ x.S j:=λj hj o=>by
  unfold Sh.nd;congr 1;refine zt λv hv=>so v ?_;rcases hj with u | E
  .have hA:At x.S (cY x.S j) j:=⟨o,u,rfl⟩;have B:=(lf hR).2 ⟨j,hA⟩;rw[<-J2 hR hA] at hv;exact RD hR q.gd (hS.fl _ B v hv)
  .rw[((hx.wk j o (.inr E)).2 E).2.1] at hv;cases hv
 have C:Sn σ' x.S m.Nodes:=⟨q.nd.up,λk=>(q.nd.mem k).trans ⟨λ⟨j,a,b,c⟩=>⟨j,a,b,c.trans (nd' j b a).symm⟩,λ⟨j,a,b,c⟩=>⟨j,a,b,c.trans (nd' j b a)⟩⟩⟩;refine⟨⟨?_,λk j a=>?_⟩,?_,?_,?_,q.la,q.npl,?_,?_,?_,q.p1,λk=>?_,?_⟩;·rw[so 0 (.inl rfl)];exact q.gd.z
 .rcases (RL hR hi h0 hn hp).1 a with b | ⟨rfl,rfl⟩
  .rw[so k (.inr ⟨j,b⟩),q.gd.f k j b];show _=(Sh.ce (eh x.S i n p) j).Val.Serial;rw[hc,za (Ci hR hi h0 hn hp b)]
  .rw[sn];show _=(Sh.ce (eh x.S j n p) j).Val.Serial;rw[hc,zb rfl]
 .have:=C.add (s':=eh x.S i n p) hR hi hl (λj hj=>by rw[hc,za hj]) w (by rw[hc,zb rfl];exact .inl rfl) (by rw[hc,zb rfl];show x.S.Serial<x.S.Serial+1;omega);have e:Sh.nd σ' (eh x.S i n p) i=⟨m.Serial+1,i,p,false,true,false,List.replicate n 0⟩:=by
   unfold Sh.nd;rw[hc,zb rfl];dsimp only;rw[q.se,zG rfl,we Θ,zcj,so 0 (.inl rfl),q.gd.z]
  rw[e] at this;exact this
 .show m.Slots.set i (m.Serial+1)=List.map (λj=>Tl (Sh.ce (eh x.S i n p) j)) (List.range (eh x.S i n p).S.b7.length);rw[hl,q.sl,xW,q.se];refine X9 λj hj=>?_;rw[hc];by_cases c:j=i
  .rw[zb c,zb c];rfl
  .rw[za c,za c]
 .show m.Gens=List.map (λj=>(Sh.ce (eh x.S i n p) j).Gen) (List.range (eh x.S i n p).S.b7.length);rw[hl,q.ge];refine X9 λj hj=>?_;rw[hc];split;·rename_i c;rw[c]
  .rfl
 .show m.Serial+1=x.S.Serial+1;rw[q.se]
 .show m.Roots=x.Roots.map σ';rw[q.ro];exact zt λv hv=>(so v (RD hR q.gd (hS.rt v hv))).symm
 .show m.b7=x.b7.map (wx σ');rw[q.ce];refine zt λc A=>?_;unfold wx;rw[so _ (nc hS A)]
 .show k∈m.Pairs↔∃a b,Has x.T a b/\k=⟨σ' a,σ' b⟩;rw[q.p2];have hh:∀a b,Has x.T a b->σ' a=σ a/\σ' b=σ b:=λa b h=>⟨so a (RD hR q.gd (.inr (hS.pr a b h).1)),so b (RD hR q.gd (.inr (hS.pr a b h).2))⟩;constructor
  .rintro⟨a,b,h,rfl⟩;exact⟨a,b,h,by rw[(hh a b h).1,(hh a b h).2]⟩
  .rintro⟨a,b,h,rfl⟩;exact⟨a,b,h,by rw[(hh a b h).1,(hh a b h).2]⟩
 .show m.Tasks=x.Q.L.map (tx σ');rw[q.tk];refine zt λt ht=>?_;unfold tx;split
  .rename_i c;rcases (hS.tk t ht).2.2 with d | d
   .rw[so _ (RD hR q.gd (.inr d.2.1))]
   .rw[d.1] at c;exact absurd c Θ
  .rfl
def HL(m:a8)(n:b8):Bool:=n.Alive&&(!n.Stuck&&Cn m n.Serial==0)
def Oy(n:b8):Bool:=decide (0<=n.Prog) && !n.Started
def sZ(m:a8):a8:=match m.Nodes.find? (HL m) with
 | none=>m
 | some n=>if Oy n then lR m n.Serial else uW m [n.Serial]
def af:Nat->a8->a8
 | 0,m=>m
 | n+1,m=>af n (sZ m)
theorem fM(n:Nat)(m:a8):af (n+1) m=sZ (af n m):=by
 induction n generalizing m with
 | zero=>rfl
 | succ n ih=>show af (n+1) (sZ m)=_;rw[ih];rfl
def eW(m:a8):a8:=af 100 m
section
variable{σ:Int->Int}{x:Hp}{m:a8}(hx:M0 x)(q:u7 σ x m)
include hx q
theorem u7.zr:m.Nodes.find? (HL m)=(Sh.zr x).head?.map λh=>Sh.nd σ x.S (F9 h):=by
 have hR:=hx.sh.sr;have e:m.Nodes.filter (HL m)=(Sh.zr x).map λh=>Sh.nd σ x.S (F9 h):=by
  have:HL m=λn=>n.Alive&&(!n.Stuck&&Cn m n.Serial==0):=rfl;rw[this,<-zat,zat,zaf (λn _=>zcx _ _),<-zat,q.nd.alive hR,zco];congr 1;unfold Sh.zr;refine zaf λh hh=>?_;have p:=r8 hR hh;show (!decide (12<=(Sh.ce x.S (F9 h)).Val.Strong)&&Cn m (Sh.ce x.S (F9 h)).Val.Serial==0)=_;rw[<-q.gd.f h _ p.d,q.ny hx.sh hh,<-J2 hR p];by_cases c:(ob x.S h).Strong<12
  .have:=hx.fair h hh c;rw[H6] at this;rw[we Δ,zbh];simp;omega
  .rw[zG Δ,zbh];simp;omega
 rw[<-List.head?_filter,e,List.head?_map]
theorem u7.JY:u7 σ (Sh.JY x) (sZ m):=by
 have hR:=hx.sh.sr;unfold sZ;rw[q.zr hx];cases e:Sh.zr x with
 | nil=>
  rw[pE e];exact q
 | cons z l=>
  rw[lH e];obtain⟨hz,h0⟩:=du.1 (e▸zh:z∈Sh.zr x);have p:=r8 hR hz;show u7 σ _ (if Oy (Sh.nd σ x.S (F9 z)) then lR m (Sh.ce x.S (F9 z)).Val.Serial else uW m [(Sh.ce x.S (F9 z)).Val.Serial]);rw[<-q.gd.f z _ p.d,J2 hR p];show u7 σ _ (if due (Sh.ce x.S (F9 z)).Val then _ else _);split;·exact q.kK hx.sh hx.fair hz
  .exact q.iU hx (ds:=[z]) (me.2 ⟨Ψ,zb4⟩) (λd hd=>by rw[zu] at hd;rw[hd];exact hz) λd hd=>by
    rw[zu] at hd;rw[hd,h0];decide
end
theorem u7.lG{σ:Int->Int}{x:Hp}{m:a8}(hx:M0 x)(q:u7 σ x m):∀n,u7 σ (Sh.lG n x) (af n m)
 | 0=>q
 | n+1=>by
  rw[Sh.gR,fM];exact (u7.lG hx q n).JY (M9 hx n)
theorem u7.cy{σ:Int->Int}{x:Hp}{m:a8}(hx:M0 x)(q:u7 σ x m):u7 σ (Sh.cy x) (eW m):=q.lG hx 100
variable {α:Type}{b:Nat}
theorem qe{acc:List α}{x:α}(hb:0<b)(h:(acc.length+1)*b<=140737488355328):app b acc [x]=some (acc ++ [x]):=U5 hb (Ω h)
theorem xd{n b m:Nat}(h:n<=m)(hb:b<=1000)(hm:m<=1000000):n*b<=140737488355328:=by
 have e:n*b<=1000000*1000:=Nat.mul_le_mul Δ hb;omega
theorem ml{α:Type}{b:Nat}{l:List α}{P:α->Option Bool}{p:α->Bool}(H:∀x∈l,P x=some (p x))(hb:0<b)(A:b<=1000)(hl:l.length<=100000) :
  jn (λ(B:List α)=>some B) (λw=>
  (lp (S:=Int × (List α)) (E:=(List α)) (λ((r,u):Int × (List α))=>
   if (decide (r<(l.length:Int))) then
    jn (λ(C:List α)=>
     some (.inl (y4 (r+1),C))) (λe=>
     (ix l r).bind λv=>
     (P v).bind λF=>
     if F then
      (app b u [v]).bind λG=>
      e G
     else
     e u)
   else
   some (.inr u)) (0,[])).bind λo=>
  w o)=some (l.filter p):=by
 show (lp _ _).bind (λo=>some o)=_;rw[jk (f:=_) l (λb x=>if p x then b ++ [x] else b) (λb=>b) (λk b=>b.length<=k) Δ (zU _) (λk hk b K=>?_) (λb _=>?_)];·rw[a2D,foldl_filter,zcm]
 .constructor
  .simp only[jn];rw[zb (Ω hk),u4 hk,a2D,H _ (zl hk),a2D,p8 Δ];by_cases c:p l[k]=true
   .rw[c,zb rfl,zb rfl,qe hb (xd (m:=1000000) Δ A Δ),a2D]
   .rw[Bool.not_eq_true] at c;rw[c,za Ψ,za Ψ]
  .split;·simp;omega
   .omega
 .simp only[];rw[za Ψ]
theorem map_eq{α β:Type}{b:Nat}{l:List α}{P:α->Option β}{p:α->β}(G:∀x∈l,P x=some (p x))(hb:0<b)(v:b<=1000)(hl:l.length<=100000) :
  jn (λ(w:List β)=>some w) (λF=>
  (lp (S:=Int × (List β)) (E:=(List β)) (λ((e,o):Int × (List β))=>
   if (decide (e<(l.length:Int))) then
    (ix l e).bind λA=>
    (P A).bind λB=>
    (app b o [B]).bind λC=>
    some (.inl (y4 (e+1),C))
   else
   some (.inr o)) (0,[])).bind λr=>
  F r)=some (l.map p):=by
 show (lp _ _).bind (λu=>some u)=_;have key:∀(l:List α) (acc:List β),l.foldl (λb x=>b ++ [p x]) acc=acc++l.map p:=by
  intro l;induction l with
  | nil=>intro acc;simp
  | cons x l ih=>intro acc;rw[ww,ih];simp
 rw[jk (f:=_) l (λb x=>b ++ [p x]) (λb=>b) (λk b=>b.length<=k) Δ (zU _) (λk hk b H=>?_) (λb _=>?_)];·rw[a2D,key,zcm]
 .constructor
  .simp only[];rw[zb (Ω hk),u4 hk,a2D,G _ (zl hk),a2D,qe hb (xd (m:=1000000) Δ v Δ),a2D,p8 Δ]
  .simp;omega
 .simp only[];rw[za Ψ]
theorem IM{α:Type}{l:List α}{P:α->Option Bool}{p:α->Bool}(C:∀x∈l,P x=some (p x))(hl:l.length<=1000){a:α}(h:l.find? p=some a):∃k:Nat,∃hk:k<l.length,l[k]=a /\
  jn (λ(_:Unit)=>some (-1)) (λv=>
  (lp (S:=Int) (E:=Int ⊕ Unit) (λ(o:Int)=>
   if (decide (o<(l.length:Int))) then
    (ix l o).bind λr=>
    (P r).bind λu=>
    if u then
     some (.inr (.inl o))
    else
    some (.inl (y4 (o+1)))
   else
   some (.inr (.inr ()))) 0).bind λA=>
  match A with
  | .inl w=>some w
  | .inr w=>v w)=some (k:Int):=by
 obtain⟨B,k,hk,e,hn⟩:=zbb.1 h;refine⟨k,hk,e,?_⟩;simp only[jn];refine Y6 l.length (λi=>i<=k) Δ (zU _) (λi hi F=>?_) (λG=>Δ);rw[zb (Ω hi),u4 hi,a2D,C _ (zl hi),a2D];rcases zI i k with c | c
 .left;have:=hn i c;simp only[zcd] at this;rw[this,za Ψ,p8 Δ];exact⟨rfl,c⟩
 .have:i=k:=by omega
  subst this;right;rw[e,B,zb rfl];exact⟨_,rfl,rfl⟩
theorem IL{α:Type}{l:List α}{P:α->Option Bool}{p:α->Bool}(A:∀x∈l,P x=some (p x))(hl:l.length<=1000)(h:l.find? p=none) :
  jn (λ(_:Unit)=>some (-1)) (λu=>
  (lp (S:=Int) (E:=Int ⊕ Unit) (λ(e:Int)=>
   if (decide (e<(l.length:Int))) then
    (ix l e).bind λo=>
    (P o).bind λr=>
    if r then
     some (.inr (.inl e))
    else
    some (.inl (y4 (e+1)))
   else
   some (.inr (.inr ()))) 0).bind λv=>
  match v with
  | .inl w=>some w
  | .inr w=>u w)=some (-1:Int):=by
 rw[zb5] at h;simp only[jn];refine Y6 l.length (λ_=>True) Δ trivial (λi hi _=>.inl ⟨?_,trivial⟩) (λ_=>⟨.inr (),Ψ,rfl⟩);have:=h _ (zl hi);rw[Bool.not_eq_true] at this;rw[zb (Ω hi),u4 hi,a2D,A _ (zl hi),a2D,this,za Ψ,p8 Δ]
theorem U4{E R:Type}{x:Option E}{e:E}{K:E->Option R}(h:x.bind some=some e):x.bind K=K e:=by
 cases x with
 | none=>cases h
 | some v=>obtain rfl:=zK h;rfl
theorem Ig{R:Type}{l:List (List α)}(hb:0<b)(u:b<=1000)(hl:l.length<=1000)(hs:l.flatten.length<=100000){K:List α->Option R} :
  (lp (S:=Int × (List α)) (E:=(List α)) (λ((o,r):Int × (List α))=>
      if (decide (o<(l.length:Int))) then
       (ix l o).bind λv=>
       (app b r v).bind λw=>
       some (.inl (y4 (o+1),w))
      else
      some (.inr r)) (0,[])).bind K=K l.flatten:=by
 refine U4 (S9 (t0:=([]:List α)) l.length (λk acc=>acc=(l.take k).flatten) Δ Ψ (λk acc hk e=>.inl ⟨(l.take (k+1)).flatten,?_,rfl⟩) (λacc e=>⟨l.flatten,?_,rfl⟩))
 .subst e;have A:(l.take (k+1)).flatten=(l.take k).flatten++l[k]:=by
   rw[zi hk,zbz];simp
  have B:(l.take (k+1)).flatten.length<=l.flatten.length:=by
   conv=>rhs;rw[<-zbq (k+1) l,zbz,zA]
   omega
  simp only[];rw[zb (Ω hk),u4 hk,a2D,U5 hb (xd (m:=100000) (by rw[A,zA] at B;omega) u Δ),a2D,p8 Δ,A]
 .subst e;simp only[];rw[za Ψ,zL]
theorem US{R:Type}{l:List (List α)}(hl:l.length<=1000)(hs:l.flatten.length<=100000){K:Int->Option R} :
  (lp (S:=Int × Int) (E:=Int) (λ((o,r):Int × Int)=>
   if (decide (r<(l.length:Int))) then
    jn (λ(w:Int)=>
     some (.inl (w,y4 (r+1)))) (λv=>
     (ix l r).bind λu=>
     if (decide ((y4 (o+(u.length:Int)))<0)) then
      none
     else
     v (y4 (o+(u.length:Int))))
   else
   some (.inr o)) (0,0)).bind K=K (l.flatten.length:Int):=by
 refine U4 (AH (t0:=(0:Int)) l.length (λk acc=>acc=((l.take k).flatten.length:Int)) Δ Ψ (λk acc hk e=>⟨((l.take (k+1)).flatten.length:Int),?_,rfl⟩) (λacc e=>⟨(l.flatten.length:Int),?_,rfl⟩))
 .subst e;have A:(l.take (k+1)).flatten.length=(l.take k).flatten.length+l[k].length:=by
   rw[zi hk,zbz];simp
  have B:(l.take (k+1)).flatten.length<=l.flatten.length:=by
   conv=>rhs;rw[<-zbq (k+1) l,zbz,zA]
   omega
  simp only[jn];rw[zb (Ω hk),u4 hk,a2D,jX Δ Δ,za Ξ,p8 Δ,A];congr 4
 .subst e;simp only[];rw[za Ψ,zL]
theorem Kw{z:α}{l:List (List α)}(hb:0<b)(e:b<=1000)(hl:l.length<=1000)(hs:l.flatten.length<=100000) :
 jn (λ(o:Int)=>
  jn (λ(_:Unit)=>
   if (decide ((y4 (o-(y4 (0-0)))) > 0)) then
    (mk b (y4 (o-(y4 (0-0)))) z).bind λv14=>
    jn (λ(V:List α)=>
     some V) (λH=>
     (lp (S:=Int × (List α)) (E:=(List α)) (λ((r,A):Int × (List α))=>
      if (decide (r<(l.length:Int))) then
       (ix l r).bind λv29=>
       (app b A v29).bind λv30=>
       some (.inl (y4 (r+1),v30))
      else
      some (.inr A)) (0,[])).bind λP=>
     H P)
   else
   jn (λ(j39:List α)=>
    some j39) (λK=>
    (lp (S:=Int × (List α)) (E:=(List α)) (λ((u,B):Int × (List α))=>
     if (decide (u<(l.length:Int))) then
      (ix l u).bind λv45=>
      (app b B v45).bind λv46=>
      some (.inl (y4 (u+1),v46))
     else
     some (.inr B)) (0,[])).bind λR=>
    K R)) (λG=>
   if (decide (o<0)) then
    none
   else
   G ())) (λF=>
  (lp (S:=Int × Int) (E:=Int) (λ((v,w):Int × Int)=>
   if (decide (w<(l.length:Int))) then
    jn (λ(j54:Int)=>
     some (.inl (j54,y4 (w+1)))) (λN=>
     (ix l w).bind λC=>
     if (decide ((y4 (v+(C.length:Int)))<0)) then
      none
     else
     N (y4 (v+(C.length:Int))))
   else
   some (.inr v)) (0,0)).bind λT=>
  F T)=some l.flatten:=by
 refine (US hl hs).trans ?_;simp only[jn];have h0:y4 (0-0)=0:=rfl;rw[za Ψ,h0,Int.sub_zero,jX Δ Δ];have hm:mk b ((l.flatten.length:Nat):Int) z=some (List.replicate l.flatten.length z):=ka (by rw[Nat.mul_comm];have:=xd (n:=l.flatten.length) (m:=100000) hs e Δ;omega) Δ;split
 .rw[hm,a2D];exact Ig hb e hl hs
 .exact Ig hb e hl hs
end Go.Sh
