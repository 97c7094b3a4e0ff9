/- A part. -/
import Derived.Test.YtppgkaeodaaidaaGreatDoorU3mT
set_option linter.unusedVariables false
set_option linter.unusedSimpArgs false
set_option linter.unusedSectionVars false
namespace Go.Sh
theorem nG(x:Hp)(h:Int):(C6 x h).Roots=x.Roots/\(C6 x h).a8=x.a8/\(C6 x h).T=x.T/\(C6 x h).Q=x.Q:=by
 rw[tC];exact⟨rfl,rfl,rfl,rfl⟩
theorem gY{x:Hp}(hR:SR x.S)(h:Int):SR (C6 x h).S:=(G2 hR h λc=>D8).sr
section
variable{x:Hp}(hx:O4 x)(hS:∀k∈lv x.S,(ob x.S k).Strong<=9223372036854775807)
include hx hS
theorem rp{h:Int}(hh:h=0\/h∈lv x.S):h<=9223372036854775807:=by
 rcases hh with q | q
 .omega
 .have:=I3 hx.sh.sr q;omega
theorem HL(k:Int){h:Int}(hh:h<=9223372036854775807):bb x k h=some (if k<0\/5<k then (x,6) else if h=0\/h∈lv x.S then (H5 x k.toNat h,0) else (x,3)):=by
 have hR:=hx.sh.sr;have r6:=hx.sh.r6;unfold bb;by_cases hk:k<0\/5<k
 .rw[zb hk,zb (by rw[r6];simp;omega)]
 .rw[za hk,za (by rw[r6];simp;omega),dY hR hh,Ys];by_cases hn:h=0\/h∈lv x.S
  .rw[zb hn,zA hn,za (by simp)];obtain⟨n,rfl⟩:∃n:Nat,k=n:=⟨k.toNat,by omega⟩;have hn6:n<6:=by omega
   have hnl:n<x.Roots.length:=by omega
   have old:x.Roots[n]<=9223372036854775807:=rp hx hS (hx.sh.rt _ (zk hnl));have e1:=nG x h;have hn2:n<(C6 x h).Roots.length:=by rw[e1.1];exact hnl
   rw[u7 hnl,Ys];unfold F2 Q6 M9;rw[kc hR hh hS,Ys];dsimp only;rw[V0 (by omega) (by rw[e1.1];omega),Ys,u7 hn2,Ys,Ys];have hrel:=ee (x:=wR (C6 x h) (x.Roots.set n h)) (gY hR h) old;rw[zW,e1.1,show C8 ⟨(C6 x h).S,x.Roots.set n h,(C6 x h).a8,(C6 x h).T,(C6 x h).Q⟩ x.Roots[n]=_ from hrel];unfold H5;rw[zf,zc hnl];rfl
  .rw[za hn,zK hn,zb (by simp)]
theorem MJ(k:Int){h:Int}(hh:h<=9223372036854775807):gP (hO x) k h=some (if k<0\/5<k then (hO x,6) else if h=0\/h∈lv x.S then (hO (H5 x k.toNat h),0) else (hO x,3)):=by
 have hR:=hx.sh.sr;have r6:=hx.sh.r6;unfold gP;by_cases hk:k<0\/5<k
 .rw[zb hk,zb (by simp;omega)]
 .rw[za hk,za (by simp;omega),va hR hh,Ys];by_cases hn:h=0\/h∈lv x.S
  .rw[zb hn,zA hn,za (by simp)];obtain⟨n,rfl⟩:∃n:Nat,k=n:=⟨k.toNat,by omega⟩;have hnl:n<x.Roots.length:=by omega
   have hnl':n<(hO x).Roots.length:=hnl;have old:x.Roots[n]<=9223372036854775807:=rp hx hS (hx.sh.rt _ (zk hnl));have e1:=nG x h;have r6':(hO x).Roots.length=6:=r6;rw[u7 hnl',Ys,rR hR hh hS,Ys,V0 (by omega) (by rw[r6'];omega),Ys,u7 hnl',Ys];have hrel:=oN (x:=wR (C6 x h) (x.Roots.set n h)) (gY hR h) old;rw[zW];rw[show J3 ⟨(hO (C6 x h)).S,(hO x).Roots.set n h,(hO (C6 x h)).a8,(hO (C6 x h)).T,(hO (C6 x h)).Q⟩ (hO x).Roots[n]=_ from hrel];unfold H5;rw[zf,zc hnl];rfl
  .rw[za hn,zK hn,zb (by simp)]
omit hx hS in
theorem VD {l:List Int} {n:Nat} (hn:n<l.length):nX l n=some (l[n],0)/\wU l n=some (l[n],0):=by
 constructor
 .unfold nX mh;rw[Ys,za (by simp;omega),u7 hn,Ys]
 .unfold wU;rw[za (by simp;omega),u7 hn,Ys]
omit hx hS in
theorem Rk {l:List Int} {k:Int} (hk:¬(0<=k/\k<l.length)):nX l k=some (0,5)/\wU l k=some (0,5):=by
 constructor
 .unfold nX mh;rw[Ys,zb (by simp;omega)]
 .unfold wU;rw[zb (by simp;omega)]
theorem tQ(h k:Int)(hh:h<=9223372036854775807):(∃e,e≠0/\U0 x.S h k=some (0,e)/\gk (sO x.S) h k=some (0,e)) \/
  (h∈lv x.S/\∃n:Nat,k=n/\∃hn:n<(ob x.S h).Fields.length,U0 x.S h k=some ((ob x.S h).Fields[n],0)/\gk (sO x.S) h k=some ((ob x.S h).Fields[n],0)):=by
 have hR:=hx.sh.sr;obtain⟨e,h1,h2⟩:=aH (y5.2 hR) hh;have hg:M1 (sO x.S) h=some (oo (ob x.S h),e):=by
  rw[qW x.S (by have:=hR.len;omega) hh,h1];rfl
 unfold U0 gk;rw[h1,Ys,hg,Ys];by_cases q:h∈lv x.S
 .have:=h2.2 q;subst this;rw[za (by simp),za (by simp),show (oo (ob x.S h),(0:Int)).1.Fields=(ob x.S h).Fields from rfl];by_cases hk:0<=k/\k<(ob x.S h).Fields.length
  .right;obtain⟨n,rfl⟩:∃n:Nat,k=n:=⟨k.toNat,by omega⟩;have hn:n<(ob x.S h).Fields.length:=by omega
   refine⟨q,n,rfl,hn,?_,?_⟩
   .rw[(VD hn).1];rfl
   .rw[(VD hn).2];rfl
  .left;refine⟨5,by decide,?_,?_⟩
   .rw[(Rk hk).1];rfl
   .rw[(Rk hk).2];rfl
 .left;have he:(e != 0)=true:=by simpa using λc=>q (h2.1 c)
  refine⟨e,by simpa using he,?_,?_⟩;·simp only[he,zT]
  .simp only[he,zT]
theorem Mv{s:a7}(hR:SR s){h:Int}(hh:h∈lv s){n:Nat}(hn:n<(ob s h).Fields.length)(v:Int) :
  oU s h n v=some (cK s h (oz (ob s h) ((ob s h).Fields.set n v)),0)/\BD (sO s) h n v=some (sO (cK s h (oz (ob s h) ((ob s h).Fields.set n v))),0):=by
 have ok:=J5 hR hh;have hf:=ok.fl;have hle:=I3 hR hh;have ho:xJ s (oz (ob s h) ((ob s h).Fields.set n v)):=⟨ok.s1,ok.s2,ok.st,ok.wk,ok.p1,ok.p2,by simpa using hf⟩;have h1:=rY (o:=oz (ob s h) ((ob s h).Fields.set n v)) hR hh rfl ho;have h2:=rZ (o:=oz (ob s h) ((ob s h).Fields.set n v)) hR hh rfl ho;constructor
 .unfold oU;rw[wv (y5.2 hR) hh,Ys,za (by simp)];unfold xx mh;dsimp only;rw[Ys,za (by simp;omega),jN (by omega) (by omega),Ys];have e:ux (List.replicate (ob s h).Fields.length (0:Int)) (ob s h).Fields=some (ob s h).Fields:=by
   unfold ux;rw[zb (by simp)];simp
  rw[e,Ys,u7 hn,Ys,Ys,za (by simp),zW];dsimp only;rw[show K7 s h ⟨(ob s h).Serial,(ob s h).Strong,(ob s h).Weak,(ob s h).Prog,(ob s h).Started,(ob s h).Fields.set n v⟩=_ from h1];rfl
 .unfold BD;rw[qW s (by have:=hR.len;omega) (by omega),wv (y5.2 hR) hh,we,Ys,za (by simp)];unfold DA;have hn':n<(oo (ob s h)).Fields.length:=hn;have hf':(oo (ob s h)).Fields.length<=4:=hf;dsimp only;rw[za (by simp;omega),V0 (by omega) (by omega),Ys,u7 hn',Ys,Ys,za (by simp),zW];dsimp only;rw[show P5 (sO s) h ⟨(oo (ob s h)).Serial,(oo (ob s h)).Strong,(oo (ob s h)).Weak,(oo (ob s h)).Prog,(oo (ob s h)).Started,(oo (ob s h)).Fields.set n v⟩=_ from h2];rfl
theorem KK(h k v:Int)(hh:h<=9223372036854775807)(hv:v<=9223372036854775807) :
  (∃e,e≠0/\aI x h k v=some (x,e)/\jX (hO x) h k v=some (hO x,e)) \/
  (h∈lv x.S/\(v=0\/v∈lv x.S)/\∃n:Nat,k=n/\n<(ob x.S h).Fields.length/\aI x h k v=some (bS x h n v,0)/\jX (hO x) h k v=some (hO (bS x h n v),0)):=by
 have hR:=hx.sh.sr;unfold aI jX;rcases tQ hx hS h k hh with ⟨e,he,f1,f2⟩ | ⟨hl,n,rfl,hn,f1,f2⟩
 .left;have he':(e != 0)=true:=by simpa using he
  refine⟨e,he,?_,?_⟩;·rw[f1,Ys,zb he']
  .rw[show (hO x).S=sO x.S from rfl,f2,Ys,zb he']
 .rw[f1,Ys,za (by simp),show (hO x).S=sO x.S from rfl,f2,Ys,za (by simp),dY hR hv,Ys,va hR hv,Ys];by_cases hn2:v=0\/v∈lv x.S
  .right;refine⟨hl,hn2,n,rfl,hn,?_⟩;rw[zA hn2,za (by simp),za (by simp)];have xV:=G2 hR v (f:=W6) λc=>D8;have hR1:SR (C6 x v).S:=xV.sr;have hl1:h∈lv (C6 x v).S:=by rw[show lv (C6 x v).S=lv x.S from xV.lv];exact hl
   have hof:(ob (C6 x v).S h).Fields=(ob x.S h).Fields:=by
    obtain⟨m,e⟩:=xV.ob h hh;show (ob (se x v W6).S h).Fields=_;rw[e]
   have hn1:n<(ob (C6 x v).S h).Fields.length:=by rw[hof];exact hn
   have old:(ob x.S h).Fields[n]<=9223372036854775807:=rp hx hS (hx.sh.fl h hl _ (zk hn));have ok:=J5 hR1 hl1;have sr2:SR (cK (C6 x v).S h (oz (ob (C6 x v).S h) ((ob (C6 x v).S h).Fields.set n v))):=bu (o:=oz (ob (C6 x v).S h) ((ob (C6 x v).S h).Fields.set n v)) hR1 hl1 rfl ⟨ok.s1,ok.s2,ok.st,ok.wk,ok.p1,ok.p2,by simpa using ok.fl⟩;obtain⟨p1,p2⟩:=Mv hx hS hR1 hl1 hn1 v;have hd:(ob x.S h).Fields.getD n 0=(ob x.S h).Fields[n]:=by
    rw[zf,zc hn];rfl
   constructor
   .unfold I1 bo;rw[kc hR hv hS,Ys];dsimp only;rw[p1,Ys,Ys];have hrel:=ee (x:=wS (C6 x v) (cK (C6 x v).S h (oz (ob (C6 x v).S h) ((ob (C6 x v).S h).Fields.set n v)))) sr2 old;rw[show C8 ⟨cK (C6 x v).S h (oz (ob (C6 x v).S h) ((ob (C6 x v).S h).Fields.set n v)),(C6 x v).Roots,(C6 x v).a8,(C6 x v).T,(C6 x v).Q⟩ (ob x.S h).Fields[n]=_ from hrel];unfold bS;rw[hd,hof];rfl
   .rw[rR hR hv hS,Ys,show (hO (C6 x v)).S=sO (C6 x v).S from rfl,p2,Ys];have hrel:=oN (x:=wS (C6 x v) (cK (C6 x v).S h (oz (ob (C6 x v).S h) ((ob (C6 x v).S h).Fields.set n v)))) sr2 old;dsimp only;rw[show J3 ⟨sO (cK (C6 x v).S h (oz (ob (C6 x v).S h) ((ob (C6 x v).S h).Fields.set n v))),(hO (C6 x v)).Roots,(hO (C6 x v)).a8,(hO (C6 x v)).T,(hO (C6 x v)).Q⟩ (ob x.S h).Fields[n]=_ from hrel];unfold bS;rw[hd,hof];rfl
  .left;refine⟨3,by decide,?_,?_⟩;·rw[zK hn2,zb (by simp)]
   .rw[zK hn2,zb (by simp)]
theorem Qg(k v:Int)(hk:k<=9223372036854775807)(hv:v<=9223372036854775807) :
  (∃e,e≠0/\cu x k v=some (x,e)/\nB (hO x) k v=some (hO x,e)) \/
  (k∈lv x.S/\(v=0\/v∈lv x.S)/\∃r,P8 x.T k v=some r/\r.2.2=0/\cu x k v=some (jR x v r.1 r.2.1,0)/\nB (hO x) k v=some (hO (jR x v r.1 r.2.1),0)):=by
 have hR:=hx.sh.sr;unfold cu nB;by_cases k0:k=0
 .left;subst k0;exact⟨2,by decide,by simp,by simp⟩
 .rw[za (by simpa using k0),za (by simpa using k0),dY hR hk,Ys,uY hR hk,Ys,dY hR hv,va hR hv];have hkk:(k=0\/k∈lv x.S)↔k∈lv x.S:=by simp[k0]
  by_cases hl:k∈lv x.S/\(v=0\/v∈lv x.S)
  .obtain⟨hl,hn⟩:=hl;rw[zA (hkk.2 hl),zA hl,zA hn];simp only[Bool.not_true,ms,jQ,Ys,Bool.or_self,zm,zZ];obtain⟨r,r1,r2,r3,r4,r5⟩:=Js hx.sh.hr k v;rw[r1,Ys,show (hO x).T=x.T.map S9 from rfl,r4,Ys];by_cases h0:r.2.2=0
   .right;refine⟨hl,hn,r,rfl,h0,?_⟩;have e1:(r.2.2 != 0)=false:=by simpa using h0
    have old:r.2.1<=9223372036854775807:=by
     rcases r5 with ⟨_,rfl⟩ | ⟨_,_,⟨i,hi,rfl⟩ | ⟨_,rfl⟩⟩ | ⟨_,_,⟨i,hi,rfl⟩ | ⟨d,_,_,_,_,rfl⟩ | ⟨_,_,rfl⟩⟩;·simp
     .exact rp hx hS (.inr (hx.sh.pr k _ ⟨i,hi,rfl⟩).2)
     .simp
     .exact rp hx hS (.inr (hx.sh.pr k _ ⟨i,hi,rfl⟩).2)
     .simp
     .simp
    constructor
    .rw[e1];simp only[zm,zZ];unfold J4 Y2;rw[kc hR hv hS,Ys,Ys];dsimp only;have hrel:=ee (x:=wT (C6 x v) r.1) (gY hR v) old;rw[show C8 ⟨(C6 x v).S,(C6 x v).Roots,(C6 x v).a8,r.1,(C6 x v).Q⟩ r.2.1=_ from hrel];rfl
    .dsimp only;rw[e1];simp only[zm,zZ];rw[rR hR hv hS,Ys];have hrel:=oN (x:=wT (C6 x v) r.1) (gY hR v) old;rw[show J3 ⟨(hO (C6 x v)).S,(hO (C6 x v)).Roots,(hO (C6 x v)).a8,r.1.map S9,(hO (C6 x v)).Q⟩ r.2.1=_ from hrel];rfl
   .left;have e1:(r.2.2 != 0)=true:=by simpa using h0
    refine⟨r.2.2,h0,by rw[zb e1],by dsimp only;rw[zb e1]⟩
  .left;refine⟨3,by decide,?_,?_⟩
   .by_cases hl2:k∈lv x.S
    .have:¬(v=0\/v∈lv x.S):=λq=>hl ⟨hl2,q⟩;rw[zA (hkk.2 hl2),zK this];rfl
    .rw[zK λq=>hl2 (hkk.1 q)];rfl
   .by_cases hl2:k∈lv x.S
    .have:¬(v=0\/v∈lv x.S):=λq=>hl ⟨hl2,q⟩;rw[zA hl2,zK this];rfl
    .rw[zK hl2];rfl
end
theorem GS{s:a7}(hR:SR s){h:Int}{i:Nat}(q:Z7 s h i):O8 s.S h=some ((yD s i).S,0):=by
 have hi:=q.1;have hc:=hR.cell i hi;have l9:=hR.l9;unfold O8 yD;rw[kR hR q,Ys,za (by simp),CX hi,Ys];by_cases g:(ce s i).Gen=s.S.Last
 .rw[zb (by simpa using g),zb g,kD rfl hi hR.len];rfl
 .rw[za (by simpa using g),za g,kD rfl hi hR.len,F9 (by omega) (by omega)];rfl
theorem Rv{s:a7}{i:Nat}(hi:i<s.S.a8.length):ix (sO s).a8 (i:Int)=some (cO (ce s i)):=by
 rw[HO,CX hi];rfl
theorem HP(s:a7)(i:Nat)(c:b7):sO (G4 s i c)=⟨(sO s).a8.set i (cO c),s.S.Last,s.Serial⟩:=by
 unfold sO G4;rw[zbv]
theorem xt(t:y9)(p:H0)(hl:t.a8.length<=1000)(hp:p.a8.length=t.a8.length):bZ t p=some ⟨(List.range t.a8.length).map λk=>⟨(p.a8.getD k ⟨0,0,0⟩).State,(p.a8.getD k ⟨0,0,0⟩).Gen,(t.a8.getD k ⟨0,0,oo z0⟩).Val⟩,t.Last,t.Serial⟩:=by
 unfold bZ;simp only[jn];rw[Ly (b:=80) t.a8.length (λk=>⟨(p.a8.getD k ⟨0,0,0⟩).State,(p.a8.getD k ⟨0,0,0⟩).Gen,(t.a8.getD k ⟨0,0,oo z0⟩).Val⟩) (by omega) (by omega) (λk acc hk=>?_) (λacc=>by simp)];·rfl
 .have hk2:k<p.a8.length:=by omega
  simp only[zQ,hk,zV,zT,u7 hk,u7 hk2,Ys];rw[zf,zc hk2,zf,zc hk];rfl
theorem KY{s:a7}(hR:SR s){h:Int}{i:Nat}(q:Z7 s h i):rG (sO s) h=some (sO (yD s i)):=by
 have hi:=q.1;have hc:=hR.cell i hi;have l9:=hR.l9;have hlen:=hR.len;have hr:=q.MI hR;have hH:pn h:=((qh hR).2 q).2.1;have hsl:(h-1) % 32=i:=((qh hR).2 q).2.2.1;have S9:i<(pl (sO s)).a8.length:=by rw[bX,C1];exact hi
 have key:∀st g,(st:Int)=st->bZ (sO s) ⟨(pl (sO s)).a8.set i ⟨st,g,0⟩,(pl (sO s)).Last⟩=some ⟨(sO s).a8.set i ⟨st,g,oo (ce s i).Val⟩,s.S.Last,s.Serial⟩:=λst g _=>by
  rw[xt _ _ (by rw[C1];omega) (by simp[bX])];congr 1;congr 1;refine zbi (by simp) λk h1 h2=>?_;have hk:k<s.S.a8.length:=by simpa[C1] using h1
  have hk2:k<(sO s).a8.length:=by rw[C1];exact hk
  have hk3:k<(pl (sO s)).a8.length:=by rw[bX];exact hk2
  simp only[t7,List.getElem_range,zb0];have e1:(sO s).a8.getD k ⟨0,0,oo z0⟩=cO (ce s k):=by
   rw[zf,zc hk2,E9 hk];simp[sO]
  have e2:((pl (sO s)).a8.set i ⟨st,g,0⟩).getD k ⟨0,0,0⟩=if k=i then ⟨st,g,0⟩ else xY k (cO (ce s k)):=by
   rw[jE S9];split;·rfl
   .rw[zf,zc hk3,E9 hk];simp[pl,sO]
  rw[e1,e2];by_cases e:k=i
  .subst e;rw[zb rfl,zb rfl];rfl
  .rw[za e,za (zan e)];rw[E9 hk];simp[sO,xY,cO]
 have fin:∀st g,(fh ⟨(sO s).a8.set i ⟨st,g,oo (ce s i).Val⟩,s.S.Last,s.Serial⟩ (i:Int) ⟨0,0,0,0,false,[]⟩)=some (sO (G4 s i ⟨st,g,z0⟩)):=λst g=>by
  unfold fh;have hi2:i<((sO s).a8.set i ⟨st,g,oo (ce s i).Val⟩).length:=by simp[C1];exact hi
  rw[V0 (by omega) (by simp[C1];omega),Ys,u7 hi2,Ys,HP];simp[cO,oo,zcc]
 unfold rG Dy yD;rw[iT _ (by rw[C1];omega),Ys,sP s (by omega),kR hR q,Ys,za (by simp)];rw[Dt (by rw[C1];exact hi),Ys];have hgen:(xY i ((sO s).a8[i]'(by rw[C1];exact hi))).Gen=(ce s i).Gen:=by
  rw[E9 hi];simp[xY,sO,cO]
 have hlast:(pl (sO s)).Last=s.S.Last:=rfl;have w3:∀c:O7,bE (pl (sO s)) (i:Int) c=some ⟨(pl (sO s)).a8.set i c,(pl (sO s)).Last⟩:=λc=>by
  unfold bE;rw[V0 (by omega) (by rw[bX,C1];omega),Ys,u7 S9,Ys,zW]
 rw[hgen,hlast,nx,zb hH,hsl];by_cases g:(ce s i).Gen=s.S.Last
 .rw[zb (by simp[g]),zb g,w3,Ys,Ys,za (by simp),key _ _ rfl,Ys,Ys,fin];rfl
 .rw[za (by simp;omega),za g,w3,Ys,Ys,za (by simp),key _ _ rfl,Ys,Ys,F9 (by omega) (by omega),fin];rfl
section
variable{x:Hp}(hR:SR x.S)
include hR
theorem yL{h d:Int}(hh:h<=9223372036854775807)(hw:Z7 x.S h (D2 h) -> -1000<=(ce x.S (D2 h)).Val.Weak+d/\(ce x.S (D2 h)).Val.Weak+d<=1000):cv x h d=some (jO x h d):=by
 unfold cv jO;by_cases q:Z7 x.S h (D2 h)
 .have:=hw q;rw[zb q,kR hR q,Ys];simp only[ms,zT];rw[CX q.1,Ys,F9 (by omega) (by omega),BV hR q,Ys];rfl
 .have hno:∀i,¬Z7 x.S h i:=λi hi=>q (by rw[hi.D2 hR];exact hi);rw[za q,pU hR hh hno,Ys];have:((if h=0 then 2 else 3:Int)==0)=false:=by simpa using eV h
  simp only[this,zm,zZ]
theorem Eb{h:Int}(hh:h<=9223372036854775807)(hw:Z7 x.S h (D2 h)->1<=(ce x.S (D2 h)).Val.Weak/\(ce x.S (D2 h)).Val.Weak<=1000):eF x h=some (nW x h):=by
 unfold eF;rw[yL hR hh (λq=>by have:=hw q;omega),Ys];unfold jO nW;by_cases q:Z7 x.S h (D2 h)
 .have hw:=hw q;rw[zb q,zb q];have RT:=wy hR q.1 q.2.1 (d:=-1) (by omega);have q1:Z7 (oE x.S (D2 h) (-1)) h (D2 h):=(uQ q.1 _).2 q;dsimp only;rw[kR RT q1,Ys,za (by simp),CX q1.1,Ys,fz hR q.1 q.2.1,zb rfl];dsimp only;by_cases c:(ce x.S (D2 h)).State=2/\(ce x.S (D2 h)).Val.Weak=1
  .rw[zb c,zb (by simp[c.1,c.2]),GS RT q1,Ys];rfl
  .rw[za c,za (by simp only[zl,wl];omega)]
 .have hno:∀i,¬Z7 x.S h i:=λi hi=>q (by rw[hi.D2 hR];exact hi);rw[za q,za q,pU hR hh hno,Ys];have:((if h=0 then 2 else 3:Int) != 0)=true:=by simpa using eV h
  simp only[this,zT]
theorem JB{h:Int}(hh:h<=9223372036854775807)(hw:Z7 x.S h (D2 h)->1<=(ce x.S (D2 h)).Val.Weak/\(ce x.S (D2 h)).Val.Weak<=1000):cC (hO x) h=some (hO (nW x h)):=by
 have hl:=hR.len;unfold cC;rw[show (hO x).S=sO x.S from rfl,iT _ (by rw[C1];omega),Ys,sP x.S hh];unfold nW;by_cases q:Z7 x.S h (D2 h)
 .have hw:=hw q;have hr:=q.MI hR;rw[zb q,kR hR q,Ys,za (by simp),Rv q.1,Ys];have RT:=wy hR q.1 q.2.1 (d:=-1) (by omega);have q1:Z7 (oE x.S (D2 h) (-1)) h (D2 h):=(uQ q.1 _).2 q;have hs:P5 (sO x.S) h (oo (Vt (ce x.S (D2 h)).Val ((ce x.S (D2 h)).Val.Weak + -1)))=some (sO (oE x.S (D2 h) (-1)),0):=by
   rw[MX x.S hl hh,BV hR q];rfl
  have hw64:z8 ((cO (ce x.S (D2 h))).Val.Weak-1)=(ce x.S (D2 h)).Val.Weak + -1:=by
   show z8 ((ce x.S (D2 h)).Val.Weak-1)=_;rw[F9 (by omega) (by omega)];omega
  rw[hw64];rw[show P5 (sO x.S) h ⟨(cO (ce x.S (D2 h))).Val.Serial,(cO (ce x.S (D2 h))).Val.Strong,(ce x.S (D2 h)).Val.Weak + -1,(cO (ce x.S (D2 h))).Val.Prog,(cO (ce x.S (D2 h))).Val.Started,(cO (ce x.S (D2 h))).Val.Fields⟩=_ from hs,Ys,Rv q1.1,Ys,fz hR q.1 q.2.1,zb rfl];by_cases c:(ce x.S (D2 h)).State=2/\(ce x.S (D2 h)).Val.Weak=1
  .rw[zb c,zb (by simp[cO,c.1,c.2]),KY RT q1,Ys];rfl
  .rw[za c,za (by simp only[cO,zl,wl,ut];omega)];rfl
 .have hno:∀i,¬Z7 x.S h i:=λi hi=>q (by rw[hi.D2 hR];exact hi);rw[za q,pU hR hh hno,Ys];have:((if h=0 then 2 else 3:Int) != 0)=true:=by simpa using eV h
  simp only[this,zT]
end
theorem Nv{l:List k7}(hl:l.length<=1000){n:Nat}(hn:n<l.length)(h call:Int):sy l n h call=some (l.set n (iZ h call),l[n].Target,0):=by
 unfold sy kB aU;simp only[Ys];rw[za (by simp;omega),jN (by omega) (by omega),Ys];have e:ux (List.replicate l.length (⟨0,false,0⟩:k7)) l=some l:=by
  unfold ux;rw[zb (by simp)];simp
 rw[e,Ys,Ys,u7 hn,Ys,Ys,zW]
theorem FZ{l:List k7}(hl:l.length<=1000){n:Nat}(hn:n<l.length)(h call:Int):BF (l.map qy) n h call=some ((l.set n (iZ h call)).map qy,l[n].Target,0):=by
 unfold BF;have hn':n<(l.map qy).length:=by simpa using hn
 rw[za (by simp;omega),V0 (by omega) (by simp;omega),Ys,u7 hn',Ys,Ys,zW,zbv];simp[qy]
theorem TU(l:List k7)(h:Int):Cu l h<=l.length:=zbe
theorem Rb{x:Hp}(hx:O4 x)(k h call:Int)(hh:h<=9223372036854775807)(hc : -1<=call/\call<=5) :
  (∃e,e≠0/\W3 x k h call=some (x,e)/\gQ (hO x) k h call=some (hO x,e)) \/
  ((h=0\/h∈lv x.S)/\∃n:Nat,k=n/\n<6/\JF x.Q n=false/\W3 x k h call=some (dP x n h call,0)/\gQ (hO x) k h call=some (hO (dP x n h call),0)):=by
 have hR:=hx.sh.sr;have c6:=hx.sh.c6;have q30:=hx.sh.q30;unfold W3 gQ;by_cases hk:k<0\/5<k
 .left;have e1:((decide (k<0))||(decide (k>=(x.a8.length:Int))))=true:=by rw[c6];simp;omega
  have e2:((decide (k<0))||(decide (k > 5)))=true:=by simp;omega
  refine⟨7,by decide,?_,?_⟩;·rw[e1];rfl
  .rw[e2];rfl
 .obtain⟨n,rfl⟩:∃n:Nat,k=n:=⟨k.toNat,by omega⟩;have hn6:n<6:=by omega
  have e1:((decide ((n:Int)<0))||(decide ((n:Int)>=(x.a8.length:Int))))=false:=by rw[c6];simp;omega
  have e2:((decide ((n:Int)<0))||(decide ((n:Int) > 5)))=false:=by simp;omega
  rw[e1,e2];simp only[ms,jQ,zb5];have hwq:hZ x.Q n=some (JF x.Q n):=QM (by omega);have hwr:oK (hO x).Q n=some (JF x.Q n):=Qt (by omega);rw[hwq,Ys,hwr,Ys,dY hR hh,Ys,va hR hh,Ys];by_cases hw:JF x.Q n=true
  .left;rw[zb hw,zb hw];exact⟨7,by decide,rfl,rfl⟩
  .have hw:JF x.Q n=false:=by simpa using hw
   rw[hw,za (show ¬(false=true) by decide),za (show ¬(false=true) by decide)];by_cases hl:h=0\/h∈lv x.S
   .right;refine⟨hl,n,rfl,hn6,hw,?_⟩;have hnl:n<x.a8.length:=by omega
    rw[zA hl,za (by simp),za (by simp),Nv (by omega) hnl,Ys,show (hO x).a8=x.a8.map qy from rfl,FZ (by omega) hnl,Ys];have htg:sf x n=x.a8[n].Target:=by
     unfold sf;rw[zf,zc hnl];rfl
    have wkb:∀i,i<x.S.S.a8.length->Th (ce x.S i)->0<=(ce x.S i).Val.Weak/\(ce x.S i).Val.Weak<=6:=λi hi ht=>by
     have:=(hx.wk i hi ht).1;have:=TU x.a8 (1+(i:Int)+32*(ce x.S i).Gen);omega
    have mk1:∃s2,jO (wC x (x.a8.set n (iZ h call))) h 1=wS (wC x (x.a8.set n (iZ h call))) s2/\SR s2/\(∀k i,Z7 s2 k i↔Z7 x.S k i)/\(∀i,i<x.S.S.a8.length->Th (ce x.S i)->(ce x.S i).Val.Weak<=(ce s2 i).Val.Weak/\(ce s2 i).Val.Weak<=(ce x.S i).Val.Weak+1) /\
      (h≠0->M1 (sO x.S) h=some (oo (ce x.S (D2 h)).Val,0)/\P5 (sO x.S) h (oo (Vt (ce x.S (D2 h)).Val ((ce x.S (D2 h)).Val.Weak+1)))=some (sO s2,0))/\(h=0->s2=x.S):=by
     unfold jO;by_cases h0:h=0
     .have hno:¬Z7 x.S h (D2 h):=λq=>by have:=q.MI hR;omega
      rw[za hno];exact⟨x.S,rfl,hR,λ_ _=>Iff.rfl,λi _ _=>by omega,λq=>absurd h0 q,λ_=>rfl⟩
     .have hll:=hl.resolve_left h0;have hp:=A0 hR hll;have hb:=wkb _ hp.1 (.inl hp.2.1);rw[zb hp.d];have kn:=lz hR hp.1 (.inl hp.2.1) (d:=1) (by omega);refine⟨_,rfl,kn.sr,kn.ad,λi hi ht=>?_,λ_=>⟨?_,?_⟩,λq=>absurd q h0⟩
      .rw[fz hR hp.1 (.inl hp.2.1)];split;·rename_i e;subst e;dsimp only;omega
       .omega
      .rw[qW x.S (by have:=hR.len;omega) hh,SI hR hp];rfl
      .rw[MX x.S hR.len hh,BV hR hp.d];rfl
    obtain⟨s2,m1,m2,m3,m4,m5,m6⟩:=mk1;have hold:sf x n<=9223372036854775807:=by
     by_cases q:sf x n=0
     .omega
     .obtain⟨p,hp⟩:=(hx.sh.cl n hnl).2.2.2.1 (by rw[<-htg];exact q);have:=hp.MI hR;rw[htg];omega
    have hun:Z7 s2 (sf x n) (D2 (sf x n))->1<=(ce s2 (D2 (sf x n))).Val.Weak/\(ce s2 (D2 (sf x n))).Val.Weak<=1000:=λq=>by
     have q':=(m3 _ _).1 q;have r:=q'.MI hR;have:=(hx.wk _ q'.1 q'.2.1).1;have hp:0<Cu x.a8 x.a8[n].Target:=rA hnl (by rw[<-htg];omega);rw[<-htg,q'.2.2] at hp;have:=m4 _ q'.1 q'.2.1;have:=wkb _ q'.1 q'.2.1;omega
    have u1:=Eb (x:=wS (wC x (x.a8.set n (iZ h call))) s2) m2 hold hun;have u2:=JB (x:=wS (wC x (x.a8.set n (iZ h call))) s2) m2 hold hun;have hwb:Z7 x.S h (D2 h) -> -1000<=(ce x.S (D2 h)).Val.Weak+1/\(ce x.S (D2 h)).Val.Weak+1<=1000:=λq=>by
     have:=wkb _ q.1 q.2.1;omega
    have mm:=yL (x:=wC x (x.a8.set n (iZ h call))) (d:=1) hR hh hwb;constructor
    .dsimp only;rw[show cv ⟨x.S,x.Roots,x.a8.set n (iZ h call),x.T,x.Q⟩ h 1=_ from mm,Ys,m1,<-htg,u1,Ys];unfold dP;rw[m1]
    .unfold dP;rw[m1];dsimp only;by_cases h0:h=0
     .rw[za (by simpa using h0),<-htg];rw[m6 h0] at u2 |-;rw[show cC ⟨(hO x).S,(hO x).Roots,(x.a8.set n (iZ h call)).map qy,(hO x).T,(hO x).Q⟩ (sf x n)=_ from u2,Ys]
     .obtain⟨g1,g2⟩:=m5 h0;have hp:=A0 hR (hl.resolve_left h0);have hb:=wkb _ hp.1 (.inl hp.2.1);rw[zb (by simpa using h0),show (hO x).S=sO x.S from rfl,g1,Ys];have e:z8 ((oo (ce x.S (D2 h)).Val).Weak+1)=(ce x.S (D2 h)).Val.Weak+1:=by
       show z8 ((ce x.S (D2 h)).Val.Weak+1)=_;rw[F9 (by omega) (by omega)]
      dsimp only;rw[e];rw[show P5 (sO x.S) h ⟨(oo (ce x.S (D2 h)).Val).Serial,(oo (ce x.S (D2 h)).Val).Strong,(ce x.S (D2 h)).Val.Weak+1,(oo (ce x.S (D2 h)).Val).Prog,(oo (ce x.S (D2 h)).Val).Started,(oo (ce x.S (D2 h)).Val).Fields⟩=_ from g2,Ys,<-htg];dsimp only;rw[show cC ⟨sO s2,(hO x).Roots,(x.a8.set n (iZ h call)).map qy,(hO x).T,(hO x).Q⟩ (sf x n)=_ from u2,Ys]
   .left;rw[zK hl];refine⟨3,by decide,?_,?_⟩ <;> rw[zb (by rfl)]
section
variable{x:Hp}(hx:O4 x)(hS:∀k∈lv x.S,(ob x.S k).Strong<=9223372036854775807)
include hx hS
end
theorem GP{α:Type}{l:List α}{i:Nat}(h:i<l.length)(d:α):l.getD i d=l[i]:=by
 rw[zf,zc h];rfl
def Yg(a b:o0):Prop:=a.Kind=b.Kind/\a.At=b.At
instance(a b:o0):Decidable (Yg a b):=by unfold Yg;infer_instance
section
variable{x:Hp}(hR:SR x.S)
include hR
omit hR in
theorem KG:Rh x.S x.T (pf x)↔cg x []:=by
 constructor
 .intro h k hk hlt;have:=h k hk hlt;unfold Jq inr at this;rw[zb hk] at this;rw[R6];unfold pe;omega
 .intro h k hk hlt;have:=h k hk hlt;rw[R6] at this;unfold pe at this;unfold Jq inr;rw[zb hk];omega
end
section
variable{x:Hp}(hx:O4 x)(hB:HB x)
include hx hB
end
def SL(x:Hp):Prop:=∀k∈lv x.S,(ob x.S k).Strong<=9223372036854775807
theorem SB.sl{x:Hp}(hR:SR x.S)(h:SB x.S):SL x:=λk hk=>Jz hR h k hk
theorem VX{x:Hp}(hx:O4 x)(hS:SL x):HB x:=by
 have hR:=hx.sh.sr;have bd:∀v,v=0\/v∈lv x.S->v<=9223372036854775807:=λv q=>by
  rcases q with q | q
  .omega
  .have:=I3 hR q;omega
 refine⟨WQ.2 λi hi=>?_,VR.2 λi hi v hv=>?_,λv hv=>bd v (hx.sh.rt v hv),λc hc=>?_,λp hp=>?_,λt ht=>?_⟩
 .by_cases t:Th (ce x.S i)
  .rcases t with t | t
   .have q:At x.S (1+(i:Int)+32*(ce x.S i).Gen) i:=⟨hi,t,rfl⟩;have:=hS _ ((fF hR).2 ⟨i,q⟩);rwa [Q2 hR q] at this
   .have:=((hx.wk i hi (.inr t)).2 t).2.2;omega
  .have:=(hR.no i hi t).2.1;simp only[oo] at this;omega
 .by_cases t:Th (ce x.S i)
  .rcases t with t | t
   .have q:At x.S (1+(i:Int)+32*(ce x.S i).Gen) i:=⟨hi,t,rfl⟩;have hm:=(fF hR).2 ⟨i,q⟩;exact bd v (hx.sh.fl _ hm v (by rw[Q2 hR q];exact hv))
   .rw[((hx.wk i hi (.inr t)).2 t).2.1] at hv;cases hv
  .have:=(hR.no i hi t).2.2.2.2.2;simp only[oo] at this;rw[zF this] at hv;cases hv
 .obtain⟨i,hi,rfl⟩:=zbc hc;by_cases e:x.a8[i].Target=0
  .omega
  .obtain⟨p,hp⟩:=(hx.sh.cl i hi).2.2.2.1 e;have:=hp.MI hR;omega
 .obtain⟨i,hi,rfl⟩:=zbc hp;have e:pt x.T i=x.T[i]:=by
   unfold pt;rw[zf,zc hi];rfl
  by_cases s1:(pt x.T i).State=1
  .obtain⟨a,b⟩:=hx.sh.pr (pt x.T i).Key (pt x.T i).Val ⟨i,⟨hi,s1,rfl⟩,rfl⟩;rw[e] at a b;exact⟨bd _ (.inr a),bd _ (.inr b)⟩
  .obtain⟨a,b⟩:=(hx.sh.hr.st i hi).2 s1;rw[e] at a b;omega
 .obtain⟨_,_,q | q⟩:=hx.sh.tk t ht;·exact bd _ (.inr q.2.1)
  .omega
theorem Pr(c:Int):W6 c<=12:=by unfold W6;split <;> (try split) <;> omega
theorem OZ{c:Int}(h:c<=9223372036854775807):jC c<=9223372036854775807:=by unfold jC;split <;> (try split) <;> omega
theorem SL.of{x y:Hp}(h:SL x)(hl:lv y.S=lv x.S)(hs:∀k∈lv x.S,(ob y.S k).Strong=(ob x.S k).Strong):SL y:=λk hk=>by
 rw[hl] at hk;rw[hs k hk];exact h k hk
theorem SL.st{x:Hp}(h:SL x)(hR:SR x.S)(v:Int){f:Int->Int}(hf:∀c,0<=c->0<=f c)(hb:∀c,c<=9223372036854775807->f c<=9223372036854775807):SL (se x v f):=λk hk=>by
 rw[(G2 hR v hf).lv] at hk;rw[tI hR v hf hk];split;·exact hb _ (h k hk)
 .exact h k hk
theorem SL.C6{x:Hp}(h:SL x)(hR:SR x.S)(v:Int):SL (C6 x v):=h.st hR v (λc=>D8) λc _=>by have:=Pr c;omega
theorem SL.Xl{x:Hp}(h:SL x)(hR:SR x.S)(v:Int):SL (R9 x v):=h.st hR v (λc=>P3) λc hc=>OZ hc
theorem FJ{x:Hp}(hR:SR x.S)(v:Int):SR (R9 x v).S:=(G2 hR v λc=>P3).sr
theorem ke{x:Hp}(hR:SR x.S)(h:SL x)(r:Nat)(v:Int):SL (H5 x r v):=by
 unfold H5;exact SL.Xl (x:=wR (C6 x v) (x.Roots.set r v)) (h.C6 hR v) (gY hR v) _
theorem IH{x:Hp}(hR:SR x.S)(hS:SL x){h:Int}(hh:h∈lv x.S)(k:Nat)(v:Int):SL (bS x h k v):=by
 have xV:=G2 hR v (f:=W6) λc=>D8;have hR1:SR (C6 x v).S:=xV.sr;have hl1:h∈lv (C6 x v).S:=by rw[show lv (C6 x v).S=lv x.S from xV.lv];exact hh
 have hof:(ob (C6 x v).S h).Fields=(ob x.S h).Fields:=by
  obtain⟨m,e⟩:=xV.ob h (by have:=I3 hR hh;omega);show (ob (se x v W6).S h).Fields=_;rw[e]
 have ok:=J5 hR1 hl1;have ho:xJ (C6 x v).S (oz (ob (C6 x v).S h) ((ob x.S h).Fields.set k v)):=⟨ok.s1,ok.s2,ok.st,ok.wk,ok.p1,ok.p2,by have:=ok.fl;rw[hof] at this;simpa using this⟩;have sr2:=bu (o:=oz (ob (C6 x v).S h) ((ob x.S h).Fields.set k v)) hR1 hl1 rfl ho;unfold bS;refine SL.Xl (x:=wS (C6 x v) (cK (C6 x v).S h (oz (ob (C6 x v).S h) ((ob x.S h).Fields.set k v)))) ?_ sr2 _;refine (hS.C6 hR v).of (fD hR1 hl1 rfl ho) λj hj=>?_;dsimp only;rw[eh (o:=oz (ob (C6 x v).S h) ((ob x.S h).Fields.set k v)) hR1 hl1 rfl ho (by have:=I3 hR1 hj;omega)];split;·rename_i e;rw[e]
 .rfl
theorem Ml{x:Hp}(hR:SR x.S)(hS:SL x)(v:Int)(t:Tb)(old:Int):SL (jR x v t old):=by
 unfold jR;exact SL.Xl (x:=wT (C6 x v) t) (hS.C6 hR v) (gY hR v) _
theorem TP{x:Hp}(hR:SR x.S)(hS:SL x)(h:Int){d:Int}(hd:Z7 x.S h (D2 h)->0<=(ce x.S (D2 h)).Val.Weak+d):SL (jO x h d):=by
 unfold jO;split
 .rename_i q;exact hS.of (lz hR q.1 q.2.1 (hd q)).lv λk hk=>lA hR q.1 q.2.1 (hd q) hk
 .exact hS
theorem Ig{x:Hp}(hR:SR x.S)(hS:SL x)(h:Int)(hd:Z7 x.S h (D2 h)->1<=(ce x.S (D2 h)).Val.Weak):SL (nW x h):=by
 unfold nW;split
 .rename_i q;have hd:=hd q;have kn:=lz (d:=-1) hR q.1 q.2.1 (by omega);have s1:SL (wS x (oE x.S (D2 h) (-1))):=hS.of kn.lv λk hk=>lA hR q.1 q.2.1 (by omega) hk;split
  .rename_i c;have hi1:D2 h<(oE x.S (D2 h) (-1)).S.a8.length:=by rw[kn.len];exact q.1
   have hce:ce (oE x.S (D2 h) (-1)) (D2 h)=⟨(ce x.S (D2 h)).State,(ce x.S (D2 h)).Gen,Vt (ce x.S (D2 h)).Val ((ce x.S (D2 h)).Val.Weak + -1)⟩:=by
    rw[fz hR q.1 q.2.1,zb rfl]
   have h2:(ce (oE x.S (D2 h) (-1)) (D2 h)).State=2:=by rw[hce];exact c.1
   exact s1.of (AY kn.sr hi1 h2) λk hk=>by
    dsimp only;rw[AZ kn.sr hi1 h2 hk]
  .exact s1
 .exact hS
theorem Nt{x:Hp}(hx:O4 x)(hS:SL x){n:Nat}(hn:n<6)(h call:Int):SL (dP x n h call):=by
 have hR:=hx.sh.sr;have hnl:n<x.a8.length:=by have:=hx.sh.c6;omega
 have ok:∀k i,Z7 x.S k i->0<=(ce x.S i).Val.Weak:=λk i q=>(hR.ok i q.1 q.2.1).wk;have tw:∀i,Z7 x.S (sf x n) i->1<=(ce x.S i).Val.Weak:=λi q=>by
  have htg:sf x n=x.a8[n].Target:=by
   unfold sf;rw[zf,zc hnl];rfl
  have r:=q.MI hR;have p:=rA hnl (by rw[<-htg];omega);rw[<-htg,q.2.2] at p;have:=(hx.wk i q.1 q.2.1).1;omega
 unfold dP;have s1:SL (jO (wC x (x.a8.set n (iZ h call))) h 1):=TP (x:=wC x (x.a8.set n (iZ h call))) hR hS h λq=>by
  have:=ok _ _ q;dsimp only;omega
 by_cases q:Z7 x.S h (D2 h)
 .have e:jO (wC x (x.a8.set n (iZ h call))) h 1=wS (wC x (x.a8.set n (iZ h call))) (oE x.S (D2 h) 1):=by
   unfold jO;rw[zb q]
  have hd:=ok _ _ q;have kn:=lz (d:=1) hR q.1 q.2.1 (by omega);rw[e] at s1 |-;refine Ig kn.sr s1 _ λq2=>?_;dsimp only at q2 |-;have q3:=(kn.ad _ _).1 q2;have:=tw _ q3;rw[fz hR q.1 q.2.1];split
  .rename_i e2;rw[e2] at this;show 1<=(ce x.S (D2 h)).Val.Weak+1;omega
  .exact this
 .have e:jO (wC x (x.a8.set n (iZ h call))) h 1=wC x (x.a8.set n (iZ h call)):=by
   unfold jO;rw[za q]
  rw[e] at s1 |-;exact Ig (x:=wC x (x.a8.set n (iZ h call))) hR s1 _ λq2=>tw _ q2
section
variable{x:Hp}(hx:O4 x)(hS:SL x)
include hx hS
end
def Ri(x:Hp):Prop:=Sm x.S/\x.Roots.length<=20/\x.a8.length<=20/\x.T.length<=20/\x.Q.L.length<=60
instance(x:Hp):Decidable (Ri x):=by unfold Ri;infer_instance
def Pp:Hp:=⟨⟨⟨[],0⟩,0⟩,[],[],[],⟨[],0⟩⟩
theorem xn(x:Hp)(h:Int)(f:Int->Int):(se x h f).Roots=x.Roots/\(se x h f).a8=x.a8/\(se x h f).T=x.T/\(se x h f).Q=x.Q:=by
 unfold se;split <;> exact⟨rfl,rfl,rfl,rfl⟩
theorem gX(x:Hp)(r:Nat)(h:Int):(H5 x r h).Roots=x.Roots.set r h/\(H5 x r h).a8=x.a8/\(H5 x r h).T=x.T/\(H5 x r h).Q=x.Q:=by
 obtain⟨a,b,c,d⟩:=xn (wR (C6 x h) (x.Roots.set r h)) (x.Roots.getD r 0) jC;obtain⟨a',b',c',d'⟩:=xn x h W6;exact⟨a,b.trans b',c.trans c',d.trans d'⟩
section
variable{x:Hp}(hB:HB x)
include hB
end
abbrev IE(o:p7):p7:=⟨o.Serial,0,o.Weak,o.Prog,o.Started,[]⟩
def JH(s:a7)(i:Nat):b7:=
 if (ce s i).Val.Weak=0 then (if (ce s i).Gen=s.S.Last then ⟨3,(ce s i).Gen,z0⟩ else ⟨0,(ce s i).Gen+1,z0⟩) else ⟨2,(ce s i).Gen,IE (ce s i).Val⟩
def AW(s:a7)(d:Int):a7:=G4 s (D2 d) (JH s (D2 d))
def lh(s:a7)(ds:List Int):a7:=ds.foldl AW s
theorem Tp(s:a7)(i:Nat):(JH s i).State≠1:=by
 unfold JH;split;·split <;> simp
 .simp
theorem Fy{s:a7}(hR:SR s){a b:Int}(ha:a∈lv s)(hb:b∈lv s)(h:a≠b):D2 a≠D2 b:=λe=>by
 have h1:=A0 hR ha;have h2:=A0 hR hb;rw[e] at h1;exact h (h1.2.2.trans h2.2.2.symm)
section
variable{s:a7}(hR:SR s){d:Int}(hd:d∈lv s)
include hR hd
theorem Fb:SR (AW s d):=by
 have q:=A0 hR hd;have hc:=hR.cell _ q.1;have ho:=hR.ok _ q.1 (.inl q.2.1);have no:Ii (oo z0):=⟨rfl,rfl,rfl,rfl,rfl,rfl⟩;unfold AW JH;split
 .split;·exact hR.G4 q.1 ⟨by simp,by simp,hc.2.2.1,hc.2.2.2⟩ (λ_=>no) (λq=>absurd q (by unfold Th;simp))
  .refine hR.G4 q.1 ⟨by simp,by simp,?_,?_⟩ (λ_=>no) (λq=>absurd q (by unfold Th;simp));·show 0<=(ce s (D2 d)).Gen+1;omega
   .show (ce s (D2 d)).Gen+1<=s.S.Last;omega
 .exact hR.G4 q.1 ⟨by simp,by simp,hc.2.2.1,hc.2.2.2⟩ (λq=>absurd (.inr rfl) q) (λ_=>⟨⟨ho.s1,ho.s2,pi _,ho.wk,ho.p1,ho.p2,sm _⟩,.inl q.2.1,rfl⟩)
theorem KZ(j:Nat):ce (AW s d) j=if j=D2 d then JH s (D2 d) else ce s j:=L3 (A0 hR hd).1 _ j
theorem Tn:lv (AW s d)=(lv s).filter λh=>decide (h≠d):=by
 have hS:=Fb hR hd;unfold AW at hS |-;have hc:=Tp s (D2 d);rw[Hd hR (A0 hR hd).1 hc hS];refine za7 λh hh=>zbh.2 ⟨λq e=>q (by rw[e]),λq=>Fy hR hh hd q⟩
theorem To{k:Int}(hk:k∈lv s)(hne:k≠d):ob (AW s d) k=ob s k:=by
 have hS:=Fb hR hd;unfold AW at hS |-;exact Hl hR (A0 hR hd).1 hS hk (Fy hR hk hd hne)
end
structure Gn (s s':a7) (ds:List Int):Prop where
 sr:SR s'
 len:s'.S.a8.length=s.S.a8.length
 last:s'.S.Last=s.S.Last
 T7:s'.Serial=s.Serial
 lv:lv s'=(lv s).filter λh=>decide (h∉ds)
 ob:∀k∈Sh.lv s,k∉ds->ob s' k=ob s k
 ce:∀j,ce s' j=if j∈ds.map D2 then JH s j else ce s j
theorem da:∀(ds:List Int) {s:a7} (hR:SR s),ds.Nodup->(∀d∈ds,d∈lv s)->Gn s (lh s ds) ds
 | [],s,hR,_,_=>⟨hR,rfl,rfl,rfl,(zbb.2 (λa _=>by simp)).symm,λ_ _ _=>rfl,λj=>by simp[lh]⟩
 | d::ds,s,hR,hn,hm=>by
  rw[zar] at hn;have hd:=hm d (zi ..);have hlv:=Tn hR hd;have hm':∀e∈ds,e∈lv (AW s d):=λe he=>by
   rw[hlv,zy,zH];exact⟨hm e (zq _ he),λq=>hn.1 (q▸he)⟩
  have ih:=da ds (Fb hR hd) hn.2 hm';refine⟨ih.sr,ih.len.trans (Z6 ..),ih.last,ih.T7,?_,λk hk hne=>?_,λj=>?_⟩
  .show lv (lh (AW s d) ds)=_;rw[ih.lv,hlv,List.filter_filter];refine za7 λh hh=>?_;rw[zbl];simp only[zl,zH,zJ,not_or];exact⟨λq=>⟨q.2,q.1⟩,λq=>⟨q.2,q.1⟩⟩
  .show ob (lh (AW s d) ds) k=_;rw[zJ,not_or] at hne;rw[ih.ob k (by rw[hlv,zy,zH];exact⟨hk,hne.1⟩) hne.2,To hR hd hk hne.1]
  .show ce (lh (AW s d) ds) j=_;have hg:∀e∈ds,D2 e≠D2 d:=λe he=>Fy hR (hm e (zq _ he)) hd λq=>hn.1 (q▸he);rw[ih.ce];by_cases h1:j∈ds.map D2
   .obtain⟨e,he,rfl⟩:=zI.1 h1;rw[zb h1,zb (by rw[ul];exact zq _ h1)];unfold JH;rw[KZ hR hd,za (hg e he)];rfl
   .rw[za h1,KZ hR hd,ul];by_cases h2:j=D2 d
    .subst h2;rw[zb rfl,zb (zi ..)]
    .rw[za h2,za];rw[zJ];exact λq=>q.elim h2 h1
theorem Ah{α:Type}(p:α->Bool)(f:α->Nat):∀l:List α,(l.map f).sum=((l.filter p).map f).sum+((l.filter λx => !p x).map f).sum
 | []=>rfl
 | x::l=>by
  rw[ul,zb4,Ah p f l,me,me];cases p x <;> simp <;> omega
theorem DZ(f:Int->List Int)(y:Int):∀l:List Int,aD (l.flatMap f) y=(l.map λx=>aD (f x) y).sum
 | []=>R6 y
 | x::l=>by rw[za6,L0,DZ f y l,ul,zb4]
theorem Gn.jo{s s':a7}{ds:List Int}(hR:SR s)(hn:ds.Nodup)(hm:∀d∈ds,d∈Sh.lv s)(g:Gn s s' ds)(y:Int):jo s' y+aD (ds.flatMap (outs s)) y=jo s y:=by
 unfold Sh.jo;rw[g.lv,Ah (λh=>decide (h∉ds)) (λx=>aD (outs s x) y) (Sh.lv s),DZ];have h1:((Sh.lv s).filter λh=>decide (h∉ds)).map (λx=>aD (outs s' x) y)=((Sh.lv s).filter λh=>decide (h∉ds)).map λx=>aD (outs s x) y:=zP λx hx=>by
  rw[zy,zH] at hx;unfold Sh.outs;rw[g.ob x hx.1 hx.2]
 have h2:((Sh.lv s).filter λx => !decide (x∉ds)).Perm ds:=by
  rw[List.perm_ext_iff_of_nodup ((rq (y5.2 hR)).filter _) hn];intro a;rw[zy];simp only[decide_not,Bool.not_not,zH];exact⟨λq=>q.2,λq=>⟨hm a q,q⟩⟩
 rw[h1,(h2.map λx=>aD (outs s x) y).sum_nat]
theorem Dk{L:List o0}(hd:L.Pairwise λa b=>¬(a.Kind=b.Kind/\a.At=b.At))(k:Int):((L.filter (·.Kind==k)).map (·.At)).Nodup:=by
 unfold List.Nodup;rw[List.pairwise_map];refine (hd.filter _).imp_of_mem λ{a b} ha hb h e=>?_;rw[zy,wl] at ha hb;exact h ⟨ha.2.trans hb.2.symm,e⟩
theorem xo{L:List o0}{m:List Int}(hd:L.Pairwise λa b=>¬(a.Kind=b.Kind/\a.At=b.At))(h:∀t∈L,(t.Kind=1/\t.At∈m)\/(t.Kind=2/\0<=t.At/\t.At<=5)):L.length<=m.length+6:=by
 have h1:L.length=(L.filter (·.Kind==1)).length+(L.filter (·.Kind==2)).length:=by
  rw[qP (λt:o0=>t.Kind==1) L];congr 2;refine za7 λt ht=>?_;rcases h t ht with q | q
  .simp[q.1]
  .simp[q.1]
 have h2:=gL (Dk hd 1) (m:=m) λa ha=>by
  obtain⟨t,ht,rfl⟩:=zI.1 ha;rw[zy,wl] at ht;rcases h t ht.1 with q | q
  .exact q.2
  .omega
 have h3:=gL (Dk hd 2) (m:=[0,1,2,3,4,5]) λa ha=>by
  obtain⟨t,ht,rfl⟩:=zI.1 ha;rw[zy,wl] at ht;rcases h t ht.1 with q | q
  .omega
  .simp only[zJ,zbz,or_false];omega
 rw[ww] at h2 h3;simp only[zj,zR] at h3;omega
theorem ja{q:TQ}{w:Int}:JF q w=true↔∃t∈q.L,t.Kind=2/\t.At=w:=by
 unfold JF;rw[List.any_eq_true];simp
theorem rz{q:TQ}{h:Int}:h∈xS q↔∃t∈q.L,t.Kind=1/\t.At=h:=by
 unfold xS;rw[zI];simp only[zy,wl];exact⟨λ⟨t,⟨a,b⟩,c⟩=>⟨t,a,b,c⟩,λ⟨t,a,b,c⟩=>⟨t,⟨a,b⟩,c⟩⟩
abbrev cz:k7:=⟨0,false,0⟩
def fQ(ds:List Int)(c:k7):Bool:=c.Intact&&c.Target != 0&&decide (c.Target∈ds)
def mW(ds:List Int)(c:k7):k7:=if fQ ds c then ⟨c.Target,false,c.Call⟩ else c
def tM(l:List k7)(ds:List Int):List k7:=l.map (mW ds)
def cls(l:List k7)(ds:List Int):List Nat:=(List.range l.length).filter λw=>fQ ds (l.getD w cz)&&decide (0<=(l.getD w cz).Call)
def pq(l:List k7)(ds:List Int):List o0:=(cls l ds).map λ(w:Nat)=>⟨2,(w:Int),(l.getD w cz).Call⟩
theorem AB(ds:List Int)(c:k7):(mW ds c).Target=c.Target/\(mW ds c).Call=c.Call/\((mW ds c).Intact=true↔c.Intact=true/\fQ ds c=false):=by
 unfold mW;cases h:fQ ds c
 .rw[za (by simp)];simp
 .rw[zb rfl];simp
theorem PG(l:List k7)(ds:List Int)(h:Int):Cu (tM l ds) h=Cu l h:=by
 unfold Cu tM;rw[List.countP_map];congr 1;funext c
 simp only[Function.comp_apply,(AB ds c).1]
theorem fT{l:List k7}{ds:List Int}{t:o0}:t∈pq l ds↔∃w,∃hw:w<l.length,t=⟨2,(w:Int),l[w].Call⟩/\fQ ds l[w]=true/\0<=l[w].Call:=by
 unfold pq cls;rw[zI];constructor
 .rintro⟨w,hw,rfl⟩;rw[zy,zca] at hw;obtain⟨h1,h2⟩:=hw;have e:l.getD w cz=l[w]:=by rw[zf,zc h1];rfl
  rw[e] at h2 |-;rw[zl,zH] at h2;exact⟨w,h1,rfl,h2.1,h2.2⟩
 .rintro⟨w,hw,rfl,h2,h3⟩;have e:l.getD w cz=l[w]:=by rw[zf,zc hw];rfl
  refine⟨w,?_,by rw[e]⟩;rw[zy,zca,e,zl,zH];exact⟨hw,h2,h3⟩
theorem yu(l:List k7)(ds:List Int):(pq l ds).Pairwise λa b=>¬(a.Kind=b.Kind/\a.At=b.At):=by
 unfold pq cls;rw[List.pairwise_map];refine (zbu _ (List.nodup_range (n:=l.length))).imp λ{a b} h=>?_;rintro⟨_,e⟩;dsimp only at e;omega
def il(x:Hp)(ds:List Int)(t:Tb):Hp:=⟨lh x.S ds,x.Roots,tM x.a8 ds,t,⟨x.Q.L++pq x.a8 ds,x.Q.Cap⟩⟩
theorem wa(q:TQ)(l:List o0)(c:Int)(h:∀t∈l,t.Kind≠1):xS ⟨q.L++l,c⟩=xS q:=by
 unfold xS;dsimp only;rw[zao];have:l.filter (λt=>t.Kind==1) = []:=by
  rw[List.filter_eq_nil_iff];intro t ht;simpa using h t ht
 rw[this,or]
theorem Iw{x:Hp}(hx:O4 x){ds:List Int}(hn:ds.Nodup)(hm:∀d∈ds,d∈lv x.S)
  (ho:∀d∈ds,d∉pf x)(hf:∀h∈lv x.S,h∉ds->∀v∈(ob x.S h).Fields,v∉ds)(hp:∀k v,Has x.T k v->k∉ds->v∉ds)
  {t:Tb}{vals:List Int}(ht:HR t)(h1:∀k v,Has t k v↔k∉ds/\Has x.T k v)(h2:∀y,own t y+aD vals y=own x.T y) :
  mH (il x ds t)/\Wk (il x ds t)/\cg (il x ds t) (ds.flatMap (outs x.S)++vals):=by
 have hS:=hx.sh;have hR:=hS.sr;have g:=da ds hR hn hm;have hlv:∀h,h∈lv (lh x.S ds)↔h∈lv x.S/\h∉ds:=λh=>by rw[g.lv,zy,zH]
 have hlen:(lv x.S).length<=24:=M6 (y5.2 hR);have hcl:∀w (hw:w<x.a8.length),fQ ds x.a8[w]=true->x.a8[w].Intact=true:=λw hw q=>by
  unfold fQ at q;rw[zl,zl] at q;exact q.1.1
 have htd:(x.Q.L++pq x.a8 ds).Pairwise λa b=>¬(a.Kind=b.Kind/\a.At=b.At):=by
  rw[za3];refine⟨hS.td,yu ..,λa ha b hb q=>?_⟩;obtain⟨w,hw,rfl,hh,_⟩:=fT.1 hb;have:=((hS.cl w hw).2.2.2.2 (hcl w hw hh)).2;rw[zba] at this;exact this (ja.2 ⟨a,ha,q.1,q.2⟩)
 have htk:∀t∈x.Q.L++pq x.a8 ds,0<=t.Prog/\t.Prog<=5/\((t.Kind=1/\t.At∈lv (lh x.S ds)/\(ob (lh x.S ds) t.At).Started=true)\/(t.Kind=2/\0<=t.At/\t.At<=5)):=λt htt=>by
  rcases zx.1 htt with q | q
  .obtain⟨a,b,c⟩:=hS.tk t q;refine⟨a,b,?_⟩;rcases c with ⟨c1,c2,c3⟩ | c
   .have hnd:t.At∉ds:=λhd=>ho _ hd (zx.2 (.inr (rz.2 ⟨t,q,c1,rfl⟩)));exact .inl ⟨c1,(hlv _).2 ⟨c2,hnd⟩,by rw[g.ob _ c2 hnd];exact c3⟩
   .exact .inr c
  .obtain⟨w,hw,rfl,hh,hc⟩:=fT.1 q;have c6:=hS.c6;have:=(hS.cl w hw).2.1;exact⟨hc,this,.inr ⟨rfl,by dsimp only;omega,by dsimp only;omega⟩⟩
 have hq30:(x.Q.L++pq x.a8 ds).length<=30:=by
  have:=xo (m:=lv x.S) htd λt htt=>by
   rcases (htk t htt).2.2 with q | q
   .exact .inl ⟨q.1,((hlv _).1 q.2.1).1⟩
   .exact .inr q
  omega
 have hwts:∀i:Nat,JF x.Q i=false->(∀hi:i<x.a8.length,fQ ds x.a8[i]=false)->JF ⟨x.Q.L++pq x.a8 ds,x.Q.Cap⟩ i=false:=λi q1 q2=>by
  rw[zba] at q1 |-;intro q;obtain⟨t,ht,a,b⟩:=ja.1 q;rcases zx.1 ht with c | c
  .exact q1 (ja.2 ⟨t,c,a,b⟩)
  .obtain⟨w,hw,rfl,hh,_⟩:=fT.1 c;dsimp only at b;have:w=i:=by omega
   subst this;rw[q2 hw] at hh;cases hh
 refine⟨⟨g.sr,ht,hS.r6,?_,hS.cap,hq30,htk,htd,λh hh=>?_,λh hh v hv=>?_,λk v hkv=>?_,λi hi=>?_⟩,λi hi hti=>?_,λh hh hlt=>?_⟩
 .unfold il tM;rw[ww];exact hS.c6
 .rcases hS.rt h hh with q | q
  .exact .inl q
  .have h0:h≠0:=λe=>pd hR (e▸q);exact .inr ((hlv h).2 ⟨q,λhd=>ho h hd (zx.2 (.inl (lC.2 ⟨hh,h0⟩)))⟩)
 .obtain⟨a,b⟩:=(hlv h).1 hh;have hv':v∈(ob x.S h).Fields:=by
   have e:=g.ob h a b;unfold il at hv;rwa [e] at hv
  rcases hS.fl h a v hv' with q | q
  .exact .inl q
  .exact .inr ((hlv v).2 ⟨q,hf h a b v hv'⟩)
 .obtain⟨a,b⟩:=(h1 k v).1 hkv;obtain⟨c,d⟩:=hS.pr k v b;exact⟨(hlv k).2 ⟨c,a⟩,(hlv v).2 ⟨d,hp k v b a⟩⟩
 .have hi':i<x.a8.length:=by
   unfold il tM at hi;simpa using hi
  have e:(il x ds t).a8[i]=mW ds x.a8[i]:=t7 _;obtain⟨a1,a2,a3,a4,a5⟩:=hS.cl i hi';obtain⟨b1,b2,b3⟩:=AB ds x.a8[i];rw[e,b1,b2];refine⟨a1,a2,λq=>?_,λq=>?_,λq=>?_⟩
  .rw[zba];intro q2;rw[a3 q] at b3;exact absurd (b3.1 q2).1 (by decide)
  .obtain⟨p,hp1,hp2,hp3⟩:=a4 q;refine⟨p,by show p<(lh x.S ds).S.a8.length;rw[g.len];exact hp1,?_⟩;show Th (ce (lh x.S ds) p)/\_=1+(p:Int)+32*(ce (lh x.S ds) p).Gen;rw[g.ce];split
   .have hw:=(hx.wk p hp1 hp2).1;have:=rA hi' q;rw[hp3] at this;unfold JH;rw[za (by omega)];exact⟨.inr rfl,hp3⟩
   .exact⟨hp2,hp3⟩
  .obtain⟨c1,c2⟩:=b3.1 q;obtain⟨d1,d2⟩:=a5 c1;have h0:x.a8[i].Target≠0:=λe=>pd hR (e▸d1);refine⟨(hlv _).2 ⟨d1,λhd=>?_⟩,hwts i d2 λ_=>c2⟩;have:fQ ds x.a8[i]=true:=by
    unfold fQ;simp[c1,h0,hd]
   rw[this] at c2;cases c2
 .have hi':i<x.S.S.a8.length:=by
   have:=g.len;have hi:i<(lh x.S ds).S.a8.length:=hi;omega
  show (ce (lh x.S ds) i).Val.Weak=(Cu (tM x.a8 ds) (1+(i:Int)+32*(ce (lh x.S ds) i).Gen):Int)/\((ce (lh x.S ds) i).State=2->_);have hti':Th (ce (lh x.S ds) i):=hti;show _/\((ce (lh x.S ds) i).State=2->1<=(ce (lh x.S ds) i).Val.Weak/\(ce (lh x.S ds) i).Val.Fields = []/\(ce (lh x.S ds) i).Val.Strong=0);rw[PG];rw[g.ce] at hti' |-;split
  .rename_i q;rw[zb q] at hti';obtain⟨d,hd,rfl⟩:=zI.1 q;have hp:=A0 hR (hm d hd);have hw:=(hx.wk _ hi' (.inl hp.2.1)).1;unfold JH at hti' |-;split at hti'
   .exfalso;unfold Th at hti';split at hti' <;> simp at hti'
   .rename_i q2;rw[za q2];have:=(hR.ok _ hi' (.inl hp.2.1)).wk;exact⟨hw,λ_=>⟨by dsimp only;omega,rfl,rfl⟩⟩
  .rename_i q;rw[za q] at hti';exact hx.wk i hi' hti'
 .obtain⟨a,b⟩:=(hlv h).1 hh;have e:=g.ob h a b;have e':ob (il x ds t).S h=ob x.S h:=e;rw[e'] at hlt |-;have hf:=hx.fair h a hlt;rw[R6] at hf;rw[hf];have i1:=g.jo hR hn hm h;have i2:=h2 h;have i3:xS ⟨x.Q.L++pq x.a8 ds,x.Q.Cap⟩=xS x.Q:=wa _ _ _ λt ht=>by
   obtain⟨w,_,rfl,_⟩:=fT.1 ht;simp
  unfold pe pf il;dsimp only;rw[i3,L0 (ds.flatMap (outs x.S)),L0];omega
theorem xa:∀(l:List Int) {x:Hp},mH x->Wk x->cg x l->O4 (l.foldl R9 x)
 | [],x,h1,h2,h3=>⟨h1,h2,h3⟩
 | v::l,x,h1,h2,h3=>xa l (h1.st v λc=>P3) (h2.st h1.sr v λc=>P3) (rU h1.sr h3)
abbrev dO(o:p7):p7:=⟨o.Serial,o.Strong,o.Weak,o.Prog,true,o.Fields⟩
abbrev tZ(x:Hp)(h:Int):o0:=⟨1,h,(ob x.S h).Prog⟩
noncomputable def gO(x:Hp)(h:Int):Hp:=C6 ⟨cK x.S h (dO (ob x.S h)),x.Roots,x.a8,x.T,⟨x.Q.L ++ [tZ x h],x.Q.Cap⟩⟩ h
theorem tp{x:Hp}(hx:O4 x){h:Int}(hh:h∈lv x.S)(hp:0<=(ob x.S h).Prog)(hs:(ob x.S h).Started=false):O4 (gO x h):=by
 have hS:=hx.sh;have hR:=hS.sr;have oko:=J5 hR hh;have ho:xJ x.S (dO (ob x.S h)):=⟨oko.s1,oko.s2,oko.st,oko.wk,oko.p1,oko.p2,oko.fl⟩;have r1:=bu (o:=dO (ob x.S h)) hR hh rfl ho;have l1:=fD (o:=dO (ob x.S h)) hR hh rfl ho;have o1:∀j,j∈lv x.S->ob (cK x.S h (dO (ob x.S h))) j=if j=h then dO (ob x.S h) else ob x.S j:=λj hj=>by
  have:=I3 hR hj;exact eh (o:=dO (ob x.S h)) hR hh rfl ho (by omega)
 have hlen:(lv x.S).length<=24:=M6 (y5.2 hR);have s1:mH (wS x (cK x.S h (dO (ob x.S h)))):=hS.of r1 l1 (λk i q=>(FP (o:=dO (ob x.S h)) hR hh rfl ho).2 q) (λk hk q=>by
  rw[o1 k hk];split;·rfl
  .exact q) λk hk v hv=>by
  rw[o1 k hk] at hv;split at hv;·rename_i e;subst e;exact hS.fl k hk v hv
  .exact hS.fl k hk v hv
 have w1:Wk (wS x (cK x.S h (dO (ob x.S h)))):=λi hi ht=>by
  have S9:=A0 hR hh;have hc:=BU (o:=dO (ob x.S h)) hR hh rfl ho i;dsimp only at hi ht |-;rw[hc] at ht |-;have hi':i<x.S.S.a8.length:=by unfold cK at hi;rwa [N8] at hi
  split at ht
  .rename_i e;subst e;rw[zb rfl];dsimp only;have:=hx.wk _ hi' (.inl S9.2.1);rw[Q2 hR S9];exact⟨this.1,λq=>absurd q (by rw[S9.2.1];decide)⟩
  .rename_i e;rw[za e];exact hx.wk i hi' ht
 have htd:(x.Q.L ++ [tZ x h]).Pairwise λa b=>¬(a.Kind=b.Kind/\a.At=b.At):=by
  rw[za3];refine⟨hS.td,by simp,λa ha b hb q=>?_⟩;rw[zG] at hb;subst hb;dsimp only at q;rcases (hS.tk a ha).2.2 with c | c
  .rw[q.2,hs] at c;exact absurd c.2.2 (by decide)
  .omega
 have htk:∀t∈x.Q.L ++ [tZ x h],0<=t.Prog/\t.Prog<=5/\((t.Kind=1/\t.At∈lv (cK x.S h (dO (ob x.S h)))/\(ob (cK x.S h (dO (ob x.S h))) t.At).Started=true)\/(t.Kind=2/\0<=t.At/\t.At<=5)):=λt ht=>by
  rcases zx.1 ht with q | q
  .exact s1.tk t q
  .rw[zG] at q;subst q;refine⟨hp,oko.p2,.inl ⟨rfl,by rw[l1];exact hh,?_⟩⟩;dsimp only;rw[o1 h hh,zb rfl]
 have hq30:(x.Q.L ++ [tZ x h]).length<=30:=by
  have:=xo (m:=lv x.S) htd λt ht=>by
   rcases (htk t ht).2.2 with q | q
   .exact .inl ⟨q.1,by rw[<-l1];exact q.2.1⟩
   .exact .inr q
  omega
 have s2:mH ⟨cK x.S h (dO (ob x.S h)),x.Roots,x.a8,x.T,⟨x.Q.L ++ [tZ x h],x.Q.Cap⟩⟩:=by
  refine⟨s1.sr,s1.hr,s1.r6,s1.c6,s1.cap,hq30,htk,htd,s1.rt,s1.fl,s1.pr,λi hi=>?_⟩;obtain⟨a,b,c,d,e⟩:=s1.cl i hi;refine⟨a,b,c,d,λq=>⟨(e q).1,?_⟩⟩;have:=(e q).2;rw[zba] at this |-;intro q2;obtain⟨t,ht,k1,k2⟩:=ja.1 q2;rcases zx.1 ht with q3 | q3
  .exact this (ja.2 ⟨t,q3,k1,k2⟩)
  .rw[zG] at q3;subst q3;dsimp only at k1;omega
 have w2:Wk ⟨cK x.S h (dO (ob x.S h)),x.Roots,x.a8,x.T,⟨x.Q.L ++ [tZ x h],x.Q.Cap⟩⟩:=w1;refine⟨s2.st h λc=>D8,w2.st s2.sr h λc=>D8,λk hk hlt=>?_⟩;have hk':k∈lv x.S:=by
  have:lv (gO x h).S=lv x.S:=(G2 s2.sr h λc=>D8).lv.trans l1;rw[<-this];exact hk
 have hst:(ob (gO x h).S k).Strong=if k=h then W6 (ob x.S k).Strong else (ob x.S k).Strong:=by
  have:=tI (x:=⟨cK x.S h (dO (ob x.S h)),x.Roots,x.a8,x.T,⟨x.Q.L ++ [tZ x h],x.Q.Cap⟩⟩) s2.sr h (f:=W6) (λc=>D8) (k:=k) (by rw[<-l1] at hk';exact hk');refine zcf this ?_;dsimp only;rw[o1 k hk'];by_cases e:k=h
  .subst e;rw[zb rfl,zb rfl,zb rfl]
  .rw[za e,za e,za e]
 have hnm:pe (gO x h) k=pe x k+if k=h then 1 else 0:=by
  have:=vm (x:=⟨cK x.S h (dO (ob x.S h)),x.Roots,x.a8,x.T,⟨x.Q.L ++ [tZ x h],x.Q.Cap⟩⟩) s2.sr h (f:=W6) (λc=>D8) k;refine zcf this ?_;have hi:=GV (o:=dO (ob x.S h)) hR hh rfl ho k;dsimp only at hi;have h0:k≠0:=λe=>pd hR (e▸hk');unfold pe pf xS;dsimp only;rw[zao,zad,L0,L0,L0];have:aD (List.map (·.At) (List.filter (λt:o0=>t.Kind==1) [tZ x h])) k=if k=h then 1 else 0:=by
   show aD [h] k=_;rw[G5,R6];by_cases e:k=h
   .rw[zb ⟨e.symm,h0⟩,zb e]
   .rw[za (λq=>e q.1.symm),za e]
  rw[this];omega
 rw[hst] at hlt |-;rw[hnm,R6];have hpos:=(J5 hR hk').st;by_cases e:k=h
 .rw[zb e] at hlt |-;rw[zb e];have:=hx.fair k hk' (by unfold W6 at hlt;split at hlt <;> omega);rw[R6] at this;unfold W6 at hlt |-;split at hlt;·omega
  .rename_i q;rw[za q,za (by omega)];omega
 .rw[za e] at hlt |-;rw[za e];have:=hx.fair k hk' hlt;rw[R6] at this;exact this
noncomputable def zr(x:Hp):List Int:=(lv x.S).filter λh=>(ob x.S h).Strong==0
theorem cd{x:Hp}{h:Int}:h∈zr x↔h∈lv x.S/\(ob x.S h).Strong=0:=by
 unfold zr;rw[zy,wl]
theorem Cr{x:Hp}(hx:O4 x){z:Int}(hz:z∈zr x):pe x z=0:=by
 obtain⟨a,b⟩:=cd.1 hz;have:=hx.fair z a (by omega);rw[R6] at this;omega
theorem Ea{l:List Int}{h:Int}(h0:h≠0)(e:aD l h=0):h∉l:=λq=>by
 have:=dD.2 ⟨h0,q⟩;omega
theorem Lu{α:Type}(f:α->Nat):∀ {l:List α} {a:α},a∈l->f a<=(l.map f).sum
 | b::l,a,h=>by
  rw[ul,zb4];rcases zJ.1 h with e | e
  .subst e;omega
  .have:=Lu f e;omega
theorem Bf{s:a7}{a y:Int}(ha:a∈lv s):aD (outs s a) y<=jo s y:=Lu (λx=>aD (outs s x) y) ha
theorem Bw{t:Tb}{k v:Int}(h:Has t k v)(h0:v≠0):0<own t v:=zbn.2 ⟨⟨k,v⟩,iR.2 h,by simp[h0]⟩
def mi(t:Tb)(ks:List Int):Tb × List Int:=(Z8 t ks).getD (t,[])
theorem ig{t:Tb}(hT:HR t)(ks:List Int)(hks:ks.length<=1000):Z8 t ks=some (mi t ks)/\HR (mi t ks).1/\(mi t ks).2.length<=ks.length/\iV (t.map S9) ks=some ((mi t ks).1.map S9,(mi t ks).2) /\
  (∀k v,Has (mi t ks).1 k v↔k∉ks/\Has t k v)/\∀y,own (mi t ks).1 y+aD (mi t ks).2 y=own t y:=by
 obtain⟨a,had,h1,h2,h3,h4,h5,h6,h7,h8,h9⟩:=Ej hT ks hks;have:mi t ks=(a,had):=by unfold mi;rw[h1];rfl
 rw[this];exact⟨h1,h2,h4,h5,h6,h9⟩
noncomputable def gb(x:Hp)(ds:List Int):Hp:=(ds.flatMap (outs x.S)++(mi x.T ds).2).foldl R9 (il x ds (mi x.T ds).1)
theorem gV:∀(l:List Int) {x:Hp},SR x.S->ur x.S (l.foldl R9 x).S/\l.foldl R9 x=wS x (l.foldl R9 x).S
 | [],x,h=>⟨ur.refl h,rfl⟩
 | v::l,x,h=>by
  have k1:=G2 h v (f:=jC) λc=>P3;obtain⟨k2,e⟩:=gV l (x:=R9 x v) k1.sr;refine⟨k1.trans k2,?_⟩;show l.foldl R9 (R9 x v)=wS x (l.foldl R9 (R9 x v)).S;rw[e,UF x v]
theorem yr{x:Hp}(hx:O4 x){ds:List Int}(hn:ds.Nodup)(hm:∀d∈ds,d∈lv x.S)
  (ho:∀d∈ds,d∉pf x)(hf:∀h∈lv x.S,h∉ds->∀v∈(ob x.S h).Fields,v∉ds)(hp:∀k v,Has x.T k v->k∉ds->v∉ds):O4 (gb x ds):=by
 have hl:ds.length<=24:=t6 (gL hn hm) (M6 (y5.2 hx.sh.sr));obtain⟨_,w1,_,_,w2,w3⟩:=ig hx.sh.hr ds (by omega);obtain⟨a,b,c⟩:=Iw hx hn hm ho hf hp w1 w2 w3;exact xa _ a b c
theorem Ez{x:Hp}(hR:SR x.S){ds:List Int}(hn:ds.Nodup)(hm:∀d∈ds,d∈lv x.S):lv (gb x ds).S=(lv x.S).filter λh=>decide (h∉ds):=by
 have g:=da ds hR hn hm;exact (gV (ds.flatMap (outs x.S)++(mi x.T ds).2) (x:=il x ds (mi x.T ds).1) g.sr).1.lv.trans g.lv
theorem EA{x:Hp}(hR:SR x.S){ds:List Int}(hn:ds.Nodup)(hm:∀d∈ds,d∈lv x.S){k:Int}(hk:k∈lv x.S)(hd:k∉ds):∃n,ob (gb x ds).S k=Ae (ob x.S k) n:=by
 have g:=da ds hR hn hm;have hr:=I3 hR hk;obtain⟨n,e⟩:=(gV (ds.flatMap (outs x.S)++(mi x.T ds).2) (x:=il x ds (mi x.T ds).1) g.sr).1.ob k (by omega);refine⟨n,?_⟩;have e':ob (gb x ds).S k=_:=e;have g':ob (il x ds (mi x.T ds).1).S k=ob x.S k:=g.ob k hk hd;rw[e',g']
theorem qG{x:Hp}(hR:SR x.S){ds:List Int}(hn:ds.Nodup)(hm:∀d∈ds,d∈lv x.S):(gb x ds).Roots=x.Roots/\(gb x ds).a8=tM x.a8 ds/\(gb x ds).T=(mi x.T ds).1/\(gb x ds).Q=⟨x.Q.L++pq x.a8 ds,x.Q.Cap⟩:=by
 have g:=da ds hR hn hm;have e:=(gV (ds.flatMap (outs x.S)++(mi x.T ds).2) (x:=il x ds (mi x.T ds).1) g.sr).2;have e':gb x ds=wS (il x ds (mi x.T ds).1) (gb x ds).S:=e;rw[e'];exact⟨rfl,rfl,rfl,rfl⟩
theorem xE{x:Hp}(hx:O4 x){z:Int}(hz:z∈zr x):O4 (gb x [z]):=by
 obtain⟨a,b⟩:=cd.1 hz;have h0:z≠0:=λe=>pd hx.sh.sr (e▸a);have hn:=Cr hx hz;unfold pe at hn;refine yr hx (by simp) (by simpa using a) (λd hd=>?_) (λh hh hne v hv q=>?_) (λk v hkv _ q=>?_)
 .rw[zG] at hd;subst hd;exact Ea h0 (by omega)
 .rw[zG] at q;subst q;have:=Bf (y:=v) hh;have h1:=dD.2 ⟨h0,show v∈outs x.S h from lC.2 ⟨hv,h0⟩⟩;omega
 .rw[zG] at q;subst q;have:=Bw hkv h0;omega
def due(o:p7):Bool:=decide (0<=o.Prog) && !o.Started
noncomputable def HZ(x:Hp):Hp:=match zr x with
 | []=>x
 | z::_=>if due (ob x.S z) then gO x z else gb x [z]
noncomputable def uF:Nat->Hp->Hp
 | 0,x=>x
 | n+1,x=>uF n (HZ x)
theorem dB(n:Nat)(x:Hp):uF (n+1) x=HZ (uF n x):=by
 induction n generalizing x with
 | zero=>rfl
 | succ n ih=>exact ih (HZ x)
theorem oV{x:Hp}(h:zr x = []):HZ x=x:=by unfold HZ;rw[h]
theorem hU{x:Hp}{z:Int}{l:List Int}(h:zr x=z::l):HZ x=if due (ob x.S z) then gO x z else gb x [z]:=by unfold HZ;rw[h]
theorem Jy{x:Hp}(hx:O4 x):O4 (HZ x):=by
 cases h:zr x with
 | nil=>rw[oV h];exact hx
 | cons z l=>
  have hz:z∈zr x:=by rw[h];exact zi ..
  rw[hU h];split
  .rename_i q;unfold due at q;rw[zl,zH,zbk] at q;exact tp hx (cd.1 hz).1 q.1 q.2
  .exact xE hx hz
theorem bj{x:Hp}(hx:O4 x)(n:Nat):O4 (uF n x):=by
 induction n with
 | zero=>exact hx
 | succ n ih=>rw[dB];exact Jy ih
section
variable{x:Hp}(hR:SR x.S){h:Int}(hh:h∈lv x.S)
include hR hh
theorem lH:ur (cK x.S h (dO (ob x.S h))) (gO x h).S/\(gO x h).Roots=x.Roots/\(gO x h).a8=x.a8/\(gO x h).T=x.T/\(gO x h).Q=⟨x.Q.L ++ [tZ x h],x.Q.Cap⟩:=by
 have oko:=J5 hR hh;have r1:=bu (o:=dO (ob x.S h)) hR hh rfl ⟨oko.s1,oko.s2,oko.st,oko.wk,oko.p1,oko.p2,oko.fl⟩;refine⟨G2 (x:=⟨cK x.S h (dO (ob x.S h)),x.Roots,x.a8,x.T,⟨x.Q.L ++ [tZ x h],x.Q.Cap⟩⟩) r1 h λc=>D8,?_⟩;have e:gO x h=wS ⟨cK x.S h (dO (ob x.S h)),x.Roots,x.a8,x.T,⟨x.Q.L ++ [tZ x h],x.Q.Cap⟩⟩ (gO x h).S:=tC _ h;rw[e];exact⟨rfl,rfl,rfl,rfl⟩
theorem Bz:lv (gO x h).S=lv x.S:=by
 have oko:=J5 hR hh;exact (lH hR hh).1.lv.trans (fD (o:=dO (ob x.S h)) hR hh rfl ⟨oko.s1,oko.s2,oko.st,oko.wk,oko.p1,oko.p2,oko.fl⟩)
theorem wO{k:Int}(hk:k∈lv x.S):∃n,ob (gO x h).S k=Ae (if k=h then dO (ob x.S h) else ob x.S k) n:=by
 have oko:=J5 hR hh;have hr:=I3 hR hk;obtain⟨n,e⟩:=(lH hR hh).1.ob k (by omega);refine⟨n,?_⟩;rw[e,eh (o:=dO (ob x.S h)) hR hh rfl ⟨oko.s1,oko.s2,oko.st,oko.wk,oko.p1,oko.p2,oko.fl⟩ (by omega)]
end
noncomputable def mu(x:Hp):Nat:=(lv x.S).length+((lv x.S).filter λh => !(ob x.S h).Started).length
theorem Wp{x:Hp}(hR:SR x.S):mu x<=48:=by
 have h1:(lv x.S).length<=24:=M6 (y5.2 hR);have h2:((lv x.S).filter λh => !(ob x.S h).Started).length<=(lv x.S).length:=wd ..;unfold mu;omega
theorem UU{x:Hp}(hx:O4 x)(h:zr x ≠ []):mu (HZ x)<mu x:=by
 cases hz:zr x with
 | nil=>exact absurd hz h
 | cons z l=>
  have hzm:z∈zr x:=by rw[hz];exact zi ..
  have hzl:=(cd.1 hzm).1;have hR:=hx.sh.sr;rw[hU hz];split
  .rename_i q;unfold due at q;rw[zl,zH,zbk] at q;unfold mu;rw[Bz hR hzl];have:=filter_lt (p:=λh => !(ob (gO x z).S h).Started) (q:=λh => !(ob x.S h).Started) (l:=lv x.S) (λk hk hp=>by
    obtain⟨n,e⟩:=wO hR hzl hk;rw[e] at hp;split at hp;·exact absurd hp (by simp)
    .exact hp) z hzl (by rw[q.2];rfl) (by
    obtain⟨n,e⟩:=wO hR hzl hzl;rw[e,zb rfl];rfl)
   omega
  .unfold mu;have hn:([z]:List Int).Nodup:=by simp
   have hm:∀d ∈ [z],d∈lv x.S:=by simpa using hzl
   rw[Ez hR hn hm,List.filter_filter];have h1:((lv x.S).filter λh=>decide (h ∉ [z])).length<((lv x.S).filter λ_=>true).length:=filter_lt (λ_ _ _=>rfl) z hzl rfl (by simp);rw[zbb.2 (λ_ _=>rfl)] at h1;have h2:((lv x.S).filter λa=>(!(ob (gb x [z]).S a).Started)&&decide (a ∉ [z])).length<=((lv x.S).filter λh => !(ob x.S h).Started).length:=by
    rw[<-zbm,<-zbm];refine List.countP_mono_left λa ha hp=>?_;rw[zl,zH] at hp;obtain⟨n,e⟩:=EA hR hn hm ha hp.2;rw[e] at hp;exact hp.1
   omega
noncomputable def dx(x:Hp):Hp:=uF 100 x
theorem tF{x:Hp}(hx:O4 x):∃n,n<=48/\zr (uF n x) = []/\(∀j,j<n->zr (uF j x) ≠ [])/\dx x=uF n x:=by
 have key:∀m,(∃n,n<=m/\zr (uF n x) = [])\/mu (uF m x)+m<=mu x:=by
  intro m;induction m with
  | zero=>exact .inr (zt _)
  | succ m ih=>
   rcases ih with ⟨n,h1,h2⟩ | ih;·exact .inl ⟨n,by omega,h2⟩
   .by_cases q:zr (uF m x) = []
    .exact .inl ⟨m,by omega,q⟩
    .have:=UU (bj hx m) q;rw[<-dB] at this;exact .inr (by omega)
 have h48:=Wp hx.sh.sr;have hex:∃n,n<=48/\zr (uF n x) = []:=by
  rcases key 49 with ⟨n,h1,h2⟩ | h
  .rcases zB n 49 with q | q
   .exact⟨n,by omega,h2⟩
   .rcases key 48 with h | h
    .exact h
    .have:mu (uF 48 x)=0:=by omega
     refine⟨48,zt _,?_⟩;have hl:(lv (uF 48 x).S).length=0:=by unfold mu at this;omega
     unfold zr;rw[zF hl];rfl
  .omega
 obtain⟨n,⟨hn,hz⟩,hmin⟩:=bR hex;refine⟨n,hn,hz,λj hj q=>?_,?_⟩
 .have:=hmin j ⟨by omega,q⟩;omega
 .have:∀k,uF (n+k) x=uF n x:=λk=>by
   induction k with
   | zero=>rfl
   | succ k ih=>rw[show n+(k+1)=(n+k)+1 by omega,dB,ih,oV hz]
  have h100:=this (100-n);rw[show n+(100-n)=100 by omega] at h100;exact h100
theorem en{x:Hp}(hx:O4 x):O4 (dx x):=bj hx 100
theorem Ab{x:Hp}(hx:O4 x):zr (dx x) = []:=by
 obtain⟨n,_,h,_,e⟩:=tF hx;rw[e];exact h
theorem DP{x:Hp}(h:zr x = []):dx x=x:=by
 have:∀n,uF n x=x:=λn=>by
  induction n with
  | zero=>rfl
  | succ n ih=>rw[dB,ih,oV h]
 exact this 100
section
variable{x:Hp}(hR:SR x.S)
include hR
theorem gJ{h:Int}(hh:h∈lv x.S):h<=9223372036854775807:=by have:=I3 hR hh;omega
theorem sT{h:Int}(hh:h∈lv x.S):y4 x.S h=some (ob x.S h,0):=by
 obtain⟨e,h1,h2⟩:=aH (y5.2 hR) (gJ hR hh);rw[h1,h2.2 hh]
theorem qX{h:Int}(hh:h∈lv x.S):M1 (sO x.S) h=some (oo (ob x.S h),0):=by
 have:=hR.len;rw[qW x.S (by omega) (gJ hR hh),sT hR hh];rfl
theorem zero_eq:cH x=some (zr x):=by
 have h24:(lv x.S).length<=24:=M6 (y5.2 hR);unfold cH;simp only[jn];rw[de (y5.2 hR),Ys];rw[O6 (lv x.S) (λb h=>if (ob x.S h).Strong==0 then b ++ [h] else b) id (λk b=>b.length<=k) (by omega) (zt _) (λk hk b hb=>?_) (λb hb=>by simp)]
 .rw[foldl_filter];rfl
 .simp only[zQ,hk,zV,zT,u7 hk,Ys,sT hR (zk hk)];by_cases c:((ob x.S (lv x.S)[k]).Strong==0)=true
  .rw[zb c,zb c,C3 (by omega) (by simp;omega),Ys,p8];exact⟨rfl,by simp;omega⟩
  .rw[za c,za c,p8];exact⟨rfl,by omega⟩
theorem NF:rL (hO x)=some (zr x):=by
 have h24:(lv x.S).length<=24:=M6 (y5.2 hR);unfold rL;simp only[jn];rw[show (hO x).S=sO x.S from rfl,TG (y5.2 hR),Ys];rw[O6 (lv x.S) (λb h=>if (ob x.S h).Strong==0 then b ++ [h] else b) id (λk b=>b.length<=k) (by omega) (zt _) (λk hk b hb=>?_) (λb hb=>by simp)]
 .rw[foldl_filter];rfl
 .simp only[zQ,hk,zV,zT,u7 hk,Ys,qX hR (zk hk)];by_cases c:((ob x.S (lv x.S)[k]).Strong==0)=true
  .rw[show ((oo (ob x.S (lv x.S)[k])).Strong==0)=true from c,zb rfl,zb c,C3 (by omega) (by simp;omega),Ys,p8];exact⟨rfl,by simp;omega⟩
  .rw[za (show ¬((oo (ob x.S (lv x.S)[k])).Strong==0)=true from c),za c,p8];exact⟨rfl,by omega⟩
end
noncomputable def Ux(x:Hp)(h:Int):Hp:=if h∈lv x.S/\due (ob x.S h)=true then gO x h else x
theorem BZ{s:a7}(hR:SR s){h:Int}(hl:h∈lv s):xJ s (dO (ob s h)):=by
 have oko:=J5 hR hl;exact⟨oko.s1,oko.s2,oko.st,oko.wk,oko.p1,oko.p2,oko.fl⟩
theorem Hs(o:p7):M8 o=some (due o):=by
 unfold M8 due;congr 1
section
variable{x:Hp}(hx:O4 x)(hS:SL x){h:Int}(hh:h<=9223372036854775807)
include hx hS hh
theorem wP(hl:h∈lv x.S)(hd:due (ob x.S h)=true):x.Q.L.length<30:=by
 have hb:0<=(ob x.S h).Prog/\(ob x.S h).Started=false:=by
  unfold due at hd;rw[zl,zH,zbk] at hd;exact hd
 have:=(tp hx hl hb.1 hb.2).sh.q30;rw[(lH hx.sh.sr hl).2.2.2.2] at this;simp at this;omega
theorem yV:U8 x h=some (Ux x h):=by
 have hR:=hx.sh.sr;have cap:=hx.sh.cap;obtain⟨e,h1,h2⟩:=aH (y5.2 hR) hh;unfold U8 Ux;rw[h1,Ys];by_cases hl:h∈lv x.S
 .have e0:e=0:=h2.2 hl;subst e0;have e1:(((0:Int) != 0)==false)=true:=rfl;simp only[e1,jQ,Hs,Ys];cases hd:due (ob x.S h);·rw[zb (by simp),za (by simp)]
  .rw[za (by simp),zb ⟨hl,rfl⟩];have hr:=wP hx hS hh hl hd;have hok:=BZ hR hl;have l1:=fD (o:=dO (ob x.S h)) hR hl rfl hok;have r1:=bu (o:=dO (ob x.S h)) hR hl rfl hok;rw[rY (o:=dO (ob x.S h)) hR hl rfl hok,Ys,RU _ (by omega),Ys];have et:Ng x.Q ⟨1,h,(ob x.S h).Prog⟩=(⟨x.Q.L ++ [tZ x h],x.Q.Cap⟩,0):=by
    unfold Ng;rw[za (by omega)]
   rw[et];dsimp only;rw[kc r1 hh (λk hk=>?_),Ys];·rfl
   .dsimp only at hk |-;rw[l1] at hk;rw[eh (o:=dO (ob x.S h)) hR hl rfl hok (gJ hR hk)];split;·exact hS h hl
    .exact hS k hk
 .have e0:e≠0:=λq=>hl (h2.1 q);have e1:(e != 0)=true:=by simpa using e0
  rw[e1];simp only[show ((true==false)=true)=False by simp,z1,zZ,Ys,Bool.true_or,zT];rw[za (λq=>hl q.1)]
theorem Rq:rK (hO x) h=some (decide (h∈lv x.S)&&due (ob x.S h)):=by
 have hR:=hx.sh.sr;have hlen:=hR.len;obtain⟨e,h1,h2⟩:=aH (y5.2 hR) hh;unfold rK;rw[show (hO x).S=sO x.S from rfl,qW x.S (by omega) hh,h1,we,Ys,uY hR hh,Ys];unfold due oo;rw[Bool.and_assoc]
theorem My:lM (hO x) h=some (hO (Ux x h)):=by
 have hR:=hx.sh.sr;have cap:=hx.sh.cap;unfold lM Ux;rw[Rq hx hS hh,Ys];by_cases hl:h∈lv x.S
 .rw[zA hl,zal];cases hd:due (ob x.S h);·rw[zb (by simp),za (by simp)]
  .rw[za (by simp),zb ⟨hl,rfl⟩];have hr:=wP hx hS hh hl hd;have hok:=BZ hR hl;have l1:=fD (o:=dO (ob x.S h)) hR hl rfl hok;have r1:=bu (o:=dO (ob x.S h)) hR hl rfl hok;rw[show (hO x).S=sO x.S from rfl,qX hR hl,Ys];have es:P5 (sO x.S) h (oo (dO (ob x.S h)))=some (sO (cK x.S h (dO (ob x.S h))),0):=rZ hR hl rfl hok;have es':P5 (sO x.S) h ⟨(oo (ob x.S h)).Serial,(oo (ob x.S h)).Strong,(oo (ob x.S h)).Weak,(oo (ob x.S h)).Prog,true,(oo (ob x.S h)).Fields⟩=some (sO (cK x.S h (dO (ob x.S h))),0):=es;rw[es',Ys];have ea:lK (hO x).Q ⟨1,h,(oo (ob x.S h)).Prog⟩=some (Ci ⟨x.Q.L ++ [tZ x h],x.Q.Cap⟩,0):=by
    have:=RO (q:=x.Q) (tZ x h) (by omega);have et:Ng x.Q (tZ x h)=(⟨x.Q.L ++ [tZ x h],x.Q.Cap⟩,0):=by
     unfold Ng;rw[za (by omega)]
    rw[et] at this;exact this
   rw[ea,Ys];have er:=rR (x:=⟨cK x.S h (dO (ob x.S h)),x.Roots,x.a8,x.T,⟨x.Q.L ++ [tZ x h],x.Q.Cap⟩⟩) r1 hh (λk hk=>by
    dsimp only at hk |-;rw[l1] at hk;rw[eh (o:=dO (ob x.S h)) hR hl rfl hok (gJ hR hk)];split;·exact hS h hl
    .exact hS k hk)
   have er':ca ⟨sO (cK x.S h (dO (ob x.S h))),(hO x).Roots,(hO x).a8,(hO x).T,Ci ⟨x.Q.L ++ [tZ x h],x.Q.Cap⟩⟩ h=_:=er;dsimp only;rw[er',Ys];rfl
 .rw[zK hl,zb1];rw[zb (by simp),za (λq=>hl q.1)]
end
noncomputable def Wg(x:Hp)(l:List Int):List Int:=l.foldl (λb h=>if h∈lv x.S/\h∉b then b ++ [h] else b) []
theorem De{x:Hp}{z:Int}(hz:z∈lv x.S):Wg x [z] = [z]:=by
 unfold Wg;simp[hz]
section
variable{x:Hp}(hR:SR x.S)
include hR
theorem rn(l:List Int)(hl:l.length<=1000)(hb:∀h∈l,h<=9223372036854775807):X4 x l=some (Wg x l):=by
 unfold X4;simp only[jn];have key:=O6 (f:=λ((s20,s21,s22):Int × (List (Int × Bool)) × (List Int))=>
   if (decide (s20<(l.length:Int))) then
     (ix l s20).bind λv32=>
     (y4 x.S v32).bind λv33=>
     if ((v33.2==0)==true) then
      if (!((z6 s21 v32).getD (false:Bool))) then
       (app 8 s22 [v32]).bind λv34=>
       some (Sum.inl (z8 (s20+1),(o5 s21 v32 true),v34))
      else
      some (.inl (z8 (s20+1),s21,s22))
     else
     some (.inl (z8 (s20+1),s21,s22))
   else
   some (.inr s22)) l (λ(b:List (Int × Bool) × List Int) h=>if h∈lv x.S/\h∉b.2 then (o5 b.1 h true,b.2 ++ [h]) else b) (λb=>b.2) (λk b=>b.2.length<=k/\∀d,(z6 b.1 d).getD false=decide (d∈b.2)) (b0:=([],[])) (by omega) ⟨zt _,λd=>by simp[z6]⟩ (λk hk b hb2=>?_) (λb hb2=>by simp)
 .rw[key,Ys];congr 1;have:∀(l:List Int) (m:List (Int × Bool)) (b:List Int),(l.foldl (λ(b:List (Int × Bool) × List Int) h=>if h∈lv x.S/\h∉b.2 then (o5 b.1 h true,b.2 ++ [h]) else b) (m,b)).2=l.foldl (λb h=>if h∈lv x.S/\h∉b then b ++ [h] else b) b:=λl=>by
   induction l with
   | nil=>intro m b;rfl
   | cons h l ih=>
    intro m b;rw[zaq,zaq];by_cases c:h∈lv x.S/\h∉b
    .rw[zb c,zb c,ih]
    .rw[za c,za c,ih]
  exact this l [] []
 .obtain⟨hb1,hb3⟩:=hb2;obtain⟨e,h1,h2⟩:=aH (y5.2 hR) (hb _ (zk hk));simp only[zQ,hk,zV,zT,u7 hk,Ys,h1,hb3];by_cases hl:l[k]∈lv x.S
  .have e0:e=0:=h2.2 hl;subst e0;by_cases hm:l[k]∈b.2
   .rw[zb (by rfl),za (by simp[hm]),za (λq=>q.2 hm),p8];exact⟨rfl,by omega,hb3⟩
   .rw[zb (by rfl),zb (by simp[hm]),zb ⟨hl,hm⟩,C3 (by omega) (by simp;omega),Ys,p8];refine⟨rfl,by simp;omega,λd=>?_⟩;rw[oD];by_cases q:d=l[k]
    .rw[zb q];simp[q]
    .rw[za q,hb3];simp[q]
  .have e0:e≠0:=λq=>hl (h2.1 q);rw[za (by simp[e0]),za (λq=>hl q.1),p8];exact⟨rfl,by omega,hb3⟩
theorem SZ(l:List Int)(hl:l.length<=1000)(hb:∀h∈l,h<=9223372036854775807):rM (hO x) l=some (Wg x l):=by
 unfold rM;simp only[jn];rw[O6 l (λb h=>if h∈lv x.S/\h∉b then b ++ [h] else b) id (λk b=>b.length<=k) (by omega) (zt _) (λk hk b hb2=>?_) (λb hb=>by simp)];·rfl
 .simp only[zQ,hk,zV,zT,u7 hk,Ys,uY hR (hb _ (zk hk))];by_cases hl:l[k]∈lv x.S
  .have h0:l[k]≠0:=λe=>pd hR (e▸hl);rw[zA hl];simp only[ms,jQ,Lb b _ (by omega:b.length<=1000000),Ys,zal];by_cases hm:l[k]∈b
   .rw[za (by simp[hm,h0]),za (λq=>q.2 hm),p8];exact⟨rfl,by omega⟩
   .rw[zb (by simp[hm]),zb ⟨hl,hm⟩,C3 (by omega) (by simp;omega),Ys,p8];exact⟨rfl,by simp;omega⟩
  .rw[zK hl];simp only[show ((false==true)=true)=False by simp,z1,zZ,Ys,zb1];rw[za (by simp),za (λq=>hl q.1),p8];exact⟨rfl,by omega⟩
end
theorem vU{α β:Type}(p:α->Bool)(f:α->β):∀(xs:List α) (acc:List β),xs.foldl (λb x=>if p x then b ++ [f x] else b) acc=acc++(xs.filter p).map f
 | [],acc=>by simp
 | x::xs,acc=>by
  rw[zaq,vU p f xs];by_cases h:p x=true
  .simp[h]
  .simp[h]
theorem getD_at{α:Type}{l:List α}{i:Nat}(h:i<l.length)(d:α):l.getD i d=l[i]:=by
 rw[zf,zc h];rfl
theorem Iz(c:k7)(ds:List Int)(hl:ds.length<=1000):bl c ds=some (fQ ds c):=by
 unfold bl fQ;rw[contains_eq _ _ (by omega)];cases (c.Intact&&c.Target != 0);·rfl
 .simp[z1]
def mO(l:List k7)(ds:List Int):List Nat:=(List.range l.length).filter λw=>fQ ds (l.getD w cz)
theorem Um{l:List k7}{ds:List Int}{w:Nat}(h:w∈mO l ds):w<l.length:=by
 unfold mO at h;rw[zy,zca] at h;exact h.1
theorem Qj(l:List k7)(ds:List Int):(mO l ds).length<=l.length:=by
 unfold mO;exact t6 (wd ..) (by simp)
theorem Un(l:List k7)(ds:List Int):(mO l ds).Nodup:=zbu _ List.nodup_range
theorem OT(l:List k7)(ds:List Int):cls l ds=(mO l ds).filter λw=>decide (0<=(l.getD w cz).Call):=by
 unfold cls mO;rw[List.filter_filter];refine za7 λw _=>?_;rw[Bool.and_comm]
def lu(l:List Nat):List Int:=l.map λ(n:Nat)=>(n:Int)
theorem Bh{l:List Nat}{k:Nat}(h:k<l.length):ix (lu l) (k:Int)=some ((l[k]:Nat):Int):=by
 unfold lu;rw[fR,u7 h];rfl
theorem jJ(l:List Nat):(lu l).length=l.length:=ww ..
theorem Jf(l:List k7)(ds:List Int)(hl:l.length<=1000)(hd:ds.length<=1000):J8 l ds=some (lu (mO l ds)):=by
 unfold J8;simp only[jn];have hr:(List.range l.length).length=l.length:=by simp
 have key:=O6 (List.range l.length) (λ(b:List Int) (w:Nat)=>if fQ ds (l.getD w cz) then b ++ [(w:Int)] else b) id (λk b=>b.length<=k) (b0:=[]) (f:=λ((s17,s18):Int × (List Int))=>
   if (decide (s17<(l.length:Int))) then
     (ix l s17).bind λv26=>
     (bl v26 ds).bind λv27=>
     if v27 then
      (app 8 s18 [s17]).bind λv28=>
      some (Sum.inl (z8 (s17+1),v28))
     else
     some (.inl (z8 (s17+1),s18))
   else
   some (.inr s18)) (by omega) (zt _) (λk hk b hb=>?_) (λb hb=>by simp)
 .rw[key,vU];rfl
 .rw[hr] at hk;simp only[zQ,hk,zV,zT,u7 hk,Ys,Iz _ _ hd,List.getElem_range,getD_at hk];by_cases c:fQ ds l[k]=true
  .rw[zb c,zb c,C3 (by omega) (by simp;omega),Ys,p8];exact⟨rfl,by simp;omega⟩
  .rw[za c,za c,p8];exact⟨rfl,by omega⟩
theorem IC(l:List k7)(hl:l.length<=1000):aU l=some l:=by
 unfold aU;rw[jN (by omega) (by omega),Ys];unfold ux;rw[zb (by simp),Ys];simp
def qI(l:List k7)(K:List Nat):List k7:=(List.range l.length).map λi=>if i∈K then ⟨(l.getD i cz).Target,false,(l.getD i cz).Call⟩ else l.getD i cz
theorem jz(l:List k7)(K:List Nat):(qI l K).length=l.length:=by simp[qI]
theorem qJ{l:List k7}{K:List Nat}{i:Nat}(h:i<(qI l K).length):(qI l K)[i]=if i∈K then ⟨(l.getD i cz).Target,false,(l.getD i cz).Call⟩ else l.getD i cz:=by simp[qI]
theorem Kq(l:List k7):qI l []=l:=by
 refine zbi (jz ..) λi h1 h2=>?_;rw[qJ,za (by simp),getD_at h2]
theorem IB{l:List k7}{K:List Nat}{w:Nat}(hw:w<l.length):qI l (K ++ [w])=(qI l K).set w ⟨(l.getD w cz).Target,false,(l.getD w cz).Call⟩:=by
 refine zbi (by rw[zak,jz,jz]) λi h1 h2=>?_;rw[qJ,zb0];by_cases e:w=i
 .subst e;rw[zb rfl,zb (by simp)]
 .rw[za e,qJ];by_cases q:i∈K
  .rw[zb (m7 _ q),zb q]
  .rw[za,za q];rw[zx,zG];exact λq2=>q2.elim q λq3=>e q3.symm
theorem Kp(l:List k7)(ds:List Int):qI l (mO l ds)=tM l ds:=by
 refine zbi (by rw[jz];simp[tM]) λi h1 h2=>?_;have hi:i<l.length:=by rw[jz] at h1;exact h1
 have ec:(tM l ds)[i]=mW ds l[i]:=t7 _;rw[qJ,ec,getD_at hi];unfold mW;by_cases c:fQ ds l[i]=true
 .rw[zb c,zb];unfold mO;rw[zy,zca,getD_at hi];exact⟨hi,c⟩
 .rw[za c,za];unfold mO;rw[zy,zca,getD_at hi];exact λq=>c q.2
theorem T0{α:Type}{l:List α}{k:Nat}(h:k<l.length):l.take (k+1)=l.take k ++ [l[k]]:=zu h
theorem Ko(l:List k7)(ds:List Int)(hl:l.length<=1000)(hd:ds.length<=1000):ic l ds=some (tM l ds,lu (cls l ds)):=by
 unfold ic;rw[Jf l ds hl hd,Ys,IC l hl,Ys];simp only[jn,jJ];have hp:=Qj l ds;refine Y3 (mO l ds).length (λk (b:List k7 × List Int)=>b.1=qI l ((mO l ds).take k)/\b.2=lu (((mO l ds).take k).filter λw=>decide (0<=(l.getD w cz).Call))) (by omega) ⟨by simp[Kq],by simp[lu]⟩ ?_ ?_
 .rintro k ⟨b1,b2⟩ hk ⟨rfl,rfl⟩;left;have hw:=Um (zk hk);have hnm:(mO l ds)[k]∉(mO l ds).take k:=λq=>by
   have hn:=Un l ds;rw[<-zb8 k (mO l ds),zbx] at hn;exact hn.2.2 _ q (mO l ds)[k] (by rw[zbd hk];exact zi ..) rfl
  have h1:(mO l ds)[k]<(qI l ((mO l ds).take k)).length:=by rw[jz];exact hw
  have e1:ix (qI l ((mO l ds).take k)) (((mO l ds)[k]:Nat):Int)=some (l.getD (mO l ds)[k] cz):=by rw[u7 h1,qJ,za hnm]
  have h2:(mO l ds)[k]<((qI l ((mO l ds).take k)).set (mO l ds)[k] ⟨(l.getD (mO l ds)[k] cz).Target,false,(l.getD (mO l ds)[k] cz).Call⟩).length:=by rw[zak];exact h1
  have e2:ix ((qI l ((mO l ds).take k)).set (mO l ds)[k] ⟨(l.getD (mO l ds)[k] cz).Target,false,(l.getD (mO l ds)[k] cz).Call⟩) (((mO l ds)[k]:Nat):Int)=some ⟨(l.getD (mO l ds)[k] cz).Target,false,(l.getD (mO l ds)[k] cz).Call⟩:=by rw[u7 h2,List.getElem_set_self]
  dsimp only;simp only[zQ,hk,zV,zT,Bh hk,Ys,e1,zW,e2];have hle:(lu (((mO l ds).take k).filter λw=>decide (0<=(l.getD w cz).Call))).length<=1000:=by
   rw[jJ];exact t6 (wd ..) (by simp;omega)
  rw[T0 hk,IB hw,zao];by_cases c:0<=(l.getD (mO l ds)[k] cz).Call
  .rw[zb (zA c),C3 (by omega) (by simp only[zj,zR];omega),Ys,p8];refine⟨_,rfl,rfl,?_⟩;rw[me,zb (zA c)];simp[lu]
  .rw[za (λq=>c (za9 q)),p8];refine⟨_,rfl,rfl,?_⟩;rw[me,za (λq=>c (za9 q))];simp[lu]
 .rintro⟨b1,b2⟩ ⟨rfl,rfl⟩;refine⟨_,za (by simp),?_⟩;dsimp only;rw[zU,Kp,<-OT]
theorem VY(c:k7)(ds:List Int)(hd:ds.length<=1000):((z1 ((qy c).Intact==true) 0 (jW ds (qy c).Target)).bind λv=>some ((qy c).Intact&&decide (v > 0)))=some (fQ ds c):=by
 unfold fQ qy;dsimp only;cases hI:c.Intact;·rfl
 .simp only[ms,jQ];rw[xq _ _ (by omega),Ys];congr 1;rw[zal,zal,zbl];simp only[zH,zl,bne_iff_ne];have:=dD (l:=ds) (h:=c.Target);constructor
  .intro q;exact this.1 (by omega)
  .intro q;have:=this.2 q;omega
theorem OS(l:List k7)(ds:List Int)(hl:l.length<=1000)(hd:ds.length<=1000):tv (l.map qy) ds=some ((tM l ds).map qy,lu (cls l ds)):=by
 unfold tv;simp only[jn,ww];refine Y3 l.length (λk (b:List H2 × List Int)=>b.1=((tM l ds).take k).map qy/\b.2=lu ((List.range k).filter λw=>fQ ds (l.getD w cz)&&decide (0<=(l.getD w cz).Call))) (by omega) ⟨by simp,by simp[lu]⟩ ?_ ?_
 .rintro k ⟨b1,b2⟩ hk ⟨rfl,rfl⟩;left;have hk2:k<(tM l ds).length:=by simp[tM];exact hk
  have e1:ix (l.map qy) (k:Int)=some (qy l[k]):=by rw[fR,u7 hk];rfl
  have hle:(lu ((List.range k).filter λw=>fQ ds (l.getD w cz)&&decide (0<=(l.getD w cz).Call))).length<=1000:=by
   rw[jJ];exact t6 (wd ..) (by simp;omega)
  dsimp only;simp only[zQ,hk,zV,zT,e1,Ys];obtain⟨v,hv,hv2⟩:=C4 (VY l[k] ds hd);rw[hv,Ys];have hv2:=t8 hv2;rw[hv2,T0 hk2,zad,List.range_succ,zao];have ec:(tM l ds)[k]=mW ds l[k]:=t7 _;have lc:(List.map qy (List.take k (tM l ds))).length<=1000:=by simp[tM];omega
  rw[ec];unfold mW;by_cases c:fQ ds l[k]=true
  .rw[zb c,zb c];by_cases c2:0<=l[k].Call
   .rw[zb (by simpa[qy] using c2),C3 (by omega) (by simp only[zj,zR];omega),Ys,C3 (by omega) (by simp only[zj,zR];omega),Ys,p8];refine⟨_,rfl,rfl,?_⟩;simp only[me,zch,getD_at hk,c,c2,zV,Bool.and_self,zT];simp[lu]
   .rw[za (by simpa[qy] using c2),C3 (by omega) (by simp only[zj,zR];omega),Ys,p8];refine⟨_,rfl,rfl,?_⟩;simp only[me,zch,getD_at hk,c,c2,zaz,Bool.and_false,zm,zZ,or]
  .rw[za c,za c,C3 (by omega) (by simp only[zj,zR];omega),Ys,p8];refine⟨_,rfl,rfl,?_⟩;have c:fQ ds l[k]=false:=by simpa using c
   simp only[me,zch,getD_at hk,c,zb1,zm,zZ,or]
 .rintro⟨b1,b2⟩ ⟨rfl,rfl⟩;refine⟨_,za (by simp),?_⟩;dsimp only;rw[zap (by simp[tM])];rfl
def xF(x:Hp)(ds:List Int):Hp:=⟨x.S,x.Roots,tM x.a8 ds,x.T,⟨x.Q.L++pq x.a8 ds,x.Q.Cap⟩⟩
theorem ep(l:List k7)(ds:List Int):(pq l ds).length=(cls l ds).length:=ww ..
theorem Kr{l:List k7}{ds:List Int}{w:Nat}(h:w∈cls l ds):w<l.length:=by
 unfold cls at h;rw[zy,zca] at h;exact h.1
theorem Kt{l:List k7}{ds:List Int}{k:Nat}(h:k<(pq l ds).length):(pq l ds)[k]=⟨2,(((cls l ds)[k]'(by rw[<-ep];exact h):Nat):Int),(l.getD ((cls l ds)[k]'(by rw[<-ep];exact h)) cz).Call⟩:=t7 _
theorem CF{l:List k7}{ds:List Int}{w:Nat}(h:w<l.length):ix (tM l ds) (w:Int)=some (mW ds l[w]):=by
 unfold tM;rw[fR,u7 h];rfl
section
variable{x:Hp}{ds:List Int}(hc:x.a8.length<=6)(hd:ds.length<=1000)(hq:(x.Q.L++pq x.a8 ds).length<=30)(hcap:x.Q.Cap=30)
include hc hd hq hcap
theorem yp{k:Nat}(hk:k<(pq x.a8 ds).length):Ng ⟨x.Q.L++(pq x.a8 ds).take k,x.Q.Cap⟩ (pq x.a8 ds)[k]=(⟨x.Q.L++(pq x.a8 ds).take (k+1),x.Q.Cap⟩,0):=by
 rw[zD] at hq;unfold Ng;rw[za (by dsimp only;rw[zD,n9,hcap];omega),T0 hk,pu]
theorem ED:dy x ds=some (xF x ds):=by
 unfold dy;rw[Ko _ _ (by omega) hd,Ys];dsimp only;simp only[jn,jJ];have hq2:=hq;rw[zD] at hq2;refine Y3 (cls x.a8 ds).length (λk (q:TQ)=>q=⟨x.Q.L++(pq x.a8 ds).take k,x.Q.Cap⟩) (by rw[<-ep];omega) (by simp) ?_ ?_
 .rintro k q hk rfl;left;have hw:=Kr (zk hk);have hk2:k<(pq x.a8 ds).length:=by rw[ep];exact hk
  simp only[zQ,hk,zV,zT,Bh hk,Ys,CF hw];have et:(⟨2,(((cls x.a8 ds)[k]:Nat):Int),(mW ds x.a8[(cls x.a8 ds)[k]]).Call⟩:o0)=(pq x.a8 ds)[k]:=by
   rw[Kt,(AB ds _).2.1,getD_at hw]
  rw[et,RU _ (by dsimp only;rw[zD,n9];omega),yp hc hd hq hcap hk2,Ys,p8 (by rw[<-ep] at hk;omega)];exact⟨_,rfl,rfl⟩
 .rintro q rfl;refine⟨_,za (by simp),?_⟩;rw[<-ep,zU];rfl
theorem SF{K:G3->Option o7}:((lp (S:=Int × G3) (E:=G3) (λ((s68,s69):Int × G3)=>
   if (decide (s68<((lu (cls x.a8 ds)).length:Int))) then
    (ix (lu (cls x.a8 ds)) s68).bind λv72=>
    (ix ((tM x.a8 ds).map qy) v72).bind λv73=>
    (lK s69 (⟨2,v72,v73.Call⟩:dt)).bind λv74=>
    some (.inl (z8 (s68+1),v74.1))
   else
   some (.inr s69)) (0,Ci x.Q)).bind K)=K (Ci (xF x ds).Q):=by
 have hq2:=hq;rw[zD] at hq2;have key:=fy (f:=λ((s68,s69):Int × G3)=>
   if (decide (s68<((lu (cls x.a8 ds)).length:Int))) then
    (ix (lu (cls x.a8 ds)) s68).bind λv72=>
    (ix ((tM x.a8 ds).map qy) v72).bind λv73=>
    (lK s69 (⟨2,v72,v73.Call⟩:dt)).bind λv74=>
    some (Sum.inl (z8 (s68+1),v74.1))
   else
   some (.inr s69)) (t0:=Ci x.Q) (cls x.a8 ds).length (λk (q:G3)=>q=Ci ⟨x.Q.L++(pq x.a8 ds).take k,x.Q.Cap⟩) (λq=>q=Ci (xF x ds).Q) (by rw[<-ep];omega) (by simp) ?_ ?_
 .obtain⟨e,h1,h2⟩:=key;rw[h1,Ys,h2]
 .rintro k q hk rfl;left;have hw:=Kr (zk hk);have hk2:k<(pq x.a8 ds).length:=by rw[ep];exact hk
  have ei:ix ((tM x.a8 ds).map qy) (((cls x.a8 ds)[k]:Nat):Int)=some (qy (mW ds x.a8[(cls x.a8 ds)[k]])):=by rw[fR,CF hw];rfl
  simp only[jJ,zQ,hk,zV,zT,Bh hk,Ys,ei];have et:(⟨2,(((cls x.a8 ds)[k]:Nat):Int),(qy (mW ds x.a8[(cls x.a8 ds)[k]])).Call⟩:dt)=QQ (pq x.a8 ds)[k]:=by
   rw[Kt,getD_at hw];show (⟨2,_,(mW ds x.a8[(cls x.a8 ds)[k]]).Call⟩:dt)=_;rw[(AB ds _).2.1];rfl
  rw[et,RO _ (by dsimp only;rw[zD,n9];omega),yp hc hd hq hcap hk2,Ys,p8 (by rw[<-ep] at hk;omega)];exact⟨_,rfl,rfl⟩
 .rintro q rfl;refine⟨_,za (by rw[jJ];simp),?_⟩;rw[<-ep,zU];rfl
end
theorem tE(s:a7)(i:Nat)(c d:b7):G4 (G4 s i c) i d=G4 s i d:=by
 unfold G4;dsimp only;rw[zcc]
section
variable{s:a7}(hR:SR s){d:Int}(hd:d∈lv s)
include hR hd
def k1(s:a7)(d:Int):a7:=G4 s (D2 d) ⟨1,(ce s (D2 d)).Gen,IE (ob s d)⟩
def k2(s:a7)(d:Int):a7:=G4 s (D2 d) ⟨2,(ce s (D2 d)).Gen,IE (ob s d)⟩
theorem AJ:xJ s (IE (ob s d)):=by
 have ho:=J5 hR hd;exact⟨ho.s1,ho.s2,pi _,ho.wk,ho.p1,ho.p2,sm _⟩
theorem Fe:cK s d (IE (ob s d))=k1 s d:=by
 have q:=A0 hR hd;unfold cK putAt k1 G4;rw[q.2.1]
theorem Rx:At (k1 s d) d (D2 d):=by
 have q:=A0 hR hd;refine⟨by unfold k1;rw[Z6];exact q.1,?_,?_⟩;·unfold k1;rw[L3 q.1,zb rfl]
 .unfold k1;rw[L3 q.1,zb rfl];exact q.2.2
theorem Ry:SR (k1 s d):=by rw[<-Fe hR hd];exact bu (o:=IE (ob s d)) hR hd rfl (AJ hR hd)
theorem RB:SR (k2 s d):=by
 have q:=A0 hR hd;have hc:=hR.cell _ q.1;unfold k2;refine hR.G4 q.1 ⟨by simp,by simp,hc.2.2.1,hc.2.2.2⟩ (λq=>absurd (.inr rfl) q) (λ_=>⟨AJ hR hd,.inl q.2.1,?_⟩);show (ob s d).Serial=_;rw[Q2 hR q]
theorem Rz:Z7 (k2 s d) d (D2 d):=by
 have q:=A0 hR hd;refine⟨by unfold k2;rw[Z6];exact q.1,?_,?_⟩;·unfold k2;rw[L3 q.1,zb rfl];exact .inr rfl
 .unfold k2;rw[L3 q.1,zb rfl];exact q.2.2
theorem Pu:V4 (k1 s d).S d=some ((k2 s d).S,0):=by
 have q:=A0 hR hd;have hR1:=Ry hR hd;have q1:=Rx hR hd;have hr:=I3 hR hd;have hlen:=hR1.len;have hH:pn d:=((qh hR1).2 q1.d).2.1;have hsl:(d-1) % 32=(D2 d:Nat):=((qh hR1).2 q1.d).2.2.1;have hg:(d-1) / 32=(ce s (D2 d)).Gen:=by
  have:=q.2.2;have h24:=hR.len;have:=q.1;omega
 unfold V4 C5;rw[kR hR1 q1.d,Ys,za (by simp),CX q1.1,Ys,q1.2.1,za (by simp),Ys,za (by simp),gF (by omega),Ys,zb hH,hsl,jm (by omega),Ys,zb hH,hg,kD rfl q1.1 hlen,Ys];have e:(ce (k1 s d) (D2 d)).Val=IE (ob s d):=by unfold k1;rw[L3 q.1,zb rfl]
 rw[e];congr 2;show (G4 (k1 s d) (D2 d) _).S=(k2 s d).S;unfold k1 k2;rw[tE]
theorem Rt(hw:(ob s d).Weak=0):yD (k2 s d) (D2 d)=AW s d:=by
 have q:=A0 hR hd;have e:ce (k2 s d) (D2 d)=⟨2,(ce s (D2 d)).Gen,IE (ob s d)⟩:=by unfold k2;rw[L3 q.1,zb rfl]
 unfold yD AW JH;rw[e];rw[Q2 hR q] at hw;rw[zb hw];unfold k2;rw[tE];rfl
theorem RA(hw:(ob s d).Weak≠0):k2 s d=AW s d:=by
 have q:=A0 hR hd;unfold k2 AW JH;rw[Q2 hR q] at hw |-;rw[za hw]
end
theorem IU{x:Hp}(hR:SR x.S){d:Int}(hd:d∈lv x.S):af x d=some (wS x (AW x.S d)):=by
 unfold af;rw[sT hR hd,Ys];have e1:K7 x.S d (⟨(ob x.S d).Serial,0,(ob x.S d).Weak,(ob x.S d).Prog,(ob x.S d).Started,[]⟩:p7)=some (k1 x.S d,0):=by
  rw[<-Fe hR hd];exact rY (o:=IE (ob x.S d)) hR hd rfl (AJ hR hd)
 rw[e1,Ys,Pu hR hd,Ys];by_cases hw:(ob x.S d).Weak=0
 .rw[zb (by simpa using hw),GS (RB hR hd) (Rz hR hd),Ys,Rt hR hd hw];rfl
 .rw[za (by simpa using hw)];show some (wS x (k2 x.S d))=_;rw[RA hR hd hw]
theorem TF{s:a7}(hR:SR s){d:Int}(hd:d∈lv s):wV (sO (k1 s d)) d=some (sO (k2 s d)):=by
 have q:=A0 hR hd;have hR1:=Ry hR hd;have q1:=Rx hR hd;have hlen:=hR1.len;have hr:=I3 hR hd;have hi:=q1.1;have hi2:D2 d<(sO (k1 s d)).a8.length:=by rw[C1];exact hi
 have S9:D2 d<(pl (sO (k1 s d))).a8.length:=by rw[bX];exact hi2
 have hlen2:(sO (k1 s d)).a8.length<=24:=by rw[C1];exact hlen
 unfold wV Dz vf;rw[iT _ (by omega),Ys,sP (k1 s d) (by omega),kR hR1 q1.d,Ys,za (by simp),Dt hi2,Ys];have hst:(xY (D2 d) (sO (k1 s d)).a8[D2 d]).State=1:=by
  have:=q1.2.1;rw[E9 hi] at this;simpa[xY,sO,cO] using this
 have hgen:(xY (D2 d) (sO (k1 s d)).a8[D2 d]).Gen=(ce s (D2 d)).Gen:=by
  have:(ce (k1 s d) (D2 d)).Gen=(ce s (D2 d)).Gen:=by unfold k1;rw[L3 q.1,zb rfl]
  rw[E9 hi] at this;simpa[xY,sO,cO] using this
 rw[hst,za (by simp),Ys,za (by simp),Ys];dsimp only;rw[Dt hi2,Ys];have w3:∀c:O7,bE (pl (sO (k1 s d))) ((D2 d:Nat):Int) c=some ⟨(pl (sO (k1 s d))).a8.set (D2 d) c,(pl (sO (k1 s d))).Last⟩:=λc=>by
  unfold bE;rw[V0 (by omega) (by rw[bX];omega),Ys,u7 S9,Ys,zW]
 rw[w3,Ys,Ys,xt _ _ (by omega) (by simp[bX]),Ys,hgen];unfold k2;rw[<-tE s (D2 d) ⟨1,(ce s (D2 d)).Gen,IE (ob s d)⟩,HP];show some _=some (⟨(sO (k1 s d)).a8.set (D2 d) _,_,_⟩:y9);congr 1;congr 1;refine zbi (by simp) λk h1 h2=>?_;have hk:k<(k1 s d).S.a8.length:=by simpa[C1] using h1
 have hk2:k<(sO (k1 s d)).a8.length:=by rw[C1];exact hk
 have hk3:k<(pl (sO (k1 s d))).a8.length:=by rw[bX];exact hk2
 simp only[t7,List.getElem_range,zb0];rw[jE S9,getD_at hk2,getD_at hk3];by_cases e:k=D2 d
 .subst e;rw[zb rfl,zb rfl];have e2:(sO (k1 s d)).a8[D2 d].Val=oo (IE (ob s d)):=by
   have:(ce (k1 s d) (D2 d)).Val=IE (ob s d):=by unfold k1;rw[L3 q.1,zb rfl]
   rw[<-this,E9 hi];simp[sO,cO]
  rw[e2];rfl
 .rw[za e,za (zan e)];simp[sO,pl,xY,cO]
theorem Tq{x:Hp}(hR:SR x.S){d:Int}(hd:d∈lv x.S):nC (hO x) d=some (hO (wS x (AW x.S d))):=by
 unfold nC;rw[show (hO x).S=sO x.S from rfl,qX hR hd,Ys];have e1:P5 (sO x.S) d (⟨(oo (ob x.S d)).Serial,0,(oo (ob x.S d)).Weak,(oo (ob x.S d)).Prog,(oo (ob x.S d)).Started,[]⟩:R5)=some (sO (k1 x.S d),0):=by
  rw[<-Fe hR hd];exact rZ (o:=IE (ob x.S d)) hR hd rfl (AJ hR hd)
 rw[e1,Ys,TF hR hd,Ys];by_cases hw:(ob x.S d).Weak=0
 .rw[zb (by simpa[oo] using hw),KY (RB hR hd) (Rz hR hd),Ys,Rt hR hd hw];rfl
 .rw[za (by simpa[oo] using hw)];show some (hO (wS x (k2 x.S d)))=_;rw[RA hR hd hw]
theorem HK:∀(l:List Int) {x:Hp},SR x.S->SR (l.foldl R9 x).S
 | [],x,h=>h
 | v::l,x,h=>HK l (x:=R9 x v) (FJ h v)
theorem BN:∀(l:List Int) {x:Hp},SR x.S->SL x->SL (l.foldl R9 x)
 | [],x,_,h=>h
 | v::l,x,hR,h=>BN l (x:=R9 x v) (FJ hR v) (h.Xl hR v)
theorem Jj(l:List Int){k:Nat}(hk:k<l.length)(x:Hp):(l.take (k+1)).foldl R9 x=R9 ((l.take k).foldl R9 x) l[k]:=by
 rw[T0 hk,za1];rfl
theorem BK{y:Hp}(hR:SR y.S)(l:List Int)(hl:l.length<=1000000)(hb:∀v∈l,v<=9223372036854775807){K:Hp->Option Hp}:((lp (S:=Int × b6) (E:=b6) (λ((s35,s36):Int × b6)=>
     if (decide (s35<(l.length:Int))) then
      (ix l s35).bind λv39=>
      (C8 s36 v39).bind λv40=>
      some (.inl (z8 (s35+1),v40))
     else
     some (.inr s36)) (0,y)).bind K)=K (l.foldl R9 y):=by
 have key:=O6 l R9 id (λk z=>SR z.S) (b0:=y) (f:=λ((s35,s36):Int × b6)=>
     if (decide (s35<(l.length:Int))) then
      (ix l s35).bind λv39=>
      (C8 s36 v39).bind λv40=>
      some (Sum.inl (z8 (s35+1),v40))
     else
     some (.inr s36)) (by omega) hR (λk hk z hz=>?_) (λz hz=>by simp)
 .rw[key,Ys];rfl
 .simp only[zQ,hk,zV,zT,u7 hk,Ys,ee hz (hb _ (zk hk))];rw[p8];exact⟨rfl,FJ hz _⟩
theorem wX{y:Hp}(hR:SR y.S)(l:List Int)(hl:l.length<=1000000)(hb:∀v∈l,v<=9223372036854775807){K:o7->Option o7}:((lp (S:=Int × o7) (E:=o7) (λ((s45,s46):Int × o7)=>
      if (decide (s45<(l.length:Int))) then
       (ix l s45).bind λv49=>
       (J3 s46 v49).bind λv50=>
       some (.inl (z8 (s45+1),v50))
      else
      some (.inr s46)) (0,hO y)).bind K)=K (hO (l.foldl R9 y)):=by
 have key:=fy (f:=λ((s45,s46):Int × o7)=>
      if (decide (s45<(l.length:Int))) then
       (ix l s45).bind λv49=>
       (J3 s46 v49).bind λv50=>
       some (Sum.inl (z8 (s45+1),v50))
      else
      some (.inr s46)) (t0:=hO y) l.length (λk z=>z=hO ((l.take k).foldl R9 y)) (λz=>z=hO (l.foldl R9 y)) (by omega) rfl ?_ ?_
 .obtain⟨e,h1,h2⟩:=key;rw[h1,Ys,h2]
 .rintro k z hk rfl;left;have hz:=HK (l.take k) hR;simp only[zQ,hk,zV,zT,u7 hk,Ys,oN hz (hb _ (zk hk))];rw[p8,<-Jj l hk];exact⟨_,rfl,rfl⟩
 .rintro z rfl;exact⟨_,za (by simp),by rw[zU]⟩
theorem CQ(s:a7)(ds:List Int){k:Nat}(hk:k<ds.length):lh s (ds.take (k+1))=AW (lh s (ds.take k)) ds[k]:=by
 unfold lh;rw[T0 hk,za1];rfl
section
variable{y:Hp}(hR:SR y.S){ds:List Int}(hn:ds.Nodup)(hm:∀d∈ds,d∈lv y.S)
include hR hn hm
theorem wm{k:Nat}(hk:k<ds.length):SR (lh y.S (ds.take k))/\ds[k]∈lv (lh y.S (ds.take k)):=by
 have g:=da (ds.take k) hR ((List.take_sublist k ds).nodup hn) λd hd=>hm d (zah hd);refine⟨g.sr,?_⟩;rw[g.lv,zy,zH];refine⟨hm _ (zk hk),λq=>?_⟩;rw[<-zb8 k ds,zbx] at hn;exact hn.2.2 _ q ds[k] (by rw[zbd hk];exact zi ..) rfl
theorem IT(hl:ds.length<=1000){K:Hp->Option Hp}:((lp (S:=Int × b6) (E:=b6) (λ((s42,s43):Int × b6)=>
    if (decide (s42<(ds.length:Int))) then
     (ix ds s42).bind λv46=>
     (af s43 v46).bind λv47=>
     some (.inl (z8 (s42+1),v47))
    else
    some (.inr s43)) (0,y)).bind K)=K (wS y (lh y.S ds)):=by
 have key:=fy (f:=λ((s42,s43):Int × b6)=>
    if (decide (s42<(ds.length:Int))) then
     (ix ds s42).bind λv46=>
     (af s43 v46).bind λv47=>
     some (Sum.inl (z8 (s42+1),v47))
    else
    some (.inr s43)) (t0:=y) ds.length (λk z=>z=wS y (lh y.S (ds.take k))) (λz=>z=wS y (lh y.S ds)) (by omega) rfl ?_ ?_
 .obtain⟨e,h1,h2⟩:=key;rw[h1,Ys,h2]
 .rintro k z hk rfl;left;obtain⟨h1,h2⟩:=wm hR hn hm hk;simp only[zQ,hk,zV,zT,u7 hk,Ys,IU (x:=wS y (lh y.S (ds.take k))) h1 h2];rw[p8,CQ _ _ hk];exact⟨_,rfl,rfl⟩
 .rintro z rfl;exact⟨_,za (by simp),by rw[zU]⟩
theorem Da(hl:ds.length<=1000){K:o7->Option o7}:((lp (S:=Int × o7) (E:=o7) (λ((s52,s53):Int × o7)=>
     if (decide (s52<(ds.length:Int))) then
      (ix ds s52).bind λv56=>
      (nC s53 v56).bind λv57=>
      some (.inl (z8 (s52+1),v57))
     else
     some (.inr s53)) (0,hO y)).bind K)=K (hO (wS y (lh y.S ds))):=by
 have key:=fy (f:=λ((s52,s53):Int × o7)=>
     if (decide (s52<(ds.length:Int))) then
      (ix ds s52).bind λv56=>
      (nC s53 v56).bind λv57=>
      some (Sum.inl (z8 (s52+1),v57))
     else
     some (.inr s53)) (t0:=hO y) ds.length (λk z=>z=hO (wS y (lh y.S (ds.take k)))) (λz=>z=hO (wS y (lh y.S ds))) (by omega) rfl ?_ ?_
 .obtain⟨e,h1,h2⟩:=key;rw[h1,Ys,h2]
 .rintro k z hk rfl;left;obtain⟨h1,h2⟩:=wm hR hn hm hk;simp only[zQ,hk,zV,zT,u7 hk,Ys,Tq (x:=wS y (lh y.S (ds.take k))) h1 h2];rw[p8,CQ _ _ hk];exact⟨_,rfl,rfl⟩
 .rintro z rfl;exact⟨_,za (by simp),by rw[zU]⟩
end
section
variable{x:Hp}(hx:O4 x){ds:List Int}(hn:ds.Nodup)(hm:∀d∈ds,d∈lv x.S)
include hx hn hm
theorem AL:ds.length<=24:=t6 (gL hn hm) (M6 (y5.2 hx.sh.sr))
theorem AR{d:Int}(hd:d∈lv x.S):(ob x.S d).Fields.length<=4:=(J5 hx.sh.sr hd).fl
theorem Bv{d:Int}(hd:d∈lv x.S):(outs x.S d).length<=4:=t6 (LP _) (AR hx hn hm hd)
theorem oy:∀(l:List Int),(∀d∈l,d∈lv x.S)->(l.flatMap (outs x.S)).length<=4*l.length
 | [],_=>by simp
 | d::l,h=>by
  rw[za6,zD,zj];have:=oy l λe he=>h e (zq _ he);have:=Bv hx hn hm (h d (zi ..));omega
theorem Hq:∀v∈ds.flatMap (outs x.S)++(mi x.T ds).2,v<=9223372036854775807:=λv hv=>by
 rcases zx.1 hv with q | q
 .obtain⟨d,hd,q⟩:=n8.1 q;obtain⟨q,_⟩:=lC.1 q;rcases hx.sh.fl d (hm d hd) v q with e | e
  .omega
  .exact gJ hx.sh.sr e
 .by_cases h0:v=0
  .omega
  .have hl:=AL hx hn hm;have h3:=(ig hx.sh.hr ds (by omega)).2.2.2.2.2 v;have h4:=dD.2 ⟨h0,q⟩;have h5:0<own x.T v:=by omega
   obtain⟨p,hp,hq⟩:=zbn.1 h5;have hq:(v != 0&&p.Val==v)=true:=hq;rw[zl,wl] at hq;have:=(hx.sh.pr _ _ (iR.1 hp)).2;rw[hq.2] at this;exact gJ hx.sh.sr this
theorem Dp:(ds.flatMap (outs x.S)++(mi x.T ds).2).length<=200:=by
 have hl:=AL hx hn hm;have h1:=oy hx hn hm ds hm;have h2:=(ig hx.sh.hr ds (by omega)).2.2.1;rw[zD];omega
theorem GD(hq:(x.Q.L++pq x.a8 ds).length<=30){l:List Int}(h1:X4 x l=some ds):aQ x l=some (gb x ds):=by
 have hl:=AL hx hn hm;have hR:=hx.sh.sr;obtain⟨w1,w2,w3,w4,w5,w6⟩:=ig hx.sh.hr ds (by omega);have ol:=Dp hx hn hm;have fl:=oy hx hn hm ds hm;unfold aQ;rw[h1,Ys,ED (by have:=hx.sh.c6;omega) (by omega) hq hx.sh.cap,Ys];simp only[jn];have key:=O6 ds (λb d=>b++outs x.S d) id (λk b=>b.length<=4*k) (b0:=[]) (f:=λ((s49,s50):Int × (List Int))=>
   if (decide (s49<(ds.length:Int))) then
    (ix ds s49).bind λv53=>
    (y4 (xF x ds).S v53).bind λv54=>
    (gq v54.1.Fields).bind λv55=>
    (app 8 s50 v55).bind λv56=>
    some (Sum.inl (z8 (s49+1),v56))
   else
   some (.inr s50)) (by omega) (by simp) (λk hk b hb=>?_) (λb hb=>by simp)
 .rw[key,Ys,lg,zb3];dsimp only[id];rw[show (xF x ds).T=x.T from rfl,w1,Ys];have ol2:=ol;rw[zD] at ol2;rw[C3 (by omega) (by omega),Ys];have k1:=IT (y:=⟨(xF x ds).S,(xF x ds).Roots,(xF x ds).a8,(mi x.T ds).1,(xF x ds).Q⟩) hR hn hm (by omega) (K:=λe=>(lp (S:=Int × b6) (E:=b6) (λ((s35,s36):Int × b6)=>
     if (decide (s35<((ds.flatMap (outs x.S)++(mi x.T ds).2).length:Int))) then
      (ix (ds.flatMap (outs x.S)++(mi x.T ds).2) s35).bind λv39=>
      (C8 s36 v39).bind λv40=>
      some (.inl (z8 (s35+1),v40))
     else
     some (.inr s36)) (0,e)).bind λe34=>some e34)
  refine zcf k1 ?_;have g:=da ds hR hn hm;have k2:=BK (y:=wS (⟨(xF x ds).S,(xF x ds).Roots,(xF x ds).a8,(mi x.T ds).1,(xF x ds).Q⟩:Hp) (lh x.S ds)) g.sr _ (by omega) (Hq hx hn hm) (K:=λe34=>some e34);refine zcf k2 ?_;rfl
 .have hd:=hm _ (zk hk);have f4:=AR hx hn hm hd;have o4:=Bv hx hn hm hd;simp only[zQ,hk,zV,zT,u7 hk,Ys,show (xF x ds).S=x.S from rfl,sT hR hd,Dj _ (by omega:(ob x.S ds[k]).Fields.length<=1000000)];have e:nz (ob x.S ds[k]).Fields=outs x.S ds[k]:=rfl;rw[e,C3 (by omega) (by omega),Ys,p8];exact⟨rfl,by rw[zD];omega⟩
theorem Ix(hq:(x.Q.L++pq x.a8 ds).length<=30){l:List Int}(h1:rM (hO x) l=some ds):rJ (hO x) l=some (hO (gb x ds)):=by
 have hl:=AL hx hn hm;have hR:=hx.sh.sr;obtain⟨w1,w2,w3,w4,w5,w6⟩:=ig hx.sh.hr ds (by omega);have ol:=Dp hx hn hm;have fl:=oy hx hn hm ds hm;have c6:=hx.sh.c6;unfold rJ;rw[h1,Ys,show (hO x).a8=x.a8.map qy from rfl,OS _ _ (by omega) (by omega),Ys];simp only[jn];rw[show (hO x).Q=Ci x.Q from rfl,SF (by omega) (by omega) hq hx.sh.cap];have key:=O6 ds (λb d=>b++outs x.S d) id (λk b=>b.length<=4*k) (b0:=[]) (f:=λ((s59,s60):Int × (List Int))=>
    if (decide (s59<(ds.length:Int))) then
     (ix ds s59).bind λv63=>
     (M1 (hO x).S v63).bind λv64=>
     (jV v64.1.Fields).bind λv65=>
     (app 8 s60 v65).bind λv66=>
     some (Sum.inl (z8 (s59+1),v66))
    else
    some (.inr s60)) (by omega) (by simp) (λk hk b hb=>?_) (λb hb=>by simp)
 .rw[key,Ys,lg,zb3];dsimp only[id];rw[show (hO x).T=x.T.map S9 from rfl,w4,Ys];dsimp only;have ol2:=ol;rw[zD] at ol2;rw[C3 (by omega) (by omega),Ys];have k1:=Da (y:=⟨(xF x ds).S,(xF x ds).Roots,(xF x ds).a8,(mi x.T ds).1,(xF x ds).Q⟩) hR hn hm (by omega) (K:=λe=>(lp (S:=Int × o7) (E:=o7) (λ((s45,s46):Int × o7)=>
      if (decide (s45<((ds.flatMap (outs x.S)++(mi x.T ds).2).length:Int))) then
       (ix (ds.flatMap (outs x.S)++(mi x.T ds).2) s45).bind λv49=>
       (J3 s46 v49).bind λv50=>
       some (.inl (z8 (s45+1),v50))
      else
      some (.inr s46)) (0,e)).bind λe44=>some e44)
  refine zcf k1 ?_;have g:=da ds hR hn hm;have k2:=wX (y:=wS (⟨(xF x ds).S,(xF x ds).Roots,(xF x ds).a8,(mi x.T ds).1,(xF x ds).Q⟩:Hp) (lh x.S ds)) g.sr _ (by omega) (Hq hx hn hm) (K:=λe44=>some e44);refine zcf k2 ?_;rfl
 .have hd:=hm _ (zk hk);have f4:=AR hx hn hm hd;have o4:=Bv hx hn hm hd;simp only[zQ,hk,zV,zT,u7 hk,Ys,show (hO x).S=sO x.S from rfl,qX hR hd];have e:jV (oo (ob x.S ds[k])).Fields=some (outs x.S ds[k]):=Fl _ (by show (ob x.S ds[k]).Fields.length<=_;omega);rw[e,Ys,C3 (by omega) (by omega),Ys,p8];exact⟨rfl,by rw[zD];omega⟩
end
theorem OM{x:Hp}(hR:SR x.S)(hS:SL x){ds:List Int}(hn:ds.Nodup)(hm:∀d∈ds,d∈lv x.S)(t:Tb):SL (il x ds t):=λk hk=>by
 have g:=da ds hR hn hm;have hk:k∈lv (lh x.S ds):=hk;rw[g.lv,zy,zH] at hk;have e:ob (il x ds t).S k=ob x.S k:=g.ob k hk.1 hk.2;rw[e];exact hS k hk.1
theorem Kg{x:Hp}(hR:SR x.S)(hS:SL x){ds:List Int}(hn:ds.Nodup)(hm:∀d∈ds,d∈lv x.S):SL (gb x ds):=
 BN _ (x:=il x ds (mi x.T ds).1) (da ds hR hn hm).sr (OM hR hS hn hm _)
theorem Mx{x:Hp}(hR:SR x.S)(hS:SL x){h:Int}(hh:h∈lv x.S):SL (gO x h):=by
 have hok:=BZ hR hh;have r1:=bu (o:=dO (ob x.S h)) hR hh rfl hok;refine SL.C6 (x:=⟨cK x.S h (dO (ob x.S h)),x.Roots,x.a8,x.T,⟨x.Q.L ++ [tZ x h],x.Q.Cap⟩⟩) (λk hk=>?_) r1 h;dsimp only at hk |-;rw[fD (o:=dO (ob x.S h)) hR hh rfl hok] at hk;rw[eh (o:=dO (ob x.S h)) hR hh rfl hok (gJ hR hk)];split;·exact hS h hh
 .exact hS k hk
theorem UW{x:Hp}(hx:O4 x)(hS:SL x):SL (HZ x):=by
 cases h:zr x with
 | nil=>rw[oV h];exact hS
 | cons z l=>
  have hz:=(cd.1 (show z∈zr x by rw[h];exact zi ..)).1;rw[hU h];split;·exact Mx hx.sh.sr hS hz
  .exact Kg hx.sh.sr hS (by simp) (by simpa using hz)
theorem Ca{x:Hp}(hx:O4 x)(hS:SL x)(n:Nat):SL (uF n x):=by
 induction n with
 | zero=>exact hS
 | succ n ih=>rw[dB];exact UW (bj hx n) ih
theorem HV{x:Hp}(hx:O4 x)(hS:SL x):SL (dx x):=Ca hx hS 100
section
variable{x:Hp}(hx:O4 x)(hS:SL x)
include hx hS
theorem Am{z:Int}(hz:z∈zr x):(x.Q.L++pq x.a8 [z]).length<=30:=by
 have h1:=(xE hx hz).sh.q30;have hzl:=(cd.1 hz).1;rw[(qG hx.sh.sr (ds:=[z]) (by simp) (by simpa using hzl)).2.2.2] at h1;exact h1
theorem Jo(h:zr x = []):((cH x).bind λv4=>
  if ((v4.length:Int)==0) then
   some (Sum.inr x)
  else
  (ix v4 0).bind λv5=>
  (y4 x.S v5).bind λv6=>
  (M8 v6.1).bind λv7=>
  if v7 then
   (U8 x v5).bind λv8=>
   some (.inl v8)
  else
  (cut v4 0 1).bind λv9=>
  (aQ x v9).bind λv10=>
  some (Sum.inl (α:=Hp) (β:=Hp) v10))=some (.inr x):=by
 rw[zero_eq hx.sh.sr,Ys,h];rfl
theorem VG(z:Int)(l:List Int):cut (z::l) 0 1=some [z]:=by
 unfold cut;rw[zb (by simp;omega)];simp
theorem FK(h:zr x ≠ []):((cH x).bind λv4=>
  if ((v4.length:Int)==0) then
   some (Sum.inr x)
  else
  (ix v4 0).bind λv5=>
  (y4 x.S v5).bind λv6=>
  (M8 v6.1).bind λv7=>
  if v7 then
   (U8 x v5).bind λv8=>
   some (.inl v8)
  else
  (cut v4 0 1).bind λv9=>
  (aQ x v9).bind λv10=>
  some (Sum.inl (α:=Hp) (β:=Hp) v10))=some (.inl (HZ x)):=by
 cases hz:zr x with
 | nil=>exact absurd hz h
 | cons z l=>
  have hzm:z∈zr x:=by rw[hz];exact zi ..
  have hzl:=(cd.1 hzm).1;have hR:=hx.sh.sr;rw[zero_eq hR,Ys,hz,za (by simp;omega),show ix (z::l) 0=some z from rfl,Ys,sT hR hzl,Ys,Hs,Ys,hU hz];by_cases hd:due (ob x.S z)=true
  .rw[zb hd,zb hd,yV hx hS (gJ hR hzl),Ys];unfold Ux;rw[zb ⟨hzl,hd⟩]
  .rw[za hd,za hd,VG hx hS,Ys,GD hx (ds:=[z]) (by simp) (by simpa using hzl) (Am hx hS hzm) (by rw[rn hR [z] (by simp) (by simpa using gJ hR hzl),De hzl]),Ys]
theorem gn:P7 x=some (dx x):=by
 obtain⟨n,hn,h1,h2,h3⟩:=tF hx;unfold P7;refine jM (λj=>uF j x) rfl n (λ_=>True) (by omega) trivial (λk hk _=>.inl ⟨?_,trivial⟩) (λ_=>⟨uF n x,?_,by rw[h3]⟩)
 .have:=FK (bj hx k) (Ca hx hS k) (h2 k hk);rw[<-dB] at this;exact this
 .exact Jo (bj hx n) (Ca hx hS n) h1
theorem QC{k:Nat}(hk:k<100)(h:zr x ≠ []){E:Type}{e:E}:((rL (hO x)).bind λv35=>
     if ((v35.length:Int)==0) then
      some (Sum.inr e)
     else
     (ix v35 0).bind λv36=>
     (rK (hO x) v36).bind λv37=>
     if v37 then
      (lM (hO x) v36).bind λv38=>
      some (.inl (z8 ((k:Int)+1),v38))
     else
     (cut v35 0 1).bind λv39=>
     (rJ (hO x) v39).bind λv40=>
     some (Sum.inl (z8 ((k:Int)+1),v40)))=some (.inl (((k+1:Nat):Int),hO (HZ x))):=by
 cases hz:zr x with
 | nil=>exact absurd hz h
 | cons z l=>
  have hzm:z∈zr x:=by rw[hz];exact zi ..
  have hzl:=(cd.1 hzm).1;have hR:=hx.sh.sr;rw[NF hR,Ys,hz,za (by simp;omega),show ix (z::l) 0=some z from rfl,Ys,Rq hx hS (gJ hR hzl),Ys,zA hzl,zal,hU hz,p8];by_cases hd:due (ob x.S z)=true
  .rw[zb hd,zb hd,My hx hS (gJ hR hzl),Ys];unfold Ux;rw[zb ⟨hzl,hd⟩]
  .rw[za hd,za hd,VG hx hS,Ys,Ix hx (ds:=[z]) (by simp) (by simpa using hzl) (Am hx hS hzm) (by rw[SZ hR [z] (by simp) (by simpa using gJ hR hzl),De hzl]),Ys]
theorem xk:aO (hO x)=some (hO (dx x)):=by
 obtain⟨n,hn,h1,h2,h3⟩:=tF hx;unfold aO;simp only[jn];refine jM (λj=>((j:Int),hO (uF j x))) (by rfl) n (λ_=>True) (by omega) trivial (λk hk _=>.inl ⟨?_,trivial⟩) (λ_=>⟨.inl (hO (uF n x)),?_,by rw[h3]⟩)
 .dsimp only;rw[zb (by simp;omega)];have:=QC (bj hx k) (Ca hx hS k) (k:=k) (by omega) (h2 k hk) (e:=(Sum.inl (hO (uF k x)):o7 ⊕ o7));rw[<-dB] at this;exact this
 .dsimp only;rw[zb (by simp;omega),NF (bj hx n).sh.sr,Ys,h1];rfl
end
def L7(n l m e:Int):Int:=if n<l\/n > m then e else 0
def az(a b c:Int):Int:=if a≠0 then a else if b≠0 then b else c
def A8(k a b c:Int):Int:=
 if k=1 then az (L7 a 0 5 6) (L7 b 0 4 1) (L7 c (-1) 5 13)
 else if k=2\/k=9\/k=10 then az (L7 a 0 5 6) (L7 b 0 5 6) 0
 else if k=3 then L7 a 0 5 6
 else if k=4 then az (L7 a 0 5 6) (L7 b 0 5 6) (L7 c 0 3 5)
 else if k=5 then az (L7 a 0 5 6) (L7 b 0 3 5) (L7 c (-1) 5 6)
 else if k=6 then az (L7 a 0 5 7) (L7 b (-1) 5 6) (L7 c (-1) 5 13)
 else if k=7 then az (L7 a 0 5 6) (L7 b 0 5 7) 0
 else if k=8 then az (L7 a 0 5 6) (L7 b (-1) 5 6) 0
 else if k=11 then 0
 else if k=12 then L7 a 0 200 12
 else 14
def BJ:l4:=⟨some 169,0,5,6⟩
def Qu:l4:=⟨some 170,0,5,6⟩
def Wq:l4:=⟨some 170,-1,5,6⟩
def WB:l4:=⟨some 172,-1,5,13⟩
def tO:List (Int × List l4):=[(1,[BJ,⟨some 170,0,4,1⟩,WB]),(2,[BJ,Qu]),(3,[BJ]),(4,[BJ,Qu,⟨some 172,0,3,5⟩]),
 (5,[BJ,⟨some 170,0,3,5⟩,⟨some 172,-1,5,6⟩]),(6,[⟨some 169,0,5,7⟩,Wq,WB]),(7,[BJ,⟨some 170,0,5,7⟩]),(8,[BJ,Wq]),(9,[BJ,Qu]),(10,[BJ,Qu]),(11,[]),(12,[⟨some 169,0,200,12⟩])]
theorem EI:kV=some tO:=by kernel_rfl
def ff(o:c9)(d:l4):Int:=if d.part=some 169 then o.A else if d.part=some 170 then o.B else o.C
def po(o:c9)(d:l4):Bool:=decide (ff o d<d.least)||decide (ff o d > d.most)
def qT(o:c9):List l4->Int ⊕ Unit
 | []=>.inr ()
 | d::ds=>if po o d then .inl d.e else qT o ds
theorem CN(o:c9)(d:l4)(ds:List l4):qT o (d::ds)=if po o d then .inl d.e else qT o ds:=rfl
def Gc(d:l4):Prop:=d.part=some 169\/d.part=some 170\/d.part=some 172
theorem Ur(o:c9){d:l4}(h:Gc d):qV d.part o=some (ff o d):=by
 unfold ff;rcases h with h | h | h
 .rw[h];rfl
 .rw[h];rfl
 .rw[h];rfl
theorem TI(o:c9)(ds:List l4)(hl:ds.length<=10)(hp:∀d∈ds,Gc d):lp (S:=Int) (E:=Int ⊕ Unit) (λ(s11:Int)=>
   if (decide (s11<(ds.length:Int))) then
    (ix ds s11).bind λv13=>
    (qV v13.part o).bind λv14=>
    if ((decide (v14<v13.least))||(decide (v14 > v13.most))) then
     some (.inr (.inl v13.e))
    else
    some (.inl (z8 (s11+1)))
   else
   some (.inr (.inr ()))) 0=some (qT o ds):=by
 refine fZ (Dd ds.length (λk=>qT o ds=qT o (ds.drop k)) (λe=>e=qT o ds) (by omega) rfl (λk hk hP=>?_) (λhP=>?_))
 .rw[zb (by simpa using hk),u7 hk,Ys,Ur o (hp _ (zk hk)),Ys];rw[zbd hk,CN] at hP;by_cases c:po o ds[k]=true
  .rw[zb (show ((decide (ff o ds[k]<ds[k].least))||(decide (ff o ds[k] > ds[k].most)))=true from c)];rw[zb c] at hP;exact .inr ⟨_,rfl,hP.symm⟩
  .rw[za (show ¬((decide (ff o ds[k]<ds[k].least))||(decide (ff o ds[k] > ds[k].most)))=true from c),p8];rw[za c] at hP;exact .inl ⟨rfl,hP⟩
 .rw[List.drop_length] at hP;exact⟨_,za (by simp),hP.symm⟩
theorem Pa:∀p∈tO,p.2.length<=10/\∀d∈p.2,Gc d:=by
 have:tO.all (λp=>decide (p.2.length<=10)&&p.2.all λd=>(d.part==some 169)||(d.part==some 170)||(d.part==some 172))=true:=by kernel_rfl
 intro p hp;have:=zd.1 this p hp;rw[zl,zH,zd] at this;refine⟨this.1,λd hd=>?_⟩;have:=this.2 d hd;simp only[n7,wl] at this;unfold Gc;rcases this with (h | h) | h
 .exact .inl h
 .exact .inr (.inl h)
 .exact .inr (.inr h)
theorem He{m:List (Int × List l4)}{k:Int}{v:List l4}(h:z6 m k=some v):(k,v)∈m:=by
 induction m with
 | nil=>cases h
 | cons p m ih=>
  unfold z6 at h;split at h
  .rename_i c;have:k=p.1:=by simpa using c
   cases h;subst this;exact zi ..
  .exact zq _ (ih h)
def sn(o:c9)(ds:List l4):Int:=match qT o ds with
 | .inl e=>e
 | .inr _=>0
theorem Ra(o:c9):sn o []=0:=rfl
theorem sq(o:c9)(d:l4)(ds:List l4):sn o (d::ds)=if po o d then d.e else sn o ds:=by
 unfold sn;rw[CN];cases po o d <;> rfl
theorem Bd(o:c9)(d:l4):L7 (ff o d) d.least d.most d.e=if po o d then d.e else 0:=by
 unfold L7 po;by_cases h:ff o d<d.least\/ff o d > d.most
 .rw[zb h,zb (by simpa using h)]
 .rw[za h,za (by simpa using h)]
theorem QX(o:c9)(d:l4):sn o [d]=L7 (ff o d) d.least d.most d.e:=by rw[sq,Ra,Bd]
theorem Nq(o:c9)(d e:l4)(h1:d.e≠0):sn o [d,e]=az (L7 (ff o d) d.least d.most d.e) (L7 (ff o e) e.least e.most e.e) 0:=by
 rw[sq,QX,Bd o d];unfold az;cases po o d
 .simp only[zm,zZ,ne_eq,not_true_eq_false];split;·rfl
  .rename_i h;simpa using h
 .simp[h1]
theorem QY(o:c9)(d e f:l4)(h1:d.e≠0)(h2:e.e≠0):sn o [d,e,f]=az (L7 (ff o d) d.least d.most d.e) (L7 (ff o e) e.least e.most e.e) (L7 (ff o f) f.least f.most f.e):=by
 rw[sq,sq,QX,Bd o d,Bd o e];unfold az;cases po o d <;> cases po o e <;> simp[h1,h2]
theorem Lt(o:c9):(match z6 tO o.Kind with
  | none=>14
  | some ds=>sn o ds)=A8 o.Kind o.A o.B o.C:=by
 obtain⟨k,a,b,c⟩:=o;dsimp only;by_cases h:1<=k/\k<=12
 .have:k=1\/k=2\/k=3\/k=4\/k=5\/k=6\/k=7\/k=8\/k=9\/k=10\/k=11\/k=12:=by omega
  rcases this with rfl | rfl | rfl | rfl | rfl | rfl | rfl | rfl | rfl | rfl | rfl | rfl
  .exact QY _ _ _ _ (by decide) (by decide)
  .exact Nq _ _ _ (by decide)
  .exact QX _ _
  .exact QY _ _ _ _ (by decide) (by decide)
  .exact QY _ _ _ _ (by decide) (by decide)
  .exact QY _ _ _ _ (by decide) (by decide)
  .exact Nq _ _ _ (by decide)
  .exact Nq _ _ _ (by decide)
  .exact Nq _ _ _ (by decide)
  .exact Nq _ _ _ (by decide)
  .rfl
  .exact QX _ _
 .have e:z6 tO k=none:=by
   cases hm:z6 tO k with
   | none=>rfl
   | some v=>
    have:=He hm;simp only[tO,zJ,Prod.mk.injEq,zbz,or_false] at this;omega
  rw[e];unfold A8;repeat rw[za (by omega)]
theorem mV(o:c9):U4 o=some (A8 o.Kind o.A o.B o.C):=by
 rw[<-Lt];unfold U4;rw[EI,Ys];cases h:z6 tO o.Kind with
 | none=>rfl
 | some ds=>
  obtain⟨h1,h2⟩:=Pa _ (He h);rw[za (by simp)];simp only[jn,zX];rw[TI o ds h1 h2,Ys];unfold sn;cases qT o ds <;> rfl
theorem Pq(n l m e:Int):cc n l m e=some (L7 n l m e):=by
 unfold cc L7;by_cases h:n<l\/n > m
 .rw[zb h,zb (by simpa using h)]
 .rw[za h,za (by simpa using h)]
theorem KS(a b c:Int):bf a b c=some (az a b c):=by
 unfold bf az;by_cases h:a=0
 .by_cases g:b=0
  .rw[za (by simpa using h),za (by simpa using g),za (by simpa using h),za (by simpa using g)]
  .rw[za (by simpa using h),zb (by simpa using g),za (by simpa using h),zb (by simpa using g)]
 .rw[zb (by simpa using h),zb (by simpa using h)]
theorem iD(o:au):cD o=some (A8 o.Kind o.A o.B o.C):=by
 unfold cD A8;simp only[Pq,KS,Ys,jn];by_cases h:1<=o.Kind/\o.Kind<=12
 .have:o.Kind=1\/o.Kind=2\/o.Kind=3\/o.Kind=4\/o.Kind=5\/o.Kind=6\/o.Kind=7\/o.Kind=8\/o.Kind=9\/o.Kind=10\/o.Kind=11\/o.Kind=12:=by omega
  rcases this with h | h | h | h | h | h | h | h | h | h | h | h <;> rw[h] <;> rfl
 .have n:∀j:Int,1<=j->j<=12->(o.Kind==j)=false:=λj h1 h2=>by
   rw[beq_eq_false_iff_ne];omega
  simp only[n 1 (by omega) (by omega),n 2 (by omega) (by omega),n 3 (by omega) (by omega),n 4 (by omega) (by omega),n 5 (by omega) (by omega),n 6 (by omega) (by omega),n 7 (by omega) (by omega),n 8 (by omega) (by omega),n 9 (by omega) (by omega),n 10 (by omega) (by omega),n 11 (by omega) (by omega),n 12 (by omega) (by omega),zm,zZ];repeat rw[za (by omega)]
theorem QB{x:Hp}(hx:O4 x){ds:List Int}:(x.Q.L++pq x.a8 ds).length<=30:=by
 have hS:=hx.sh;have c6:=hS.c6;have h24:(lv x.S).length<=24:=M6 (y5.2 hS.sr);have htd:(x.Q.L++pq x.a8 ds).Pairwise λa b=>¬(a.Kind=b.Kind/\a.At=b.At):=by
  rw[za3];refine⟨hS.td,yu ..,λa ha b hb q=>?_⟩;obtain⟨w,hw,rfl,hh,_⟩:=fT.1 hb;have hi:x.a8[w].Intact=true:=by
   unfold fQ at hh;rw[zl,zl] at hh;exact hh.1.1
  have:=((hS.cl w hw).2.2.2.2 hi).2;rw[zba] at this;exact this (ja.2 ⟨a,ha,q.1,q.2⟩)
 have:=xo (m:=lv x.S) htd λt ht=>by
  rcases zx.1 ht with q | q
  .rcases (hS.tk t q).2.2 with c | c
   .exact .inl ⟨c.1,c.2.1⟩
   .exact .inr c
  .obtain⟨w,hw,rfl,_,_⟩:=fT.1 q;exact .inr ⟨rfl,by dsimp only;omega,by dsimp only;omega⟩
 omega
section
variable{x:Hp}(hB:HB x)
include hB
end
structure Cz (x y:Hp):Prop where
 lv:∀h∈lv y.S,h∈lv x.S
 T7:y.S.Serial=x.S.Serial
 len:y.S.S.a8.length=x.S.S.a8.length
 ob:∀h∈Sh.lv y.S,(ob y.S h).Serial=(ob x.S h).Serial/\(Sh.ob y.S h).Prog=(Sh.ob x.S h).Prog/\(Sh.ob y.S h).Fields=(Sh.ob x.S h).Fields/\((Sh.ob x.S h).Started=true->(Sh.ob y.S h).Started=true)
 rt:y.Roots=x.Roots
 cn:y.a8.length=x.a8.length
 cl:∀i (h:i<y.a8.length) (h':i<x.a8.length),y.a8[i]=⟨x.a8[i].Target,x.a8[i].Intact&&decide (x.a8[i].Target∈Sh.lv y.S),x.a8[i].Call⟩
 q:∃l,y.Q=⟨x.Q.L++l,x.Q.Cap⟩/\(∀t∈l,t.Kind=1->t.At∈Sh.lv x.S/\(Sh.ob x.S t.At).Started=false)/\∀h∈Sh.lv y.S,(Sh.ob y.S h).Started=true->(Sh.ob x.S h).Started=false->∃t∈l,t.Kind=1/\t.At=h
 rc:∀h,cJ x.S x.T (pf x) h->cJ y.S y.T (pf y) h
 has:∀k v,Has y.T k v->Has x.T k v
theorem Cz.refl{x:Hp}(hx:mH x):Cz x x:=by
 refine⟨λ_ h=>h,rfl,rfl,λh _=>⟨rfl,rfl,rfl,id⟩,rfl,rfl,λi h h'=>?_,⟨[],by simp,by simp,λh _ a b=>?_⟩,λ_ h=>h,λ_ _ h=>h⟩
 .have:=(hx.cl i h).2.2.2.2;cases hI:x.a8[i].Intact;·rw[zb1,<-hI]
  .rw[zA (this hI).1,Bool.and_self,<-hI]
 .rw[a] at b;cases b
theorem Cz.trans{x y z:Hp}(a:Cz x y)(b:Cz y z):Cz x z:=by
 obtain⟨l1,q1,q2,q3⟩:=a.q;obtain⟨l2,r1,r2,r3⟩:=b.q;refine⟨λh hh=>a.lv h (b.lv h hh),b.T7.trans a.T7,b.len.trans a.len,λh hh=>?_,b.rt.trans a.rt,b.cn.trans a.cn,λi h h'=>?_,⟨l1++l2,?_,λt ht hk=>?_,λh hh s1 s2=>?_⟩,λh hh=>b.rc h (a.rc h hh),λk v hh=>a.has k v (b.has k v hh)⟩
 .obtain⟨b1,b2,b3,b4⟩:=b.ob h hh;obtain⟨a1,a2,a3,a4⟩:=a.ob h (b.lv h hh);exact⟨b1.trans a1,b2.trans a2,b3.trans a3,λq=>b4 (a4 q)⟩
 .have hy:i<y.a8.length:=by rw[a.cn];exact h'
  rw[b.cl i h hy,a.cl i hy h'];dsimp only;congr 1;rw[Bool.and_assoc];congr 1;by_cases q:x.a8[i].Target∈Sh.lv z.S
  .rw[zA q,zA (b.lv _ q)];rfl
  .rw[zK q,Bool.and_false]
 .rw[r1,q1,pu]
 .rcases zx.1 ht with q | q
  .exact q2 t q hk
  .obtain⟨e1,e2⟩:=r2 t q hk;refine⟨a.lv _ e1,?_⟩;cases hs:(Sh.ob x.S t.At).Started;·rfl
   .rw[(a.ob _ e1).2.2.2 hs] at e2;cases e2
 .cases hs:(Sh.ob y.S h).Started
  .obtain⟨t,ht,e⟩:=r3 h hh s1 hs;exact⟨t,zat _ ht,e⟩
  .obtain⟨t,ht,e⟩:=q3 h (b.lv h hh) hs s2;exact⟨t,m7 _ ht,e⟩
theorem HT(s:a7)(h:Int)(o:p7):(cK s h o).S.a8.length=s.S.a8.length:=N8 ..
theorem Qq{x:Hp}(hx:O4 x){z:Int}(hz:z∈lv x.S)(hs:(ob x.S z).Started=false):Cz x (gO x z):=by
 have hR:=hx.sh.sr;obtain⟨k,e1,e2,e3,e4⟩:=lH hR hz;have l1:=Bz hR hz;have hob:∀h∈lv x.S,(ob (gO x z).S h).Serial=(ob x.S h).Serial/\(ob (gO x z).S h).Prog=(ob x.S h).Prog/\(ob (gO x z).S h).Fields=(ob x.S h).Fields/\((ob (gO x z).S h).Started=true↔(ob x.S h).Started=true\/h=z):=λh hh=>by
  obtain⟨n,e⟩:=wO hR hz hh;rw[e];by_cases q:h=z
  .subst q;rw[zb rfl];exact⟨rfl,rfl,rfl,by simp⟩
  .rw[za q];exact⟨rfl,rfl,rfl,by simp[q]⟩
 have hot:∀h∈pf x,h∈pf (gO x z):=λh hh=>by
  unfold pf at hh |-;rw[e1,e4];rcases zx.1 hh with q | q
  .exact m7 _ q
  .refine zat _ ?_;obtain⟨t,ht,a,b⟩:=rz.1 q;exact rz.2 ⟨t,m7 _ ht,a,b⟩
 have rf:=Cz.refl hx.sh;refine⟨λh hh=>by rw[l1] at hh;exact hh,k.T7,k.len.trans (HT ..),λh hh=>?_,e1,by rw[e2],λi h h'=>?_,⟨[tZ x z],by rw[e4],λt ht hk=>?_,λh hh s1 s2=>?_⟩,λh hh=>?_,λk v hh=>by rw[e3] at hh;exact hh⟩
 .rw[l1] at hh;obtain⟨a,b,c,d⟩:=hob h hh;exact⟨a,b,c,λq=>d.2 (.inl q)⟩
 .have e5:(gO x z).a8[i]=x.a8[i]:=by simp only[e2]
  rw[e5,l1];exact rf.cl i h' h'
 .rw[zG] at ht;subst ht;exact⟨hz,hs⟩
 .rw[l1] at hh;rcases (hob h hh).2.2.2.1 s1 with q | q
  .rw[q] at s2;cases s2
  .exact⟨tZ x z,List.mem_singleton_self _,rfl,q.symm⟩
 .induction hh with
  | base h1 h2=>exact .base (hot _ h1) (by rw[l1];exact h2)
  | step h0 h1 h2 ih=>
   refine .step ih ?_ (by rw[l1];exact h2);unfold outs at h1 |-;rw[(hob _ h0.live).2.2.1];exact h1
  | pair h1 h0 h2 ih=>exact .pair (by rw[e3];exact h1) ih (by rw[l1];exact h2)
theorem OO{x:Hp}(hx:O4 x){z:Int}(hz:z∈zr x):Cz x (gb x [z]):=by
 have hR:=hx.sh.sr;have hzl:=(cd.1 hz).1;have h0:z≠0:=λe=>pd hR (e▸hzl);have hfree:=Cr hx hz;have hn:([z]:List Int).Nodup:=by simp
 have hm:∀d ∈ [z],d∈lv x.S:=by simpa using hzl
 have g:=da [z] hR hn hm;have k:=(gV ([z].flatMap (outs x.S)++(mi x.T [z]).2) (x:=il x [z] (mi x.T [z]).1) g.sr).1;obtain⟨e1,e2,e3,e4⟩:=qG hR hn hm;obtain⟨_,w2,_,_,w5,w6⟩:=ig hx.sh.hr [z] (by simp);have l1:∀h,h∈lv (gb x [z]).S↔h∈lv x.S/\h≠z:=λh=>by
  rw[Ez hR hn hm,zy,zH,zG]
 have hob:∀h∈lv (gb x [z]).S,(ob (gb x [z]).S h).Serial=(ob x.S h).Serial/\(ob (gb x [z]).S h).Prog=(ob x.S h).Prog/\(ob (gb x [z]).S h).Fields=(ob x.S h).Fields/\(ob (gb x [z]).S h).Started=(ob x.S h).Started:=λh hh=>by
  obtain⟨a,b⟩:=(l1 h).1 hh;obtain⟨n,e⟩:=EA hR hn hm a (by simpa using b);rw[e];exact⟨rfl,rfl,rfl,rfl⟩
 refine⟨λh hh=>((l1 h).1 hh).1,k.T7.trans g.T7,k.len.trans g.len,λh hh=>?_,e1,by rw[e2];simp[tM],λi h h'=>?_,⟨pq x.a8 [z],by rw[e4],λt ht hk=>?_,λh hh s1 s2=>?_⟩,λh hh=>?_,λk v hh=>?_⟩
 .obtain⟨a,b,c,d⟩:=hob h hh;exact⟨a,b,c,λq=>d.trans q⟩
 .have e5:(gb x [z]).a8[i]=mW [z] x.a8[i]:=by
   simp only[e2];exact t7 _
  rw[e5];have hc:=(hx.sh.cl i h').2.2.2.2;unfold mW fQ;cases hI:x.a8[i].Intact;·rw[za (by simp),zb1,<-hI]
  .have ht:=(hc hI).1;have ht0:x.a8[i].Target≠0:=λe=>pd hR (e▸ht);by_cases q:x.a8[i].Target=z
   .rw[zb (by simp[q,h0]),zK (λr=>((l1 _).1 r).2 q)];rfl
   .rw[za (by simp[q]),zA ((l1 _).2 ⟨ht,q⟩),Bool.and_self,<-hI]
 .obtain⟨w,hw,rfl,_,_⟩:=fT.1 ht;simp at hk
 .rw[(hob h hh).2.2.2,s2] at s1;cases s1
 .unfold pe at hfree;have key:cJ (gb x [z]).S (gb x [z]).T (pf (gb x [z])) h/\h≠z:=by
   induction hh with
   | base h1 h2=>
    rename_i a;have hne:a≠z:=λe=>by
     subst e;exact Ea h0 (by omega:aD (pf x) a=0) h1
    refine⟨.base ?_ ((l1 _).2 ⟨h2,hne⟩),hne⟩;unfold pf at h1 |-;rw[e1,e4,wa _ _ _ λt ht=>by
     obtain⟨w,_,rfl,_⟩:=fT.1 ht;simp]
    exact h1
   | step q0 q1 q2 ih=>
    rename_i a b;have hne:b≠z:=λe=>by
     subst e;have:=Bf (y:=b) q0.live;have h1:=dD.2 ⟨h0,q1⟩;omega
    refine⟨.step ih.1 ?_ ((l1 _).2 ⟨q2,hne⟩),hne⟩;unfold outs at q1 |-;rw[(hob _ ((l1 _).2 ⟨q0.live,ih.2⟩)).2.2.1];exact q1
   | pair q1 q0 q2 ih=>
    rename_i a b;have hne:b≠z:=λe=>by
     subst e;have:=Bw q1 h0;omega
    exact⟨.pair (by rw[e3];exact (w5 _ _).2 ⟨by simpa using ih.2,q1⟩) ih.1 ((l1 _).2 ⟨q2,hne⟩),hne⟩
  exact key.1
 .rw[e3] at hh;exact ((w5 _ _).1 hh).2
theorem QL{x:Hp}(hx:O4 x):Cz x (HZ x):=by
 cases h:zr x with
 | nil=>rw[oV h];exact Cz.refl hx.sh
 | cons z l=>
  have hz:z∈zr x:=by rw[h];exact zi ..
  rw[hU h];split
  .rename_i q;unfold due at q;rw[zl,zH,zbk] at q;exact Qq hx (cd.1 hz).1 q.2
  .exact OO hx hz
theorem QK{x:Hp}(hx:O4 x)(n:Nat):Cz x (uF n x):=by
 induction n with
 | zero=>exact Cz.refl hx.sh
 | succ n ih=>rw[dB];exact ih.trans (QL (bj hx n))
theorem nM{x:Hp}(hx:O4 x):Cz x (dx x):=QK hx 100
section
variable{x:Hp}(hB:HB x)
include hB
end
structure Ks (s s':a7):Prop where
 sr:SR s'
 T7:s'.Serial=s.Serial
 lv:lv s'=lv s
 ob:∀h∈Sh.lv s,(ob s' h).Serial=(ob s h).Serial
theorem Ks.refl{s:a7}(hR:SR s):Ks s s:=⟨hR,rfl,rfl,λ_ _=>rfl⟩
theorem Ks.trans{a b c:a7}(h:Ks a b)(q:Ks b c):Ks a c:=⟨q.sr,q.T7.trans h.T7,q.lv.trans h.lv,λk hk=>(q.ob k (by rw[h.lv];exact hk)).trans (h.ob k hk)⟩
theorem ur.ks{s s':a7}(hR:SR s)(k:ur s s'):Ks s s':=⟨k.sr,k.T7,k.lv,λh hh=>by
 obtain⟨n,e⟩:=k.ob h (by have:=I3 hR hh;omega);rw[e]⟩
theorem Kn.ks{s s':a7}(k:Kn s s')(e:s'.Serial=s.Serial):Ks s s':=⟨k.sr,e,k.lv,λh hh=>by
 obtain⟨n,m,e⟩:=k.ob h hh;rw[e]⟩
theorem UK{s:a7}(hR:SR s){h:Int}(hh:h∈lv s){o:p7}(hs:o.Serial=(ob s h).Serial)(ho:xJ s o):Ks s (cK s h o):=⟨bu hR hh hs ho,rfl,fD hR hh hs ho,λk hk=>by
 rw[eh hR hh hs ho (by have:=I3 hR hk;omega)];split;·rename_i e;subst e;exact hs
 .rfl⟩
theorem BS{x:Hp}(hR:SR x.S)(h:Int):Ks x.S (C6 x h).S:=(G2 hR h λc=>D8).ks hR
theorem BO{x:Hp}(hR:SR x.S)(h:Int):Ks x.S (R9 x h).S:=(G2 hR h λc=>P3).ks hR
theorem xc(x:Hp)(h:Int):(R9 x h).Roots=x.Roots/\(R9 x h).a8=x.a8/\(R9 x h).T=x.T/\(R9 x h).Q=x.Q:=xn x h jC
theorem dw{x:Hp}(hR:SR x.S)(r:Nat)(h:Int):Ks x.S (H5 x r h).S:=
 (BS hR h).trans (BO (x:=wR (C6 x h) (x.Roots.set r h)) (gY hR h) _)
theorem yx{x:Hp}(hR:SR x.S){h:Int}(hh:h∈lv x.S){n:Nat}(hn:n<(ob x.S h).Fields.length)(v:Int):Ks x.S (bS x h n v).S:=by
 have k1:=BS hR v;have hh1:h∈lv (C6 x v).S:=by rw[k1.lv];exact hh
 have hof:(ob (C6 x v).S h).Fields=(ob x.S h).Fields:=by
  obtain⟨n,e⟩:=(G2 hR v (f:=W6) λc=>D8).ob h (by have:=I3 hR hh;omega);show (ob (se x v W6).S h).Fields=_;rw[e]
 have ho:xJ (C6 x v).S (oz (ob (C6 x v).S h) ((ob x.S h).Fields.set n v)):=by
  have:=J5 k1.sr hh1;refine⟨this.s1,this.s2,this.st,this.wk,this.p1,this.p2,?_⟩;have h4:=this.fl;rw[hof] at h4;simpa using h4
 have k2:=UK (o:=oz (ob (C6 x v).S h) ((ob x.S h).Fields.set n v)) k1.sr hh1 rfl ho;exact (k1.trans k2).trans (BO (x:=wS (C6 x v) (cK (C6 x v).S h (oz (ob (C6 x v).S h) ((ob x.S h).Fields.set n v)))) k2.sr _)
theorem nc(x:Hp)(h:Int)(n:Nat)(v:Int):(bS x h n v).Roots=x.Roots/\(bS x h n v).a8=x.a8/\(bS x h n v).T=x.T/\(bS x h n v).Q=x.Q:=by
 obtain⟨a,b,c,d⟩:=xc (wS (C6 x v) (cK (C6 x v).S h (oz (ob (C6 x v).S h) ((ob x.S h).Fields.set n v)))) ((ob x.S h).Fields.getD n 0);obtain⟨a',b',c',d'⟩:=nG x v;exact⟨a.trans a',b.trans b',c.trans c',d.trans d'⟩
theorem Dq{x:Hp}(hR:SR x.S)(v:Int)(t:Tb)(old:Int):Ks x.S (jR x v t old).S:=
 (BS hR v).trans (BO (x:=wT (C6 x v) t) (gY hR v) old)
theorem qm(x:Hp)(v:Int)(t:Tb)(old:Int):(jR x v t old).Roots=x.Roots/\(jR x v t old).a8=x.a8/\(jR x v t old).T=t/\(jR x v t old).Q=x.Q:=by
 obtain⟨a,b,c,d⟩:=xc (wT (C6 x v) t) old;obtain⟨a',b',c',d'⟩:=nG x v;exact⟨a.trans a',b.trans b',c,d.trans d'⟩
theorem Ts{s:a7}(hR:SR s){i:Nat}(hi:i<s.S.a8.length)(h2:(ce s i).State=2):Ks s (yD s i):=⟨Ba hR hi,rfl,AY hR hi h2,λh hh=>by rw[AZ hR hi h2 hh]⟩
theorem TO{x:Hp}(hR:SR x.S)(h:Int){d:Int}(hd:Z7 x.S h (D2 h)->0<=(ce x.S (D2 h)).Val.Weak+d):Ks x.S (jO x h d).S:=by
 unfold jO;split
 .rename_i q;exact (lz hR q.1 q.2.1 (hd q)).ks rfl
 .exact Ks.refl hR
theorem LL(x:Hp)(h d:Int):(jO x h d).Roots=x.Roots/\(jO x h d).a8=x.a8/\(jO x h d).T=x.T/\(jO x h d).Q=x.Q:=by
 unfold jO;split <;> exact⟨rfl,rfl,rfl,rfl⟩
theorem JA(x:Hp)(h:Int):(nW x h).Roots=x.Roots/\(nW x h).a8=x.a8/\(nW x h).T=x.T/\(nW x h).Q=x.Q:=by
 unfold nW;split;·split <;> exact⟨rfl,rfl,rfl,rfl⟩
 .exact⟨rfl,rfl,rfl,rfl⟩
theorem Ie{x:Hp}(hR:SR x.S)(h:Int)(hd:Z7 x.S h (D2 h)->1<=(ce x.S (D2 h)).Val.Weak):Ks x.S (nW x h).S:=by
 unfold nW;split
 .rename_i q;have hd:=hd q;have kn:=lz (d:=-1) hR q.1 q.2.1 (by omega);split
  .rename_i c;have hi1:D2 h<(oE x.S (D2 h) (-1)).S.a8.length:=by rw[kn.len];exact q.1
   have hce:ce (oE x.S (D2 h) (-1)) (D2 h)=⟨(ce x.S (D2 h)).State,(ce x.S (D2 h)).Gen,Vt (ce x.S (D2 h)).Val ((ce x.S (D2 h)).Val.Weak + -1)⟩:=by
    rw[fz hR q.1 q.2.1,zb rfl]
   have h2:(ce (oE x.S (D2 h) (-1)) (D2 h)).State=2:=by rw[hce];exact c.1
   exact (kn.ks rfl).trans (Ts kn.sr hi1 h2)
  .exact kn.ks rfl
 .exact Ks.refl hR
theorem Ee{x:Hp}(hx:O4 x){n:Nat}(hn:n<6)(h call:Int):Ks x.S (dP x n h call).S:=by
 have hR:=hx.sh.sr;have hnl:n<x.a8.length:=by have:=hx.sh.c6;omega
 have ok:∀k i,Z7 x.S k i->0<=(ce x.S i).Val.Weak:=λk i q=>(hR.ok i q.1 q.2.1).wk;have tw:∀i,Z7 x.S (sf x n) i->1<=(ce x.S i).Val.Weak:=λi q=>by
  have htg:sf x n=x.a8[n].Target:=by
   unfold sf;rw[zf,zc hnl];rfl
  have r:=q.MI hR;have p:=rA hnl (by rw[<-htg];omega);rw[<-htg,q.2.2] at p;have:=(hx.wk i q.1 q.2.1).1;omega
 unfold dP;have s1:Ks x.S (jO (wC x (x.a8.set n (iZ h call))) h 1).S:=TO (x:=wC x (x.a8.set n (iZ h call))) hR h λq=>by
  have:=ok _ _ q;dsimp only;omega
 by_cases q:Z7 x.S h (D2 h)
 .have e:jO (wC x (x.a8.set n (iZ h call))) h 1=wS (wC x (x.a8.set n (iZ h call))) (oE x.S (D2 h) 1):=by
   unfold jO;rw[zb q]
  have hd:=ok _ _ q;have kn:=lz (d:=1) hR q.1 q.2.1 (by omega);rw[e] at s1 |-;refine s1.trans (Ie (x:=wS (wC x (x.a8.set n (iZ h call))) (oE x.S (D2 h) 1)) kn.sr _ λq2=>?_);dsimp only at q2 |-;have q3:=(kn.ad _ _).1 q2;have:=tw _ q3;rw[fz hR q.1 q.2.1];split
  .rename_i e2;rw[e2] at this;show 1<=(ce x.S (D2 h)).Val.Weak+1;omega
  .exact this
 .have e:jO (wC x (x.a8.set n (iZ h call))) h 1=wC x (x.a8.set n (iZ h call)):=by
   unfold jO;rw[za q]
  rw[e] at s1 |-;exact s1.trans (Ie (x:=wC x (x.a8.set n (iZ h call))) hR _ λq2=>tw _ q2)
theorem xA(x:Hp)(n:Nat)(h call:Int):(dP x n h call).Roots=x.Roots/\(dP x n h call).a8=x.a8.set n (iZ h call)/\(dP x n h call).T=x.T/\(dP x n h call).Q=x.Q:=by
 obtain⟨a,b,c,d⟩:=JA (jO (wC x (x.a8.set n (iZ h call))) h 1) (sf x n);obtain⟨a',b',c',d'⟩:=LL (wC x (x.a8.set n (iZ h call))) h 1;exact⟨a.trans a',b.trans b',c.trans c',d.trans d'⟩
abbrev Xj(s:a7)(n:Nat)(p:Int):p7:=⟨s.Serial+1,0,0,p,false,List.replicate n 0⟩
def eI(s:a7)(i n:Nat)(p:Int):a7:=⟨⟨s.S.a8.set i ⟨1,(ce s i).Gen,Xj s n p⟩,s.S.Last⟩,s.Serial+1⟩
section
variable{s:a7}(hR:SR s){i:Nat}(hi:i<s.S.a8.length)(h0:(ce s i).State=0){n:Nat}(hn:n<=4){p:Int}(hp : -1<=p/\p<=5)
include hR hi h0 hn hp
theorem js:(eI s i n p).S.a8.length=s.S.a8.length:=by simp[eI]
theorem mz(j:Nat):ce (eI s i n p) j=if j=i then ⟨1,(ce s i).Gen,Xj s n p⟩ else ce s j:=jE hi _ _ j
theorem Di:SR (eI s i n p):=by
 have hser:=hR.T7;have hc:=hR.cell i hi;have hnt:¬Th (ce s i):=λh=>by
  rcases h with h | h <;> omega
 refine⟨by rw[js hR hi h0 hn hp];exact hR.len,hR.l0,hR.l9,by show 0<=s.Serial+1;omega,λj hj=>?_,λj hj ht=>?_,λj hj ht=>?_,λj k hj hk a b e=>?_⟩
 .rw[js hR hi h0 hn hp] at hj;rw[mz hR hi h0 hn hp];split;·exact⟨show (0:Int)<=1 by decide,show (1:Int)<=3 by decide,hc.2.2.1,hc.2.2.2⟩
  .exact hR.cell j hj
 .rw[js hR hi h0 hn hp] at hj;rw[mz hR hi h0 hn hp] at ht |-;split at ht;·exact absurd (.inl rfl) ht
  .rename_i e;rw[za e];exact hR.no j hj ht
 .rw[js hR hi h0 hn hp] at hj;rw[mz hR hi h0 hn hp] at ht |-;split at ht
  .rename_i e;rw[zb e];exact⟨by show 1<=s.Serial+1;omega,pi _,pi 0,pi 0,hp.1,hp.2,by simpa using hn⟩
  .rename_i e;rw[za e];have:=hR.ok j hj ht;exact⟨this.s1,by show _<=s.Serial+1;have:=this.s2;omega,this.st,this.wk,this.p1,this.p2,this.fl⟩
 .rw[js hR hi h0 hn hp] at hj hk;rw[mz hR hi h0 hn hp] at a e;rw[mz hR hi h0 hn hp] at b e;have old:∀m,m<s.S.a8.length->Th (ce s m)->(ce s m).Val.Serial≠s.Serial+1:=λm hm t q=>by
   have:=(hR.ok m hm t).s2;omega
  by_cases ej:j=i <;> by_cases ek:k=i
  .rw[ej,ek]
  .rw[za ek] at b e;rw[zb ej] at e;exact absurd e.symm (old k hk b)
  .rw[za ej] at a e;rw[zb ek] at e;exact absurd e (old j hj a)
  .rw[za ej] at a e;rw[za ek] at b e;exact hR.dif j k hj hk a b e
theorem Fh{k:Int}{j:Nat}(q:Z7 s k j):j≠i:=λe=>by
 subst e;rcases q.2.1 with h | h <;> omega
theorem TN{k:Int}{j:Nat}:Z7 (eI s i n p) k j↔Z7 s k j\/(j=i/\k=dF s i):=by
 unfold Z7;rw[js hR hi h0 hn hp,mz hR hi h0 hn hp];by_cases e:j=i
 .rw[zb e];subst e;constructor
  .rintro⟨a,b,c⟩;exact .inr ⟨rfl,c⟩
  .rintro (⟨a,b,c⟩ | ⟨_,c⟩);·exact absurd rfl (Fh hR hi h0 hn hp ⟨a,b,c⟩)
   .exact⟨hi,.inl rfl,c⟩
 .rw[za e];constructor;·exact .inl
  .rintro (h | ⟨h,_⟩);·exact h
   .exact absurd h e
theorem Hg:lv (eI s i n p)=lv s ++ [dF s i]:=by
 have e:=Fg (s:=s) (y5.2 hR) hi (by rw[<-E9 hi];exact h0) (Xj s n p) rfl (de (y5.2 hR));unfold eI;rw[show (ce s i).Gen=s.S.a8[i].Gen by rw[E9 hi]];have e2:dF s i=1+(i:Int)+32*s.S.a8[i].Gen:=by unfold dF;rw[E9 hi]
 rw[e2];have:=de (y5.2 (by have:=Di hR hi h0 hn hp;unfold eI at this;rw[show (ce s i).Gen=s.S.a8[i].Gen by rw[E9 hi]] at this;exact this));rw[e] at this;exact (t8 this).symm
theorem LJ:dF s i∉lv s:=λh=>by
 obtain⟨j,q⟩:=(fF hR).1 h;have:i=j:=by
  have a:=q.2.2;have b:=q.1;unfold dF at a;have:=hR.len;omega
 subst this;have:=q.2.1;omega
theorem yP{k:Int}(hk:k∈lv s):ob (eI s i n p) k=ob s k:=by
 obtain⟨j,q⟩:=(fF hR).1 hk;have hj:=Fh hR hi h0 hn hp q.d;have q2:At (eI s i n p) k j:=by
  refine⟨by rw[js hR hi h0 hn hp];exact q.1,?_,?_⟩ <;> rw[mz hR hi h0 hn hp,za hj]
  .exact q.2.1
  .exact q.2.2
 rw[Q2 (Di hR hi h0 hn hp) q2,Q2 hR q,mz hR hi h0 hn hp,za hj]
theorem te:ob (eI s i n p) (dF s i)=Xj s n p:=by
 have q2:At (eI s i n p) (dF s i) i:=by
  refine⟨by rw[js hR hi h0 hn hp];exact hi,?_,?_⟩ <;> rw[mz hR hi h0 hn hp,zb rfl]
  rfl
 rw[Q2 (Di hR hi h0 hn hp) q2,mz hR hi h0 hn hp,zb rfl]
end
theorem Ib{l:List Int}{h:Int}(e:h∉l):aD l h=0:=Nat.eq_zero_of_not_pos λq=>e (dD.1 q).2
theorem LK{x:Hp}(hx:O4 x){i:Nat}(hi:i<x.S.S.a8.length)(h0:(ce x.S i).State=0){n:Nat}(hn:n<=4){p:Int}(hp : -1<=p/\p<=5):O4 (wS x (eI x.S i n p)):=by
 have hR:=hx.sh.sr;have hS:=Di hR hi h0 hn hp;have hl:=Hg hR hi h0 hn hp;have hnew:=LJ hR hi h0 hn hp;have mem:∀ {k},k∈lv x.S->k∈lv (eI x.S i n p):=λhk=>by rw[hl];exact m7 _ hk
 have mem0:∀ {k},k=0\/k∈lv x.S->k=0\/k∈lv (eI x.S i n p):=λhk=>hk.imp id mem;have hpos:=uV hR hi;have split:∀ {k},k∈lv (eI x.S i n p)->k∈lv x.S\/k=dF x.S i:=λhk=>by
  rw[hl] at hk;rcases zx.1 hk with q | q
  .exact .inl q
  .exact .inr (zG.1 q)
 have rep:∀v∈List.replicate n (0:Int),v=0:=λv hv=>(zbg.1 hv).2;have ntgt:∀j (hj:j<x.a8.length),x.a8[j].Target≠dF x.S i:=λj hj e=>by
  obtain⟨q,hq⟩:=(hx.sh.cl j hj).2.2.2.1 (by rw[e];omega);rw[e] at hq;have:q=i:=by
   have a:=hq.2.2;have b:=hq.1;unfold dF at a;have:=hR.len;omega
  exact Fh hR hi h0 hn hp hq this
 refine⟨⟨hS,hx.sh.hr,hx.sh.r6,hx.sh.c6,hx.sh.cap,hx.sh.q30,λt ht=>?_,hx.sh.td,λh hh=>mem0 (hx.sh.rt h hh),λh hh v hv=>?_,λk v hk=>?_,λj hj=>?_⟩,λj hj ht=>?_,λh hh hs=>?_⟩
 .obtain⟨a,b,c⟩:=hx.sh.tk t ht;refine⟨a,b,c.imp (λ⟨d,e,f⟩=>⟨d,mem e,?_⟩) id⟩;show (ob (eI x.S i n p) t.At).Started=true;rw[yP hR hi h0 hn hp e];exact f
 .rcases split hh with q | q
  .have hv':v∈(ob (eI x.S i n p) h).Fields:=hv;rw[yP hR hi h0 hn hp q] at hv';exact mem0 (hx.sh.fl h q v hv')
  .subst q;have hv':v∈(ob (eI x.S i n p) (dF x.S i)).Fields:=hv;rw[te hR hi h0 hn hp] at hv';exact .inl (rep v hv')
 .obtain⟨a,b⟩:=hx.sh.pr k v hk;exact⟨mem a,mem b⟩
 .obtain⟨a,b,c,d,e⟩:=hx.sh.cl j hj;refine⟨a,b,c,λq=>?_,λq=>⟨mem (e q).1,(e q).2⟩⟩;obtain⟨m,hm⟩:=d q;exact⟨m,(TN hR hi h0 hn hp).2 (.inl hm)⟩
 .have hj':j<x.S.S.a8.length:=by have:j<(eI x.S i n p).S.a8.length:=hj;rwa [js hR hi h0 hn hp] at this
  show (ce (eI x.S i n p) j).Val.Weak=(Cu x.a8 (1+(j:Int)+32*(ce (eI x.S i n p) j).Gen):Int)/\_;have ht':Th (ce (eI x.S i n p) j):=ht;rw[mz hR hi h0 hn hp] at ht' |-;by_cases e:j=i
  .subst e;rw[zb rfl];refine⟨?_,λq=>absurd (show (1:Int)=2 from q) (by decide)⟩;show (0:Int)=(Cu x.a8 (dF x.S j):Int);have:Cu x.a8 (dF x.S j)=0:=by
    unfold Cu;rw[List.countP_eq_zero];intro c hc;obtain⟨m,hm,rfl⟩:=zbc hc;have:=ntgt m hm;simp[this]
   rw[this];rfl
  .rw[za e] at ht' |-;exact hx.wk j hj' ht'
 .have hinn:∀y,jo (eI x.S i n p) y=jo x.S y:=λy=>by
   unfold jo;rw[hl,zad,List.sum_append];have e1:(lv x.S).map (λk=>aD (outs (eI x.S i n p) k) y)=(lv x.S).map λk=>aD (outs x.S k) y:=zP λk hk=>by
    unfold outs;rw[yP hR hi h0 hn hp hk]
   rw[e1];have e2:outs (eI x.S i n p) (dF x.S i) = []:=by
    refine za0.2 λv hv=>?_;have h1:=lC.1 hv;rw[te hR hi h0 hn hp] at h1;exact h1.2 (rep v h1.1)
   simp[e2,R6]
  have hnm:∀y,pe (wS x (eI x.S i n p)) y=pe x y:=λy=>by
   unfold pe;show jo (eI x.S i n p) y+own x.T y+aD (pf x) y=_;rw[hinn]
  rw[hnm];have hs':(ob (eI x.S i n p) h).Strong<12:=hs;show (ob (eI x.S i n p) h).Strong=_;rcases split hh with q | q
  .rw[yP hR hi h0 hn hp q] at hs' |-;exact hx.fair h q hs'
  .subst q;rw[te hR hi h0 hn hp];have h1:pe x (dF x.S i)=0:=by
    unfold pe;have a1:jo x.S (dF x.S i)=0:=by
     unfold jo;have:=FT (λk=>aD (outs x.S k) (dF x.S i)) 0 (lv x.S) λk hk=>Nat.le_of_eq<|Ib λq=>by
      have q2:=lC.1 q;rcases hx.sh.fl k hk _ q2.1 with e | e
      .exact q2.2 e
      .exact hnew e
     omega
    have a2:own x.T (dF x.S i)=0:=by
     unfold own;rw[List.countP_eq_zero];intro c hc;have:=(hx.sh.pr _ _ (iR.1 hc)).2;have hne:c.Val≠dF x.S i:=λe=>hnew (e▸this);simp[hne]
    have a3:aD (pf x) (dF x.S i)=0:=Ib λq=>by
     unfold pf at q;rcases zx.1 q with q | q
     .have q2:=lC.1 q;rcases hx.sh.rt _ q2.1 with e | e
      .exact q2.2 e
      .exact hnew e
     .obtain⟨t,ht,k1,k2⟩:=rz.1 q;rcases (hx.sh.tk t ht).2.2 with ⟨_,b,_⟩ | ⟨b,_⟩;·exact hnew (k2▸b)
      .omega
    omega
   rw[h1,R6];rfl
structure Ev (x y:Hp):Prop where
 lv:∀h∈lv y.S,(h∈Sh.lv x.S/\(ob y.S h).Serial=(ob x.S h).Serial)\/(h∉Sh.lv x.S/\(ob y.S h).Serial=x.S.Serial+1)
 s1:x.S.Serial<=y.S.Serial
 s2:y.S.Serial<=x.S.Serial+1
theorem Ev.refl(x:Hp):Ev x x:=⟨λh hh=>.inl ⟨hh,rfl⟩,by omega,by omega⟩
theorem Ks.ev{x y:Hp}(k:Ks x.S y.S):Ev x y:=⟨λh hh=>by
 rw[k.lv] at hh;exact .inl ⟨hh,k.ob h hh⟩,by rw[k.T7];omega,by rw[k.T7];omega⟩
theorem Ev.ks{x y z:Hp}(e:Ev x y)(k:Ks y.S z.S):Ev x z:=⟨λh hh=>by
 rw[k.lv] at hh;rw[k.ob h hh];exact e.lv h hh,by rw[k.T7];exact e.s1,by rw[k.T7];exact e.s2⟩
theorem Ev.Yr{x y z:Hp}(e:Ev x y)(s:Cz y z):Ev x z:=⟨λh hh=>by
 rw[(s.ob h hh).1];exact e.lv h (s.lv h hh),by rw[s.T7];exact e.s1,by rw[s.T7];exact e.s2⟩
theorem Wm{x:Hp}(hx:O4 x){i:Nat}(hi:i<x.S.S.a8.length)(h0:(ce x.S i).State=0){n:Nat}(hn:n<=4){p:Int}(hp : -1<=p/\p<=5):Ev x (wS x (eI x.S i n p)):=⟨λh hh=>by
 have hR:=hx.sh.sr;have hh':h∈lv (eI x.S i n p):=hh;show (_/\(ob (eI x.S i n p) h).Serial=_)\/_/\(ob (eI x.S i n p) h).Serial=_;rw[Hg hR hi h0 hn hp] at hh';rcases zx.1 hh' with q | q
 .exact .inl ⟨q,by rw[yP hR hi h0 hn hp q]⟩
 .rw[zG.1 q];exact .inr ⟨LJ hR hi h0 hn hp,by rw[te hR hi h0 hn hp]⟩,by show _<=x.S.Serial+1;omega,pi _⟩
def Cw(x y:Hp)(w:Int):Prop:=∀i:Nat,(i:Int)≠w->(y.a8.getD i cz).Target=(x.a8.getD i cz).Target/\((y.a8.getD i cz).Intact=true->(x.a8.getD i cz).Intact=true)
theorem Cw.refl(x:Hp)(w:Int):Cw x x w:=λi _=>⟨rfl,id⟩
theorem Cw.same{x y:Hp}(h:y.a8=x.a8)(w:Int):Cw x y w:=λi _=>by rw[h];exact⟨rfl,id⟩
theorem Cw.trans{x y z:Hp}{w:Int}(a:Cw x y w)(b:Cw y z w):Cw x z w:=λi hi=>⟨(b i hi).1.trans (a i hi).1,λq=>(a i hi).2 ((b i hi).2 q)⟩
theorem Cz.cw{x y:Hp}(s:Cz x y)(w:Int):Cw x y w:=λi _=>by
 by_cases h:i<x.a8.length
 .have h':i<y.a8.length:=by rw[s.cn];exact h
  rw[GP h,GP h',s.cl i h' h];exact⟨rfl,λq=>(zl _ _▸q).1⟩
 .have h':¬i<y.a8.length:=by rw[s.cn];exact h
  rw[zf,zf,so (by omega),so (by omega)];exact⟨rfl,id⟩
theorem Cw.set{x y:Hp}{w:Nat}{c:k7}(h:y.a8=x.a8.set w c):Cw x y w:=λi hi=>by
 rw[h,zf,zf,zbr (by omega)];exact⟨rfl,id⟩
def Vx(s:a7)(i:Nat):Prop:=i<s.S.a8.length/\(ce s i).State=0/\∀j,j<i->(ce s j).State≠0
theorem Wh{s:a7}(hR:SR s)(hb:s.Serial<9223372036854775807)(a p:Int) :
  (¬(0<=a/\a<=4)/\O2 s a p=some (s,0,1)) \/
  ((0<=a/\a<=4)/\¬(-1<=p/\p<=5)/\O2 s a p=some (s,0,13)) \/
  ((0<=a/\a<=4)/\(-1<=p/\p<=5)/\(∀i,i<s.S.a8.length->(ce s i).State≠0)/\O2 s a p=some (s,0,4)) \/
  ((0<=a/\a<=4)/\(-1<=p/\p<=5)/\∃i,Vx s i/\O2 s a p=some (eI s i a.toNat p,dF s i,0)):=by
 have hs':=hR.T7;have hR':=y5.2 hR;unfold O2 su;by_cases ha:0<=a/\a<=4
 .right;obtain⟨ha1,ha2⟩:=ha;obtain⟨n,rfl⟩:∃n:Nat,a=n:=⟨a.toNat,by omega⟩;rw[za (by simp;omega),jN (by omega) (by omega)];simp only[Ys];by_cases hp : -1<=p/\p<=5
  .right;unfold U1;simp only[Ys];have e1:(decide (p >= -1)&&decide (p<6))=true:=by simp;omega
   rw[e1];have hl:Ye s.S:=⟨jv hR',hR'.l0,hR'.l9,λi hi=>BQ hR' i hi⟩;rcases Ce hl ⟨s.Serial+1,0,0,p,false,List.replicate n 0⟩ with ⟨i,hi,h0,hf,e⟩ | ⟨hf,e⟩
   .right;refine⟨⟨ha1,ha2⟩,hp,i,⟨hi,by rw[E9 hi];exact h0,λj hj=>by rw[E9 (by omega)];exact hf j hj⟩,?_⟩;simp only[zaw,zm,zZ,Bool.not_true];rw[show z8 (s.Serial+1)=s.Serial+1 from F9 (by omega) (by omega),e];unfold eI dF;rw[E9 hi];simp
   .left;refine⟨⟨ha1,ha2⟩,hp,λi hi=>by rw[E9 hi];exact hf i hi,?_⟩;simp only[zaw,zm,zZ,Bool.not_true];rw[show z8 (s.Serial+1)=s.Serial+1 from F9 (by omega) (by omega),e];simp
  .left;refine⟨⟨ha1,ha2⟩,hp,?_⟩;unfold U1;simp only[Ys];have e1:(decide (p >= -1)&&decide (p<6))=false:=by rw[zba];simp;omega
   rw[e1];simp
 .left;refine⟨ha,?_⟩;rw[zb (by simp;omega)];simp
def sd(x:Hp)(r:Int):Int:=if r<0 then 0 else x.Roots.getD r.toNat 0
def uP(x:Hp)(r:Int):Int × Int:=if sd x r=0 then (0,2) else (sd x r,0)
def T7(x:Hp)(h:Int):Int:=(ob x.S h).Serial
theorem yE{n l m e:Int}(he:e≠0)(h:L7 n l m e=0):l<=n/\n<=m:=by
 unfold L7 at h;split at h;·exact absurd h he
 .omega
theorem ES{a b c:Int}(h:az a b c=0):a=0/\b=0/\c=0:=by
 unfold az at h;split at h;·contradiction
 .split at h;·contradiction
  .omega
theorem Bi{k a b c:Int}(h:A8 k a b c=0):1<=k/\k<=12:=by
 refine Decidable.byContradiction λq=>?_;have:A8 k a b c=14:=by
  unfold A8;repeat rw[za (by omega)]
 omega
theorem Xt{a b c:Int}(h:A8 1 a b c=0):(0<=a/\a<=5)/\(0<=b/\b<=4) /\ -1<=c/\c<=5:=by
 obtain⟨h1,h2,h3⟩:=ES (show az (L7 a 0 5 6) (L7 b 0 4 1) (L7 c (-1) 5 13)=0 from h);exact⟨yE (by decide) h1,yE (by decide) h2,yE (by decide) h3⟩
theorem SN{a b c:Int}(h:A8 2 a b c=0):(0<=a/\a<=5)/\(0<=b/\b<=5):=by
 obtain⟨h1,h2,_⟩:=ES (show az (L7 a 0 5 6) (L7 b 0 5 6) 0=0 from h);exact⟨yE (by decide) h1,yE (by decide) h2⟩
theorem Xu{a b c:Int}(h:A8 3 a b c=0):0<=a/\a<=5:=yE (by decide) (show L7 a 0 5 6=0 from h)
theorem Xv{a b c:Int}(h:A8 4 a b c=0):(0<=a/\a<=5)/\(0<=b/\b<=5)/\0<=c/\c<=3:=by
 obtain⟨h1,h2,h3⟩:=ES (show az (L7 a 0 5 6) (L7 b 0 5 6) (L7 c 0 3 5)=0 from h);exact⟨yE (by decide) h1,yE (by decide) h2,yE (by decide) h3⟩
theorem Xw{a b c:Int}(h:A8 5 a b c=0):(0<=a/\a<=5)/\(0<=b/\b<=3) /\ -1<=c/\c<=5:=by
 obtain⟨h1,h2,h3⟩:=ES (show az (L7 a 0 5 6) (L7 b 0 3 5) (L7 c (-1) 5 6)=0 from h);exact⟨yE (by decide) h1,yE (by decide) h2,yE (by decide) h3⟩
theorem Xx{a b c:Int}(h:A8 6 a b c=0):(0<=a/\a<=5)/\(-1<=b/\b<=5) /\ -1<=c/\c<=5:=by
 obtain⟨h1,h2,h3⟩:=ES (show az (L7 a 0 5 7) (L7 b (-1) 5 6) (L7 c (-1) 5 13)=0 from h);exact⟨yE (by decide) h1,yE (by decide) h2,yE (by decide) h3⟩
theorem Xy{a b c:Int}(h:A8 7 a b c=0):(0<=a/\a<=5)/\(0<=b/\b<=5):=by
 obtain⟨h1,h2,_⟩:=ES (show az (L7 a 0 5 6) (L7 b 0 5 7) 0=0 from h);exact⟨yE (by decide) h1,yE (by decide) h2⟩
theorem Xz{a b c:Int}(h:A8 8 a b c=0):(0<=a/\a<=5)/\(-1<=b/\b<=5):=by
 obtain⟨h1,h2,_⟩:=ES (show az (L7 a 0 5 6) (L7 b (-1) 5 6) 0=0 from h);exact⟨yE (by decide) h1,yE (by decide) h2⟩
theorem XA{a b c:Int}(h:A8 9 a b c=0):(0<=a/\a<=5)/\(0<=b/\b<=5):=SN (show A8 2 a b c=0 from h)
theorem VF{a b c:Int}(h:A8 10 a b c=0):(0<=a/\a<=5)/\(0<=b/\b<=5):=SN (show A8 2 a b c=0 from h)
section
variable{x:Hp}(hx:mH x)
include hx
theorem uf{r:Int}(h:0<=r/\r<=5):ix x.Roots r=some (sd x r):=by
 have:=hx.r6;obtain⟨n,rfl⟩:∃n:Nat,r=n:=⟨r.toNat,by omega⟩;have hn:n<x.Roots.length:=by omega
 rw[u7 hn];unfold sd;rw[za (by omega),zW,zf,zc hn];rfl
theorem xi{r:Int}(h:¬(0<=r/\r<=5)):sd x r=0:=by
 have:=hx.r6;unfold sd;split;·rfl
 .rw[zf,so (by omega)];rfl
theorem pQ(r:Int):sd x r=0\/sd x r∈lv x.S:=by
 by_cases h:0<=r/\r<=5
 .have e:=uf hx h;unfold ix at e;rw[zb h.1] at e;exact hx.rt _ (zg e)
 .exact .inl (xi hx h)
theorem ug(r:Int):sd x r<=9223372036854775807:=by
 rcases pQ hx r with h | h
 .omega
 .have:=I3 hx.sr h;omega
theorem lT(r:Int):L9 x r=some (sd x r):=by
 have h6:=hx.r6;unfold L9;by_cases h:0<=r/\r<=5
 .rw[za (by simp;omega),uf hx h];rfl
 .rw[zb (by simp;omega),xi hx h]
theorem MS{r:Int}(h:r<=5):jY (hO x) r=some (sd x r):=by
 unfold jY;by_cases q:r<0
 .rw[zb (by simpa using q),xi hx (by omega)]
 .rw[za (by simpa using q),show (hO x).Roots=x.Roots from rfl,uf hx (by omega)];rfl
theorem jP(r:Int):M7 x r=some (uP x r):=by
 unfold M7 uP;rw[lT hx,Ys];by_cases h:sd x r=0
 .rw[zb (by simpa using h),zb h]
 .rw[za (by simpa using h),za h]
theorem qE{r:Int}(h:0<=r/\r<=5):ae (hO x) r=some (uP x r):=by
 unfold ae uP;rw[show (hO x).Roots=x.Roots from rfl,uf hx h,Ys];by_cases h:sd x r=0
 .rw[zb (by simpa using h),zb h]
 .rw[za (by simpa using h),za h]
theorem MW{h:Int}(hh:h<=9223372036854775807):aL x h=some (T7 x h):=by
 obtain⟨e,h1,_⟩:=aH (y5.2 hx.sr) hh;unfold aL;rw[h1];rfl
theorem RS{h:Int}(hh:h<=9223372036854775807):gS (hO x) h=some (T7 x h):=by
 obtain⟨e,h1,_⟩:=aH (y5.2 hx.sr) hh;unfold gS;rw[show (hO x).S=sO x.S from rfl,qW x.S (by have:=hx.sr.len;omega) hh,h1];rfl
theorem CC(r:Int):aK x r=some (T7 x (sd x r)):=by
 unfold aK;rw[lT hx,Ys,MW hx (ug hx r)];rfl
theorem DL:T7 x 0=0:=by
 unfold T7;rw[pH (y5.2 hx.sr) (by omega) (pd hx.sr)]
theorem VE(r:Int):tx (hO x) r=some (T7 x (sd x r)):=by
 unfold tx;by_cases h:0<=r/\r<=5
 .rw[za (by simp;omega),show (hO x).Roots=x.Roots from rfl,uf hx h,Ys,RS hx (ug hx r)];rfl
 .rw[zb (by simp;omega),xi hx h,DL hx]
end
theorem UM{x z:Hp}(hx:mH x)(k:Ks x.S z.S){h:Int}(hh:h=0\/h∈lv x.S):T7 z h=T7 x h:=by
 rcases hh with e | e
 .subst e;unfold T7;rw[pH (y5.2 hx.sr) (by omega) (pd hx.sr),pH (y5.2 k.sr) (by omega) (pd k.sr)]
 .exact k.ob h e
theorem QG{x z:Hp}(h:z.Roots=x.Roots)(r:Int):sd z r=sd x r:=by unfold sd;rw[h]
noncomputable def xN(x:Hp)(o:c9)(v:Hp × Int):Option (Hp × Int × Int):=
 if (v.2 != 0) then some (x,0,v.2) else (P7 v.1).bind λv5=>(W7 v.1 v5 o).bind λv6=>some (v5,v6,0)
theorem pA{x:Hp}{o:c9}{n:Option Nat}(hc:A8 o.Kind o.A o.B o.C=0)(hk:∃l,eH=some l/\z6 l o.Kind=some n):x8 x o=(uU n ⟨x,o⟩).bind (xN x o):=by
 obtain⟨l,h1,h2⟩:=hk;unfold x8;rw[mV,hc,Ys,za (by simp),h1,Ys,h2,za (by simp)];rfl
theorem EJ{x:Hp}{o:c9}(hc:A8 o.Kind o.A o.B o.C≠0):x8 x o=some (x,0,A8 o.Kind o.A o.B o.C)/\D9 (hO x) ⟨o.Kind,o.A,o.B,o.C⟩=some (hO x,0,A8 o.Kind o.A o.B o.C):=by
 constructor
 .unfold x8;rw[mV,Ys,zb (by simpa using hc)]
 .unfold D9;rw[iD,Ys,zb (by simpa using hc)]
section
variable{x:Hp}{a b c:Int}
theorem XE(hc:A8 1 a b c=0):x8 x ⟨1,a,b,c⟩=(V2 ⟨x,⟨1,a,b,c⟩⟩).bind (xN x ⟨1,a,b,c⟩):=pA (o:=⟨1,a,b,c⟩) (n:=some 97) hc ⟨_,rfl,rfl⟩
theorem XF(hc:A8 2 a b c=0):x8 x ⟨2,a,b,c⟩=(I4 ⟨x,⟨2,a,b,c⟩⟩).bind (xN x ⟨2,a,b,c⟩):=pA (o:=⟨2,a,b,c⟩) (n:=some 98) hc ⟨_,rfl,rfl⟩
theorem XG(hc:A8 3 a b c=0):x8 x ⟨3,a,b,c⟩=(aA ⟨x,⟨3,a,b,c⟩⟩).bind (xN x ⟨3,a,b,c⟩):=pA (o:=⟨3,a,b,c⟩) (n:=some 99) hc ⟨_,rfl,rfl⟩
theorem XH(hc:A8 4 a b c=0):x8 x ⟨4,a,b,c⟩=(aB ⟨x,⟨4,a,b,c⟩⟩).bind (xN x ⟨4,a,b,c⟩):=pA (o:=⟨4,a,b,c⟩) (n:=some 100) hc ⟨_,rfl,rfl⟩
theorem XI(hc:A8 5 a b c=0):x8 x ⟨5,a,b,c⟩=(Y4 ⟨x,⟨5,a,b,c⟩⟩).bind (xN x ⟨5,a,b,c⟩):=pA (o:=⟨5,a,b,c⟩) (n:=some 101) hc ⟨_,rfl,rfl⟩
theorem XJ(hc:A8 6 a b c=0):x8 x ⟨6,a,b,c⟩=(V3 ⟨x,⟨6,a,b,c⟩⟩).bind (xN x ⟨6,a,b,c⟩):=pA (o:=⟨6,a,b,c⟩) (n:=some 102) hc ⟨_,rfl,rfl⟩
theorem XK(hc:A8 7 a b c=0):x8 x ⟨7,a,b,c⟩=(Z5 ⟨x,⟨7,a,b,c⟩⟩).bind (xN x ⟨7,a,b,c⟩):=pA (o:=⟨7,a,b,c⟩) (n:=some 103) hc ⟨_,rfl,rfl⟩
theorem XL(hc:A8 8 a b c=0):x8 x ⟨8,a,b,c⟩=(aC ⟨x,⟨8,a,b,c⟩⟩).bind (xN x ⟨8,a,b,c⟩):=pA (o:=⟨8,a,b,c⟩) (n:=some 104) hc ⟨_,rfl,rfl⟩
theorem XM(hc:A8 9 a b c=0):x8 x ⟨9,a,b,c⟩=(bc ⟨x,⟨9,a,b,c⟩⟩).bind (xN x ⟨9,a,b,c⟩):=pA (o:=⟨9,a,b,c⟩) (n:=some 105) hc ⟨_,rfl,rfl⟩
theorem VJ(hc:A8 10 a b c=0):x8 x ⟨10,a,b,c⟩=(Q7 ⟨x,⟨10,a,b,c⟩⟩).bind (xN x ⟨10,a,b,c⟩):=pA (o:=⟨10,a,b,c⟩) (n:=some 106) hc ⟨_,rfl,rfl⟩
theorem sJ{k:Int}(hk:k=11\/k=12)(hc:A8 k a b c=0):x8 x ⟨k,a,b,c⟩=some (x,0,14)/\D9 (hO x) ⟨k,a,b,c⟩=some (hO x,0,14):=by
 constructor
 .unfold x8;rw[mV,hc,Ys,za (by simp)];rcases hk with rfl | rfl <;> rfl
 .unfold D9 ab;rw[iD,hc,Ys,za (by simp)];rcases hk with rfl | rfl <;> rfl
variable{y:o7}
def rT(y:o7)(a:Int)(v:Int × Int):Option (o7 × Int × Int):=
 if (v.2 != 0) then some (y,0,v.2) else (gP y a v.1).bind λv15=>(aO v15.1).bind λv16=>(tx v16 a).bind λv17=>some (v16,v17,0)
def rO(y:o7)(v:o7 × Int × Int):Option (o7 × Int × Int):=
 if (v.2.2 != 0) then some (y,0,v.2.2) else (aO v.1).bind λv8=>(gS y v.2.1).bind λv9=>some (v8,v9,0)
theorem HH{k:Int}(hk:k=2\/k=3\/k=4\/k=7\/k=9)(hc:A8 k a b c=0):D9 y ⟨k,a,b,c⟩=(ed y ⟨k,a,b,c⟩).bind (rT y a):=by
 unfold D9 ab;rw[iD,hc,Ys,za (by simp)];rcases hk with rfl | rfl | rfl | rfl | rfl <;> rfl
theorem HG{k:Int}(hk:k=5\/k=6\/k=8)(hc:A8 k a b c=0):D9 y ⟨k,a,b,c⟩=(cE y ⟨k,a,b,c⟩).bind (rO y):=by
 unfold D9 ab;rw[iD,hc,Ys,za (by simp)];rcases hk with rfl | rfl | rfl <;> rfl
theorem WL(hc:A8 1 a b c=0):D9 y ⟨1,a,b,c⟩=(fg y.S b c).bind λv10=>if (v10.2.2 != 0) then some (y,0,v10.2.2) else (gP ⟨v10.1,y.Roots,y.a8,y.T,y.Q⟩ a v10.2.1).bind λv11=>(aO v11.1).bind λv12=>(tx v12 a).bind λv13=>some (v12,v13,0):=by
 unfold D9 ab;rw[iD,hc,Ys,za (by simp)];rfl
theorem UE(hc:A8 10 a b c=0):D9 y ⟨10,a,b,c⟩=(ix y.Roots a).bind λv3=>(ix y.Roots b).bind λv4=>if (v3==v4) then some (y,1,0) else some (y,0,0):=by
 unfold D9 ab;rw[iD,hc,Ys,za (by simp)];rfl
end
section
variable{s:a7}(hR:SR s){i:Nat}(hi:i<s.S.a8.length)
include hR hi
theorem Vd(st g:Int):bZ (sO s) ⟨(pl (sO s)).a8.set i ⟨st,g,0⟩,(pl (sO s)).Last⟩=some ⟨(sO s).a8.set i ⟨st,g,oo (ce s i).Val⟩,s.S.Last,s.Serial⟩:=by
 have hlen:=hR.len;have S9:i<(pl (sO s)).a8.length:=by rw[bX,C1];exact hi
 rw[xt _ _ (by rw[C1];omega) (by simp[bX])];congr 1;congr 1;refine zbi (by simp) λk h1 h2=>?_;have hk:k<s.S.a8.length:=by simpa[C1] using h1
 have hk2:k<(sO s).a8.length:=by rw[C1];exact hk
 have hk3:k<(pl (sO s)).a8.length:=by rw[bX];exact hk2
 simp only[t7,List.getElem_range,zb0];have e1:(sO s).a8.getD k ⟨0,0,oo z0⟩=cO (ce s k):=by
  rw[zf,zc hk2,E9 hk];simp[sO]
 have e2:((pl (sO s)).a8.set i ⟨st,g,0⟩).getD k ⟨0,0,0⟩=if k=i then ⟨st,g,0⟩ else xY k (cO (ce s k)):=by
  rw[jE S9];split;·rfl
  .rw[zf,zc hk3,E9 hk];simp[pl,sO]
 rw[e1,e2];by_cases e:k=i
 .subst e;rw[zb rfl,zb rfl];rfl
 .rw[za e,za (zan e)];rw[E9 hk];simp[sO,xY,cO]
theorem Ve(st g:Int)(o:R5):fh ⟨(sO s).a8.set i ⟨st,g,oo (ce s i).Val⟩,s.S.Last,s.Serial⟩ (i:Int) o=some ⟨(sO s).a8.set i ⟨st,g,o⟩,s.S.Last,s.Serial⟩:=by
 have hlen:=hR.len;unfold fh;have hi2:i<((sO s).a8.set i ⟨st,g,oo (ce s i).Val⟩).length:=by simp[C1];exact hi
 rw[V0 (by omega) (by simp[C1];omega),Ys,u7 hi2,Ys];simp[zcc]
theorem Mt:∃h:i<(pl (sO s)).a8.length,(pl (sO s)).a8[i]=⟨(ce s i).State,(ce s i).Gen,(i:Int)⟩:=by
 have S9:i<(pl (sO s)).a8.length:=by rw[bX,C1];exact hi
 refine⟨S9,?_⟩;rw[E9 hi];simp[pl,sO,xY,cO]
end
theorem UY{s:a7}(hR:SR s):(∀i,i<s.S.a8.length->(ce s i).State≠0)->ny (pl (sO s)) 0=some (pl (sO s),0,4):=λhf=>by
 have hlen:=hR.len;have el:(pl (sO s)).a8.length=s.S.a8.length:=by rw[bX,C1]
 unfold ny;simp only[jn];refine dX (pl (sO s)).a8.length (λk=>True) (by omega) trivial (λk hk _=>?_) (λhP=>⟨.inr (),by simp,rfl⟩);refine .inl ⟨?_,trivial⟩;obtain⟨h1,h2⟩:=Mt hR (show k<s.S.a8.length by omega);have:=hf k (by omega);simp only[zQ,hk,zV,zT,u7 hk,Ys];rw[h2,za (by simpa using this),p8]
theorem QN{s:a7}(hR:SR s){i:Nat}(hF:Vx s i):ny (pl (sO s)) 0=some (⟨(pl (sO s)).a8.set i ⟨1,(ce s i).Gen,0⟩,(pl (sO s)).Last⟩,dF s i,0):=by
 have hlen:=hR.len;have el:(pl (sO s)).a8.length=s.S.a8.length:=by rw[bX,C1]
 obtain⟨hi,h0,hmin⟩:=hF;have hc:=hR.cell i hi;have l9:=hR.l9;unfold ny;simp only[jn];refine dX (pl (sO s)).a8.length (λk=>k<=i) (by omega) (by omega) (λk hk hP=>?_) (λhP=>by omega);obtain⟨h1,h2⟩:=Mt hR (show k<s.S.a8.length by omega);rcases zB k i with g | g
 .refine .inl ⟨?_,g⟩;have:=hmin k g;simp only[zQ,hk,zV,zT,u7 hk,Ys];rw[h2,za (by simpa using this),p8]
 .have:k=i:=by omega
  subst this;refine .inr ⟨.inl _,?_,rfl⟩;simp only[zQ,hk,zV,zT,u7 hk,Ys];rw[h2,zb (by simpa using h0)];have w3:∀c:O7,bE (pl (sO s)) (k:Int) c=some ⟨(pl (sO s)).a8.set k c,(pl (sO s)).Last⟩:=λc=>by
   unfold bE;rw[V0 (by omega) (by omega),Ys,u7 hk,Ys,zW]
  rw[w3,Ys,nv,zb (by dsimp only;omega),Ys];rfl
theorem Wi{s:a7}(hR:SR s)(hb:s.Serial<9223372036854775807)(a p:Int) :
  (∃e,e≠0/\O2 s a p=some (s,0,e)/\fg (sO s) a p=some (sO s,0,e)) \/
  ((0<=a/\a<=4)/\(-1<=p/\p<=5)/\∃i,Vx s i/\O2 s a p=some (eI s i a.toNat p,dF s i,0)/\fg (sO s) a p=some (sO (eI s i a.toNat p),dF s i,0)):=by
 have hser:=hR.T7;have hlen:=hR.len;have r1:∀n:Nat,n<=4->vh (n:Int)=some (List.replicate n 0,0):=λn hn=>by
  unfold vh;rw[za (by simp;omega),jN (by omega) (by omega)];rfl
 rcases Wh hR hb a p with ⟨h1,e⟩ | ⟨h1,h2,e⟩ | ⟨h1,h2,h3,e⟩ | ⟨h1,h2,i,h3,e⟩
 .refine .inl ⟨1,by decide,e,?_⟩;unfold fg vh;rw[zb (by simp;omega)];rfl
 .refine .inl ⟨13,by decide,e,?_⟩;obtain⟨n,rfl⟩:∃n:Nat,a=n:=⟨a.toNat,by omega⟩;unfold fg;rw[r1 n (by omega),Ys,za (by simp),zb (by simp;omega)]
 .refine .inl ⟨4,by decide,e,?_⟩;obtain⟨n,rfl⟩:∃n:Nat,a=n:=⟨a.toNat,by omega⟩;unfold fg;rw[r1 n (by omega),Ys,za (by simp),za (by simp;omega),iT _ (by rw[C1];omega),Ys,UY hR h3,Ys,zb (by simp)]
 .refine .inr ⟨h1,h2,i,h3,e,?_⟩;obtain⟨n,rfl⟩:∃n:Nat,a=n:=⟨a.toNat,by omega⟩;have hi:=h3.1;have hc:=hR.cell i hi;have l9:=hR.l9;unfold fg;rw[r1 n (by omega),Ys,za (by simp),za (by simp;omega),iT _ (by rw[C1];omega),Ys,QN hR h3,Ys,za (by simp),Vd hR hi,Ys,nx,zb (by unfold pn dF;dsimp only;omega),Ys,
   show (dF s i-1) % 32=(i:Int) by unfold dF;omega,Ve hR hi,Ys,F9 (by show _<=s.Serial+1;omega) (by show s.Serial+1<=_;omega)]
  unfold eI;rw[zW];simp only[sO,zbv];rfl
abbrev RN(o:c9):au:=⟨o.Kind,o.A,o.B,o.C⟩
structure Dn (x:Hp) (o:c9) (z:Hp) (v:Int):Prop where
 rt:O4 z
 sl:SL z
 ev:Ev x z
 cw:Cw x z (if o.Kind=6 then o.A else -1)
 mc:x8 x o=some (dx z,v,0)
 rf:D9 (hO x) (RN o)=some (hO (dx z),v,0)
def Er(x:Hp)(o:c9)(e:Int):Prop:=e≠0/\x8 x o=some (x,0,e)/\D9 (hO x) (RN o)=some (hO x,0,e)
theorem Wn{x:Hp}(hx:O4 x)(hS:SL x){i:Nat}(hi:i<x.S.S.a8.length)(h0:(ce x.S i).State=0){n:Nat}(hn:n<=4){p:Int}(hp : -1<=p/\p<=5):SL (wS x (eI x.S i n p)):=λk hk=>by
 have hR:=hx.sh.sr;have hk':k∈lv (eI x.S i n p):=hk;show (ob (eI x.S i n p) k).Strong<=_;rw[Hg hR hi h0 hn hp] at hk';rcases zx.1 hk' with q | q
 .rw[yP hR hi h0 hn hp q];exact hS k q
 .rw[zG.1 q,te hR hi h0 hn hp];show (0:Int)<=_;decide
theorem oP{y:Hp}(hy:O4 y){a:Int}(ha:0<=a/\a<=5){h:Int}(hh:h=0\/h∈lv y.S):sd (dx (H5 y a.toNat h)) a=h/\T7 (dx (H5 y a.toNat h)) h=T7 y h:=by
 have hz:=cG hy (r:=a.toNat) (by omega) hh;have st:=nM hz;have w:=en hz;have e1:(dx (H5 y a.toNat h)).Roots=y.Roots.set a.toNat h:=st.rt.trans (gX y a.toNat h).1;have h6:=hy.sh.r6;have e2:sd (dx (H5 y a.toNat h)) a=h:=by
  unfold sd;rw[za (by omega),e1,zf,my (by omega)];rfl
 refine⟨e2,?_⟩;have k:=dw hy.sh.sr a.toNat h;rcases pQ w.sh a with q | q
 .rw[e2] at q;subst q;rw[DL w.sh,DL hy.sh]
 .rw[e2] at q;have h1:=(st.ob h q).1;have h2:=st.lv h q;rw[k.lv] at h2;exact h1.trans (k.ob h h2)
section
variable{x:Hp}{a b c:Int}
theorem ml{o:c9}{y:Hp}{e:Int}(he:e≠0):xN x o (y,e)=some (x,0,e):=by
 unfold xN;rw[zb (by simpa using he)]
theorem Rn{z:Hp}(hz:O4 z)(hS:SL z){k:Int}(hk:k≠5/\k≠6/\k≠8/\k≠10):xN x ⟨k,a,b,c⟩ (z,0)=some (dx z,T7 (dx z) (sd (dx z) a),0):=by
 unfold xN W7;rw[za (by simp),gn hz hS,Ys];simp only[jn];rw[za (by simp;omega),za (by simp;omega)];have:(k==8)=false:=by simp;omega
 rw[this,za (by simp),za (by simp;omega),CC (en hz).sh];rfl
theorem FV{o:c9}{v e:Int}(he:e≠0):B6 ⟨x,o⟩ v e=some (x,e):=by
 unfold B6;rw[zb (by simpa using he)]
theorem Mz{y:o7}{v e:Int}(he:e≠0):rT y a (v,e)=some (y,0,e):=by
 unfold rT;rw[zb (by simpa using he)]
theorem Jh{y z:o7}{v e:Int}(he:e≠0):rO y (z,v,e)=some (y,0,e):=by
 unfold rO;rw[zb (by simpa using he)]
variable(hx:O4 x)(hS:SL x)
include hx hS
theorem oW{k:Int}(ha:0<=a/\a<=5){h:Int}(hh:h=0\/h∈lv x.S):B6 ⟨x,⟨k,a,b,c⟩⟩ h 0=some (H5 x a.toNat h,0):=by
 unfold B6;rw[za (by simp),HL hx hS a (rp hx hS hh),za (by omega),zb hh];rfl
theorem WJ(ha:0<=a/\a<=5){h:Int}(hh:h=0\/h∈lv x.S):rT (hO x) a (h,0)=some (hO (dx (H5 x a.toNat h)),T7 x h,0):=by
 have hz:=cG hx (r:=a.toNat) (by omega) hh;have zS:=ke hx.sh.sr hS a.toNat h;obtain⟨e1,e2⟩:=oP hx ha hh;unfold rT;rw[za (by simp),MJ hx hS a (rp hx hS hh),za (by omega),zb hh,Ys,xk hz zS,Ys,VE (en hz).sh,e1,e2];rfl
theorem km{k:Int}(hk:k=2\/k=3\/k=4\/k=7\/k=9)(hc:A8 k a b c=0)(ha:0<=a/\a<=5){h:Int}(hh:h=0\/h∈lv x.S)
  (h1:x8 x ⟨k,a,b,c⟩=xN x ⟨k,a,b,c⟩ (H5 x a.toNat h,0))(h2:ed (hO x) ⟨k,a,b,c⟩=some (h,0)):Dn x ⟨k,a,b,c⟩ (H5 x a.toNat h) (T7 x h):=by
 have hz:=cG hx (r:=a.toNat) (by omega) hh;have zS:=ke hx.sh.sr hS a.toNat h;obtain⟨e1,e2⟩:=oP hx ha hh;refine⟨hz,zS,(dw hx.sh.sr a.toNat h).ev,Cw.same (gX x a.toNat h).2.1 _,?_,?_⟩;·rw[h1,Rn hz zS (by omega),e1,e2]
 .show D9 (hO x) ⟨k,a,b,c⟩=_;rw[HH hk hc,h2,Ys,WJ hx hS ha hh]
theorem d2(hc:A8 2 a b c=0):Dn x ⟨2,a,b,c⟩ (H5 x a.toNat (sd x b)) (T7 x (sd x b)):=by
 obtain⟨ha,hb⟩:=SN hc;refine km hx hS (.inl rfl) hc ha (pQ hx.sh b) ?_ ?_
 .rw[XF hc];unfold I4;rw[lT hx.sh,Ys,oW hx hS ha (pQ hx.sh b)];rfl
 .unfold ed;rw[zb (by rfl),show (hO x).Roots=x.Roots from rfl,uf hx.sh hb];rfl
theorem d3(hc:A8 3 a b c=0):Dn x ⟨3,a,b,c⟩ (H5 x a.toNat 0) 0:=by
 have ha:=Xu hc;have:=km (b:=b) (c:=c) hx hS (.inr (.inl rfl)) hc ha (h:=0) (.inl rfl) ?_ ?_;·rwa [DL hx.sh] at this
 .rw[XG hc];unfold aA;rw[oW hx hS ha (.inl rfl)];rfl
 .rfl
theorem d4(hc:A8 4 a b c=0):(sd x b=0/\Er x ⟨4,a,b,c⟩ 2)\/(∃e,U0 x.S (sd x b) c=some (0,e)/\Er x ⟨4,a,b,c⟩ e) \/
  (sd x b∈lv x.S/\∃n:Nat,c=n/\∃hn:n<(ob x.S (sd x b)).Fields.length,Dn x ⟨4,a,b,c⟩ (H5 x a.toNat (ob x.S (sd x b)).Fields[n]) (T7 x (ob x.S (sd x b)).Fields[n])):=by
 obtain⟨ha,hb,_⟩:=Xv hc;have hm:x8 x ⟨4,a,b,c⟩=_:=XH hc;unfold aB at hm;rw[jP hx.sh,Ys] at hm;have hr:D9 (hO x) ⟨4,a,b,c⟩=_:=HH (by omega) hc;have hnm:ed (hO x) ⟨4,a,b,c⟩=(ae (hO x) b).bind λv2=>if (v2.2 != 0) then some (0,v2.2) else (gk (hO x).S v2.1 c).bind λv3=>some (v3.1,v3.2):=rfl
 rw[qE hx.sh hb,Ys] at hnm;by_cases h0:sd x b=0
 .refine .inl ⟨h0,by decide,?_,?_⟩
  .rw[hm];unfold uP;rw[zb h0,zb (by simp),Ys,ml (by decide)]
  .show D9 (hO x) ⟨4,a,b,c⟩=_;rw[hr,hnm];unfold uP;rw[zb h0,zb (by simp),Ys,Mz (by decide)]
 .have has:uP x b=(sd x b,0):=by unfold uP;rw[za h0]
  rw[has,za (by simp)] at hm hnm;right;rcases tQ hx hS (sd x b) c (ug hx.sh b) with ⟨e,he,f1,f2⟩ | ⟨hl,n,hn0,hn,f1,f2⟩
  .refine .inl ⟨e,f1,he,?_,?_⟩
   .rw[hm];dsimp only;rw[f1,Ys,FV he,Ys,Ys,ml he]
   .show D9 (hO x) ⟨4,a,b,c⟩=_;rw[hr,hnm];dsimp only;rw[show (hO x).S=sO x.S from rfl,f2,Ys,Ys,Mz he]
  .refine .inr ⟨hl,n,hn0,hn,?_⟩;have hv:=hx.sh.fl _ hl _ (zk hn);refine km hx hS (by omega) hc ha hv ?_ ?_
   .rw[hm];dsimp only;rw[f1,Ys,oW hx hS ha hv];rfl
   .rw[hnm];dsimp only;rw[show (hO x).S=sO x.S from rfl,f2];rfl
theorem Py{n:Nat}(hn:n<6):∃h:n<x.a8.length,kz x.a8 n=some (if x.a8[n].Target=0\/x.a8[n].Intact=false then (0,9) else (x.a8[n].Target,0))/\rH (hO x).a8 n=some (if x.a8[n].Target=0\/x.a8[n].Intact=false then (0,9) else (x.a8[n].Target,0)):=by
 have c6:=hx.sh.c6;have hl:n<x.a8.length:=by omega
 have hl2:n<(x.a8.map qy).length:=by simp;exact hl
 refine⟨hl,?_,?_⟩
 .unfold kz kB;have:(decide ((n:Int)>=0)&&decide ((n:Int)<(x.a8.length:Int)))=true:=by simp;omega
  rw[this,Ys,za (by simp),u7 hl,Ys];by_cases q:x.a8[n].Target=0\/x.a8[n].Intact=false
  .rw[zb q,zb (by rcases q with q | q <;> simp[q])]
  .rw[za q,za (by simpa using q)]
 .unfold rH;show (if _ then _ else (ix (x.a8.map qy) (n:Int)).bind _)=_;rw[za (by simp[hO];omega),u7 hl2,Ys,t7];by_cases q:x.a8[n].Target=0\/x.a8[n].Intact=false
  .rw[zb q,zb (by rcases q with q | q <;> simp[qy,q])]
  .rw[za q,za (by simpa[qy] using q)];rfl
theorem d7(hc:A8 7 a b c=0):∃h:b.toNat<x.a8.length,((x.a8[b.toNat].Intact=false/\Er x ⟨7,a,b,c⟩ 9) \/
  (x.a8[b.toNat].Intact=true/\Dn x ⟨7,a,b,c⟩ (H5 x a.toNat x.a8[b.toNat].Target) (T7 x x.a8[b.toNat].Target))):=by
 obtain⟨ha,hb⟩:=Xy hc;obtain⟨n,rfl⟩:∃n:Nat,b=n:=⟨b.toNat,by omega⟩;obtain⟨hl,l1,l2⟩:=Py hx hS (n:=n) (by omega);rw[zW];refine⟨hl,?_⟩;have hm:x8 x ⟨7,a,n,c⟩=_:=XK hc;unfold Z5 at hm;rw[show kz (u4.mk x ⟨7,a,n,c⟩).x.a8 (u4.mk x ⟨7,a,n,c⟩).o.B=_ from l1,Ys] at hm;have hr:D9 (hO x) ⟨7,a,n,c⟩=_:=HH (by omega) hc;have hnm:ed (hO x) ⟨7,a,n,c⟩=(rH (hO x).a8 n).bind λv4=>some (v4.1,v4.2):=rfl;rw[l2,Ys] at hnm;have cl:=hx.sh.cl n hl;cases hI:x.a8[n].Intact
 .left;rw[zb (.inr hI)] at hm hnm;refine⟨rfl,by decide,?_,?_⟩
  .rw[hm];dsimp only;rw[FV (by decide),Ys,Ys];exact ml (e:=9) (by decide)
  .show D9 (hO x) ⟨7,a,n,c⟩=_;rw[hr,hnm,Ys,Mz (by decide)]
 .right;have ht:=(cl.2.2.2.2 hI).1;have ht0:x.a8[n].Target≠0:=λe=>pd hx.sh.sr (e▸ht);rw[za (by simp[ht0,hI])] at hm hnm;refine⟨rfl,km hx hS (by omega) hc ha (.inr ht) ?_ hnm⟩;rw[hm];dsimp only;rw[oW hx hS ha (.inr ht)];rfl
theorem d9(hc:A8 9 a b c=0):(sd x b=0/\Er x ⟨9,a,b,c⟩ 2)\/(sd x b∈lv x.S/\(∀v,¬Has x.T (sd x b) v)/\Er x ⟨9,a,b,c⟩ 9) \/
  (sd x b∈lv x.S/\∃v,Has x.T (sd x b) v/\Dn x ⟨9,a,b,c⟩ (H5 x a.toNat v) (T7 x v)):=by
 obtain⟨ha,hb⟩:=XA hc;have hT:=hx.sh.hr;have hm:x8 x ⟨9,a,b,c⟩=_:=XM hc;unfold bc at hm;rw[jP hx.sh,Ys] at hm;have hr:D9 (hO x) ⟨9,a,b,c⟩=_:=HH (by omega) hc;have hnm:ed (hO x) ⟨9,a,b,c⟩=(ae (hO x) b).bind λv2=>if (v2.2 != 0) then some (0,v2.2) else (vj (hO x).T v2.1).bind λv3=>some (v3.1,v3.2):=rfl
 rw[qE hx.sh hb,Ys] at hnm;by_cases h0:sd x b=0
 .refine .inl ⟨h0,by decide,?_,?_⟩
  .rw[hm];unfold uP;rw[zb h0,zb (by simp),Ys,ml (by decide)]
  .show D9 (hO x) ⟨9,a,b,c⟩=_;rw[hr,hnm];unfold uP;rw[zb h0,zb (by simp),Ys,Mz (by decide)]
 .have has:uP x b=(sd x b,0):=by unfold uP;rw[za h0]
  have hl:=(pQ hx.sh b).resolve_left h0;rw[has,za (by simp)] at hm hnm;dsimp only at hm hnm;have g2:vj (hO x).T (sd x b)=(M5 x.T (sd x b)).bind λv=>some (v.1,v.2):=by
   unfold vj;rw[show (hO x).T=x.T.map S9 from rfl,RQ hT]
  unfold sK at hm;rw[g2] at hnm;right;by_cases hv:∃v,Has x.T (sd x b) v
  .obtain⟨v,hv⟩:=hv;rw[GR hT hv] at hm hnm;refine .inr ⟨hl,v,hv,km hx hS (by omega) hc ha (.inr (hx.sh.pr _ _ hv).2) ?_ hnm⟩;rw[hm,Ys,Ys];dsimp only;rw[oW hx hS ha (.inr (hx.sh.pr _ _ hv).2)];rfl
  .have hv':∀v,¬Has x.T (sd x b) v:=λv q=>hv ⟨v,q⟩;rw[IP hT hv'] at hm hnm;refine .inl ⟨hl,hv',by decide,?_,?_⟩
   .rw[hm,Ys,Ys];dsimp only;rw[FV (by decide),Ys,Ys];exact ml (e:=9) (by decide)
   .show D9 (hO x) ⟨9,a,b,c⟩=_;rw[hr,hnm,Ys,Ys,Ys];exact Mz (e:=9) (by decide)
end
section
variable{x:Hp}{a b c:Int}
theorem VI{z:Hp}(hz:O4 z)(hS:SL z){k:Int}{r:Int}(hk:k=5/\r=c\/(k=6\/k=8)/\r=b):xN x ⟨k,a,b,c⟩ (z,0)=some (dx z,T7 z (sd z r),0):=by
 unfold xN W7;rw[za (by simp),gn hz hS,Ys];simp only[jn];rcases hk with ⟨rfl,rfl⟩ | ⟨rfl | rfl,rfl⟩
 .rw[zb (by rfl),CC hz.sh];rfl
 .rw[za (by decide),zb (by rfl),zb (by rfl),CC hz.sh];rfl
 .rw[za (by decide),za (by decide),zb (by rfl),CC hz.sh];rfl
variable(hx:O4 x)(hS:SL x)
include hx hS
theorem WI{z:Hp}(hz:O4 z)(zS:SL z){h:Int}(hh:h=0\/h∈lv x.S):rO (hO x) (hO z,h,0)=some (hO (dx z),T7 x h,0):=by
 unfold rO;rw[za (by simp),xk hz zS,Ys,RS hx.sh (rp hx hS hh)];rfl
theorem ql{z:Hp}(hz:O4 z)(zS:SL z)(k:Ks x.S z.S)(er:z.Roots=x.Roots){kd r:Int}(hk:kd=5/\r=c\/(kd=6\/kd=8)/\r=b)(hc:A8 kd a b c=0)(cw:Cw x z (if kd=6 then a else -1))
  (h1:x8 x ⟨kd,a,b,c⟩=xN x ⟨kd,a,b,c⟩ (z,0))(h2:cE (hO x) ⟨kd,a,b,c⟩=some (hO z,sd x r,0)):Dn x ⟨kd,a,b,c⟩ z (T7 x (sd x r)):=by
 refine⟨hz,zS,k.ev,cw,?_,?_⟩;·rw[h1,VI hz zS hk,QG er,UM hx.sh k (pQ hx.sh r)]
 .show D9 (hO x) ⟨kd,a,b,c⟩=_;rw[HG (by omega) hc,h2,Ys,WI hx hS hz zS (pQ hx.sh r)]
theorem d5(hc:A8 5 a b c=0):(sd x a=0/\Er x ⟨5,a,b,c⟩ 2)\/(∃e,aI x (sd x a) b (sd x c)=some (x,e)/\Er x ⟨5,a,b,c⟩ e) \/
  (sd x a∈lv x.S/\∃n:Nat,b=n/\n<(ob x.S (sd x a)).Fields.length/\Dn x ⟨5,a,b,c⟩ (bS x (sd x a) n (sd x c)) (T7 x (sd x c))):=by
 obtain⟨ha,hb,hcc⟩:=Xw hc;have hm:x8 x ⟨5,a,b,c⟩=_:=XI hc;unfold Y4 at hm;rw[jP hx.sh,Ys] at hm;have hr:D9 (hO x) ⟨5,a,b,c⟩=_:=HG (by omega) hc;have hnm:cE (hO x) ⟨5,a,b,c⟩=(ae (hO x) a).bind λv4=>if (v4.2 != 0) then some (hO x,0,v4.2) else (jY (hO x) c).bind λv5=>(jX (hO x) v4.1 b v5).bind λv6=>some (v6.1,v5,v6.2):=rfl
 rw[qE hx.sh ha,Ys,MS hx.sh (by omega)] at hnm;by_cases h0:sd x a=0
 .have has:uP x a=(0,2):=by unfold uP;rw[zb h0]
  rw[has,zb (by simp)] at hm hnm;refine .inl ⟨h0,by decide,?_,?_⟩
  .rw[hm,Ys];exact ml (e:=2) (by decide)
  .show D9 (hO x) ⟨5,a,b,c⟩=_;rw[hr,hnm,Ys];exact Jh (e:=2) (by decide)
 .have has:uP x a=(sd x a,0):=by unfold uP;rw[za h0]
  rw[has,za (by simp)] at hm hnm;dsimp only at hm hnm;rw[lT hx.sh,Ys] at hm;rw[Ys] at hnm;right;rcases KK hx hS (sd x a) b (sd x c) (ug hx.sh a) (ug hx.sh c) with ⟨e,he,f1,f2⟩ | ⟨hl,hv,n,hn0,hn,f1,f2⟩
  .refine .inl ⟨e,f1,he,?_,?_⟩;·rw[hm,f1,Ys,Ys,ml he]
   .show D9 (hO x) ⟨5,a,b,c⟩=_;rw[hr,hnm,f2,Ys,Ys,Jh he]
  .refine .inr ⟨hl,n,hn0,hn,ql hx hS (AQ hx hl hn hv) (IH hx.sh.sr hS hl _ _) (yx hx.sh.sr hl hn _) (nc _ _ _ _).1 (.inl ⟨rfl,rfl⟩) hc (Cw.same (nc _ _ _ _).2.1 _) ?_ ?_⟩
   .rw[hm,f1];rfl
   .rw[hnm,f2];rfl
theorem d6(hc:A8 6 a b c=0):(sd x b=0/\Er x ⟨6,a,b,c⟩ 2)\/(∃e,W3 x a (sd x b) c=some (x,e)/\Er x ⟨6,a,b,c⟩ e) \/
  (JF x.Q a=false/\Dn x ⟨6,a,b,c⟩ (dP x a.toNat (sd x b) c) (T7 x (sd x b))):=by
 obtain⟨ha,hb,hcc⟩:=Xx hc;have hm:x8 x ⟨6,a,b,c⟩=_:=XJ hc;unfold V3 at hm;have hr:D9 (hO x) ⟨6,a,b,c⟩=_:=HG (by omega) hc;have key:(x8 x ⟨6,a,b,c⟩=(((W3 x a (sd x b) c).bind λv1=>some (v1.1,v1.2)).bind (xN x ⟨6,a,b,c⟩))/\cE (hO x) ⟨6,a,b,c⟩=(gQ (hO x) a (sd x b) c).bind λv1=>some (v1.1,sd x b,v1.2))\/(sd x b=0/\Er x ⟨6,a,b,c⟩ 2):=by
  by_cases h1:b = -1
  .subst h1;left;rw[xi hx.sh (r:=-1) (by omega)];refine⟨?_,rfl⟩;rw[hm,zb (by rfl)]
  .rw[za (by simpa using h1),jP hx.sh,Ys] at hm;have hnm:cE (hO x) ⟨6,a,b,c⟩=(ae (hO x) b).bind λv4=>if (v4.2 != 0) then some (hO x,0,v4.2) else (gQ (hO x) a v4.1 c).bind λv7=>some (v7.1,v4.1,v7.2):=by
    unfold cE;rw[za (by simp;omega)];rfl
   rw[qE hx.sh (by omega),Ys] at hnm;by_cases h0:sd x b=0
   .have has:uP x b=(0,2):=by unfold uP;rw[zb h0]
    rw[has,zb (by simp)] at hm hnm;refine .inr ⟨h0,by decide,?_,?_⟩
    .rw[hm,Ys];exact ml (e:=2) (by decide)
    .show D9 (hO x) ⟨6,a,b,c⟩=_;rw[hr,hnm,Ys];exact Jh (e:=2) (by decide)
   .have has:uP x b=(sd x b,0):=by unfold uP;rw[za h0]
    rw[has,za (by simp)] at hm hnm;exact .inl ⟨hm,hnm⟩
 rcases key with ⟨hm,hnm⟩ | key
 .right;rcases Rb hx a (sd x b) c (ug hx.sh b) hcc with ⟨e,he,f1,f2⟩ | ⟨hh,n,rfl,hn,hw,f1,f2⟩
  .refine .inl ⟨e,f1,he,?_,?_⟩;·rw[hm,f1,Ys,Ys,ml he]
   .show D9 (hO x) ⟨6,a,b,c⟩=_;rw[hr,hnm,f2,Ys,Ys,Jh he]
  .rw[zW];obtain⟨r1,r2,_,_⟩:=xA x n (sd x b) c;refine .inr ⟨hw,ql hx hS (Ef hx hn hh hcc hw) (Nt hx hS hn _ _) (Ee hx hn _ _) r1 (.inr ⟨.inl rfl,rfl⟩) hc (by rw[zb rfl];exact Cw.set r2) ?_ ?_⟩
   .rw[hm,f1];rfl
   .rw[hnm,f2];rfl
 .exact .inl key
theorem d8(hc:A8 8 a b c=0):(sd x a=0/\Er x ⟨8,a,b,c⟩ 2)\/(sd x a∈lv x.S/\∃e,cu x (sd x a) (sd x b)=some (x,e)/\Er x ⟨8,a,b,c⟩ e) \/
  (sd x a∈lv x.S/\∃r,P8 x.T (sd x a) (sd x b)=some r/\r.2.2=0/\Dn x ⟨8,a,b,c⟩ (jR x (sd x b) r.1 r.2.1) (T7 x (sd x b))):=by
 obtain⟨ha,hb⟩:=Xz hc;have hm:x8 x ⟨8,a,b,c⟩=_:=XL hc;unfold aC at hm;rw[jP hx.sh,Ys] at hm;have hr:D9 (hO x) ⟨8,a,b,c⟩=_:=HG (by omega) hc;have hnm:cE (hO x) ⟨8,a,b,c⟩=(ae (hO x) a).bind λv4=>if (v4.2 != 0) then some (hO x,0,v4.2) else (jY (hO x) b).bind λv8=>(nB (hO x) v4.1 v8).bind λv9=>some (v9.1,v8,v9.2):=rfl
 rw[qE hx.sh ha,Ys,MS hx.sh (by omega)] at hnm;by_cases h0:sd x a=0
 .have has:uP x a=(0,2):=by unfold uP;rw[zb h0]
  rw[has,zb (by simp)] at hm hnm;refine .inl ⟨h0,by decide,?_,?_⟩
  .rw[hm,Ys];exact ml (e:=2) (by decide)
  .show D9 (hO x) ⟨8,a,b,c⟩=_;rw[hr,hnm,Ys];exact Jh (e:=2) (by decide)
 .have has:uP x a=(sd x a,0):=by unfold uP;rw[za h0]
  have hl:=(pQ hx.sh a).resolve_left h0;rw[has,za (by simp)] at hm hnm;dsimp only at hm hnm;rw[lT hx.sh,Ys] at hm;rw[Ys] at hnm;right;rcases Qg hx hS (sd x a) (sd x b) (ug hx.sh a) (ug hx.sh b) with ⟨e,he,f1,f2⟩ | ⟨hl,hv,r,r1,r2,f1,f2⟩
  .refine .inl ⟨hl,e,f1,he,?_,?_⟩;·rw[hm,f1,Ys,Ys,ml he]
   .show D9 (hO x) ⟨8,a,b,c⟩=_;rw[hr,hnm,f2,Ys,Ys,Jh he]
  .refine .inr ⟨hl,r,r1,r2,ql hx hS (Dr hx hl hv r1 r2) (Ml hx.sh.sr hS _ _ _) (Dq hx.sh.sr _ _ _) (qm _ _ _ _).1 (.inr ⟨.inr rfl,rfl⟩) hc (Cw.same (qm _ _ _ _).2.1 _) ?_ ?_⟩
   .rw[hm,f1];rfl
   .rw[hnm,f2];rfl
theorem d10(hz:zr x = [])(hc:A8 10 a b c=0):Dn x ⟨10,a,b,c⟩ x (if sd x a=sd x b then 1 else 0):=by
 obtain⟨ha,hb⟩:=VF hc;refine⟨hx,hS,Ev.refl x,Cw.refl x _,?_,?_⟩
 .rw[VJ hc];unfold Q7 xN W7;rw[Ys,za (by simp),gn hx hS,Ys];simp only[jn];rw[za (by decide),za (by decide),za (by decide),zb (by rfl),lT hx.sh,Ys,lT hx.sh,Ys];by_cases q:sd x a=sd x b
  .rw[zb (by simpa using q),zb q];rfl
  .rw[za (by simpa using q),za q];rfl
 .show D9 (hO x) ⟨10,a,b,c⟩=_;rw[UE hc,show (hO x).Roots=x.Roots from rfl,uf hx.sh ha,Ys,uf hx.sh hb,Ys,DP hz];by_cases q:sd x a=sd x b
  .rw[zb (by simpa using q),zb q]
  .rw[za (by simpa using q),za q]
theorem d1(hb:x.S.Serial<9223372036854775807)(hc:A8 1 a b c=0):(∃e,O2 x.S b c=some (x.S,0,e)/\Er x ⟨1,a,b,c⟩ e) \/
  (b.toNat<=4/\(-1<=c/\c<=5)/\∃i,Vx x.S i/\Dn x ⟨1,a,b,c⟩ (H5 (wS x (eI x.S i b.toNat c)) a.toNat (dF x.S i)) (x.S.Serial+1)):=by
 obtain⟨ha,hbb,hcc⟩:=Xt hc;have hR:=hx.sh.sr;have hm:x8 x ⟨1,a,b,c⟩=_:=XE hc;unfold V2 at hm;dsimp only at hm;have hr:D9 (hO x) ⟨1,a,b,c⟩=_:=WL hc;rw[show (hO x).S=sO x.S from rfl] at hr;rcases Wi hR hb b c with ⟨e,he,f1,f2⟩ | ⟨_,_,i,hF,f1,f2⟩
 .refine .inl ⟨e,f1,he,?_,?_⟩;·rw[hm,f1,Ys,zb (by simpa using he),Ys,ml he]
  .show D9 (hO x) ⟨1,a,b,c⟩=_;rw[hr,f2,Ys,zb (by simpa using he)]
 .refine .inr ⟨by omega,hcc,i,hF,?_⟩;obtain⟨hi,h0,_⟩:=hF;have hn:b.toNat<=4:=by omega
  have hy:=LK hx hi h0 hn hcc;have yS:=Wn hx hS hi h0 hn hcc;have hh:dF x.S i=0\/dF x.S i∈lv (wS x (eI x.S i b.toNat c)).S:=.inr (by
   show _∈lv (eI x.S i b.toNat c);rw[Hg hR hi h0 hn hcc];exact zat _ (zG.2 rfl))
  have hz:=cG hy (r:=a.toNat) (by omega) hh;have zS:=ke hy.sh.sr yS a.toNat (dF x.S i);obtain⟨e1,e2⟩:=oP hy ha hh;have e3:T7 (wS x (eI x.S i b.toNat c)) (dF x.S i)=x.S.Serial+1:=by
   show (ob (eI x.S i b.toNat c) (dF x.S i)).Serial=_;rw[te hR hi h0 hn hcc]
  refine⟨hz,zS,(Wm hx hi h0 hn hcc).ks (dw hy.sh.sr a.toNat _),Cw.same (gX (wS x (eI x.S i b.toNat c)) a.toNat _).2.1 _,?_,?_⟩
  .rw[hm,f1,Ys,za (by simp)];dsimp only;rw[show B6 ⟨⟨eI x.S i b.toNat c,x.Roots,x.a8,x.T,x.Q⟩,⟨1,a,b,c⟩⟩ (dF x.S i) 0=_ from oW hy yS ha hh,Ys,Ys,Rn hz zS (by omega),e1,e2,e3]
  .show D9 (hO x) ⟨1,a,b,c⟩=_;rw[hr,f2,Ys,za (by simp)];dsimp only;rw[show gP ⟨sO (eI x.S i b.toNat c),(hO x).Roots,(hO x).a8,(hO x).T,(hO x).Q⟩ a (dF x.S i)=_ from MJ hy yS a (rp hy yS hh),za (by omega),zb hh,Ys,xk hz zS,Ys,VE (en hz).sh,e1,e2,e3];rfl
end
theorem SV{x:Hp}(hx:O4 x)(hS:SL x)(hz:zr x = [])(hb:x.S.Serial<9223372036854775807)(o:c9):(∃e,Er x o e)\/∃z v,Dn x o z v:=by
 obtain⟨k,a,b,c⟩:=o;by_cases hc:A8 k a b c=0
 .have:=Bi hc;have hk:k=1\/k=2\/k=3\/k=4\/k=5\/k=6\/k=7\/k=8\/k=9\/k=10\/k=11\/k=12:=by omega
  rcases hk with rfl | rfl | rfl | rfl | rfl | rfl | rfl | rfl | rfl | rfl | rfl | rfl
  .rcases d1 hx hS hb hc with ⟨e,_,h⟩ | ⟨_,_,i,_,h⟩;·exact .inl ⟨e,h⟩
   .exact .inr ⟨_,_,h⟩
  .exact .inr ⟨_,_,d2 hx hS hc⟩
  .exact .inr ⟨_,_,d3 hx hS hc⟩
  .rcases d4 hx hS hc with ⟨_,h⟩ | ⟨e,_,h⟩ | ⟨_,n,_,_,h⟩;·exact .inl ⟨_,h⟩
   .exact .inl ⟨_,h⟩
   .exact .inr ⟨_,_,h⟩
  .rcases d5 hx hS hc with ⟨_,h⟩ | ⟨e,_,h⟩ | ⟨_,n,_,_,h⟩;·exact .inl ⟨_,h⟩
   .exact .inl ⟨_,h⟩
   .exact .inr ⟨_,_,h⟩
  .rcases d6 hx hS hc with ⟨_,h⟩ | ⟨e,_,h⟩ | ⟨_,h⟩;·exact .inl ⟨_,h⟩
   .exact .inl ⟨_,h⟩
   .exact .inr ⟨_,_,h⟩
  .obtain⟨_,⟨_,h⟩ | ⟨_,h⟩⟩:=d7 hx hS hc;·exact .inl ⟨_,h⟩
   .exact .inr ⟨_,_,h⟩
  .rcases d8 hx hS hc with ⟨_,h⟩ | ⟨_,e,_,h⟩ | ⟨_,r,_,_,h⟩;·exact .inl ⟨_,h⟩
   .exact .inl ⟨_,h⟩
   .exact .inr ⟨_,_,h⟩
  .rcases d9 hx hS hc with ⟨_,h⟩ | ⟨_,_,h⟩ | ⟨_,v,_,h⟩;·exact .inl ⟨_,h⟩
   .exact .inl ⟨_,h⟩
   .exact .inr ⟨_,_,h⟩
  .exact .inr ⟨_,_,d10 hx hS hz hc⟩
  .obtain⟨h1,h2⟩:=sJ (x:=x) (a:=a) (b:=b) (c:=c) (.inl rfl) hc;exact .inl ⟨14,by decide,h1,h2⟩
  .obtain⟨h1,h2⟩:=sJ (x:=x) (a:=a) (b:=b) (c:=c) (.inr rfl) hc;exact .inl ⟨14,by decide,h1,h2⟩
 .obtain⟨h1,h2⟩:=EJ (x:=x) (o:=⟨k,a,b,c⟩) hc;exact .inl ⟨_,hc,h1,h2⟩
noncomputable def tP(x:Hp)(o:c9):Hp × Int × Int:=(x8 x o).getD (x,0,0)
structure Vo (x:Hp) (o:c9) (y:Hp) (v e:Int):Prop where
 rt:O4 y
 sl:SL y
 zr:zr y = []
 ev:Ev x y
 cw:Cw x y (if o.Kind=6 then o.A else -1)
 er:e≠0->y=x/\v=0
 mc:x8 x o=some (y,v,e)
 rf:D9 (hO x) (RN o)=some (hO y,v,e)
theorem Dn.Yo{x z:Hp}{o:c9}{v:Int}(d:Dn x o z v):Vo x o (dx z) v 0:=by
 have st:=nM d.rt;exact⟨en d.rt,HV d.rt d.sl,Ab d.rt,d.ev.Yr st,d.cw.trans (st.cw _),λh=>absurd rfl h,d.mc,d.rf⟩
theorem PL{x:Hp}(hx:O4 x)(hS:SL x)(hz:zr x = [])(hb:x.S.Serial<9223372036854775807)(o:c9):∃y v e,Vo x o y v e:=by
 rcases SV hx hS hz hb o with ⟨e,h1,h2,h3⟩ | ⟨z,v,d⟩;·exact⟨x,0,e,hx,hS,hz,Ev.refl x,Cw.refl x _,λ_=>⟨rfl,rfl⟩,h2,h3⟩
 .exact⟨_,_,_,d.Yo⟩
theorem oG{x:Hp}(hx:O4 x)(hS:SL x)(hz:zr x = [])(hb:x.S.Serial<9223372036854775807)(o:c9):Vo x o (tP x o).1 (tP x o).2.1 (tP x o).2.2:=by
 obtain⟨y,v,e,h⟩:=PL hx hS hz hb o;have:tP x o=(y,v,e):=by unfold tP;rw[h.mc];rfl
 rw[this];exact h
noncomputable def runs(x:Hp)(l:List c9):Hp × List Int:=l.foldl (λp o=>((tP p.1 o).1,p.2 ++ [(tP p.1 o).2.1])) (x,[])
theorem oR(x:Hp)(l:List c9)(o:c9):runs x (l ++ [o])=((tP (runs x l).1 o).1,(runs x l).2 ++ [(tP (runs x l).1 o).2.1]):=by
 unfold runs;rw[za1];rfl
theorem DJ{x:Hp}(hx:O4 x)(hS:SL x)(hz:zr x = [])(l:List c9)(hb:x.S.Serial+l.length<9223372036854775807)(P:Hp->Prop)(h0:P x)
  (hs:∀(y:Hp) (o:c9),o∈l->O4 y->Vo y o (tP y o).1 (tP y o).2.1 (tP y o).2.2->P y->P (tP y o).1):∀k,k<=l.length ->
  O4 (runs x (l.take k)).1/\SL (runs x (l.take k)).1/\zr (runs x (l.take k)).1 = []/\(runs x (l.take k)).1.S.Serial<=x.S.Serial+k/\(runs x (l.take k)).2.length=k/\P (runs x (l.take k)).1
 | 0,_=>⟨hx,hS,hz,by show x.S.Serial<=_;omega,rfl,h0⟩
 | k+1,hk=>by
  obtain⟨a1,a2,a3,a4,a5,a6⟩:=DJ hx hS hz l hb P h0 hs k (by omega);have hk':k<l.length:=by omega
  have n:=oG a1 a2 a3 (by omega) l[k];rw[T0 hk',oR];exact⟨n.rt,n.sl,n.zr,by have:=n.ev.s2;show (tP _ _).1.S.Serial<=_;omega,by simp[a5],hs _ _ (zk hk') a1 n a6⟩
theorem run_eq{x:Hp}(hx:O4 x)(hS:SL x)(hz:zr x = [])(l:List c9)(hl:l.length<=1000)(hb:x.S.Serial+l.length<9223372036854775807) :
  eX x l=some (runs x l)/\HA (hO x) (l.map RN)=some (hO (runs x l).1,(runs x l).2):=by
 have all:=DJ hx hS hz l hb (λ_=>True) trivial (λ_ _ _ _ _ _=>trivial);constructor
 .unfold eX;simp only[jn];refine Y3 (T:=Hp × List Int) l.length (λk acc=>acc=runs x (l.take k)) (by omega) rfl (λk acc hk hP=>?_) (λacc hP=>?_)
  .subst hP;obtain⟨a1,a2,a3,a4,a5,_⟩:=all k (by omega);have n:=oG a1 a2 a3 (by omega) l[k];refine .inl ⟨_,?_,rfl⟩;rw[T0 hk,oR];show (if _ then _ else _)=_;rw[zb (by simpa using hk),u7 hk,Ys,n.mc,Ys,C3 (by omega) (by rw[a5];simp;omega),Ys,p8]
  .subst hP;refine⟨runs x (l.take l.length),?_,?_⟩
   .show (if _ then _ else _)=_;rw[za (by simp)]
   .rw[zU]
 .unfold HA;simp only[jn];refine Y3 (T:=o7 × List Int) (l.map RN).length (λk acc=>acc=(hO (runs x (l.take k)).1,(runs x (l.take k)).2)) (by simp;omega) rfl (λk acc hk hP=>?_) (λacc hP=>?_)
  .subst hP;have hk':k<l.length:=by simpa using hk
   obtain⟨a1,a2,a3,a4,a5,_⟩:=all k (by omega);have n:=oG a1 a2 a3 (by omega) l[k];refine .inl ⟨_,?_,rfl⟩;rw[T0 hk',oR];show (if _ then _ else _)=_;rw[zb (by simpa using hk'),u7 hk,Ys,t7];dsimp only;rw[n.rf,Ys,C3 (by omega) (by rw[a5];simp;omega),Ys,p8]
  .subst hP;refine⟨(hO (runs x (l.take (l.map RN).length)).1,(runs x (l.take (l.map RN).length)).2),?_,?_⟩
   .show (if _ then _ else _)=_;rw[za (by simp)]
   .rw[ww,zU]
section
variable{x:Hp}(hB:HB x)
include hB
end
def Bo(k:Nat)(l:Int)(p:Nat):Hp:=⟨⟨⟨List.replicate k ⟨0,0,z0⟩,l⟩,0⟩,List.replicate 6 0,List.replicate 6 ⟨0,false,-1⟩,List.replicate p ⟨0,0,0⟩,⟨[],30⟩⟩
theorem Ld{k p:Nat}{l:Int}(hk:1<=k/\k<=24)(hl:0<=l/\l<=9)(hp:1<=p/\p<=8) :
  jI k l p=some (Bo k l p)/\rI k l p=some (hO (Bo k l p))/\O4 (Bo k l p)/\SL (Bo k l p)/\zr (Bo k l p) = []:=by
 have e1:gp k l=some (Bo k l p).S:=by
  unfold gp Y6;rw[za (by simp;omega),jN (by omega) (by omega)];rfl
 obtain⟨a,h1,h2,h3,_⟩:=Ws k l;rw[e1] at h1;have ha:=t8 h1;subst ha;have hR:SR (Bo k l p).S:=y5.1 h3;have hce:∀i,ce (Bo k l p).S i=⟨0,0,z0⟩:=λi=>by
  unfold ce Bo;dsimp only;rw[zf,List.getElem?_replicate];split <;> rfl
 have hlv:lv (Bo k l p).S = []:=za0.2 λh hh=>by
  obtain⟨i,q⟩:=(fF hR).1 hh;have:=q.2.1;rw[hce] at this;cases this
 refine⟨?_,?_,⟨⟨hR,(Vc (V:=Int) (λ_ _=>True) hp.1 hp.2).1,rfl,rfl,rfl,sm _,(λt ht=>nomatch ht),List.Pairwise.nil,(λh hh=>.inl (zbg.1 hh).2),λh hh=>?_,λa v hv=>?_,λi hi=>?_⟩,λi hi ht=>?_,λh hh=>?_⟩,λh hh=>?_,?_⟩
 .unfold jI;rw[za (by simp;omega),e1,Ys,show mk 8 6 (0:Int)=some (List.replicate 6 0) from rfl,Ys];refine Cs (a:=List.replicate 6 ⟨0,false,-1⟩) (by kernel_rfl) ?_;rw[TS hp.1 hp.2,Ys];refine Cs (a:=⟨[],30⟩) (by kernel_rfl) ?_;rfl
 .unfold rI;rw[za (by simp;omega),h2,Ys,show mk 8 6 (0:Int)=some (List.replicate 6 0) from rfl,Ys];refine Cs (a:=List.replicate 6 ⟨0,false,-1⟩) (by kernel_rfl) ?_;unfold Hz;rw[za (by simp;omega),jN (by omega) (by omega),Ys,Ys];refine Cs (a:=⟨[],30⟩) (by kernel_rfl) ?_;unfold hO Bo;dsimp only;rw[List.map_replicate,List.map_replicate];rfl
 .rw[hlv] at hh;cases hh
 .obtain⟨i,hi,_⟩:=hv;have:=hi.2.1;rw[show (Bo k l p).T=List.replicate p ⟨0,0,0⟩ from rfl,wI] at this;cases this
 .have:(Bo k l p).a8[i]=⟨0,false,-1⟩:=List.getElem_replicate ..;rw[this];exact⟨by decide,by decide,λ_=>rfl,λh=>absurd rfl h,λh=>by cases h⟩
 .rw[hce] at ht;rcases ht with h | h <;> cases h
 .rw[hlv] at hh;cases hh
 .rw[hlv] at hh;cases hh
 .unfold zr;rw[hlv];rfl
section
variable{x:Hp}(hB:HB x)
include hB
end
def DC(o:c9):au:=⟨o.Kind,o.A,o.B,o.C⟩
abbrev AA(o:c9):Int:=A8 o.Kind o.A o.B o.C
theorem AI(k a b c:Int):X7 [k,a,b,c]=some (if A8 k a b c≠0 then (⟨0,0,0,0⟩,A8 k a b c) else (⟨k,a,b,c⟩,0)):=by
 unfold X7;rw[za (by simp)];show (U4 ⟨k,a,b,c⟩).bind _=_;rw[mV,Ys];by_cases h:A8 k a b c=0
 .rw[za (by simpa using h),za (by simpa using h)]
 .rw[zb (by simpa using h),zb h]
theorem Kz(k a b c:Int):gR [k,a,b,c]=some (if A8 k a b c≠0 then (⟨0,0,0,0⟩,A8 k a b c) else (⟨k,a,b,c⟩,0)):=by
 unfold gR;rw[za (by simp)];show (cD ⟨k,a,b,c⟩).bind _=_;rw[iD,Ys];by_cases h:A8 k a b c=0
 .rw[za (by simpa using h),za (by simpa using h)]
 .rw[zb (by simpa using h),zb h]
theorem four(l:List Int):(∃k a b c,l = [k,a,b,c])\/l.length≠4:=by
 match l with
 | []=>exact .inr (by simp)
 | [_]=>exact .inr (by simp)
 | [_,_]=>exact .inr (by simp)
 | [_,_,_]=>exact .inr (by simp)
 | [k,a,b,c]=>exact .inl ⟨k,a,b,c,rfl⟩
 | _::_::_::_::_::l=>exact .inr (by simp)
theorem uT{l:List Int}(h:l.length≠4):X7 l=some (⟨0,0,0,0⟩,14)/\gR l=some (⟨0,0,0,0⟩,14):=by
 unfold X7 gR;have:(((l.length:Int) != 4))=true:=by simp;omega
 rw[zb this,zb this];exact⟨rfl,rfl⟩
def ck(l:List Int):c9 × Int:=(X7 l).getD (⟨0,0,0,0⟩,0)
theorem Kx(l:List Int):X7 l=some (ck l)/\gR l=some (DC (ck l).1,(ck l).2):=by
 unfold ck;rcases four l with ⟨k,a,b,c,rfl⟩ | h
 .rw[AI,Kz];refine⟨rfl,?_⟩;rw[zX];by_cases h:A8 k a b c≠0
  .rw[zb h,zb h];rfl
  .rw[za h,za h];rfl
 .rw[(uT h).1,(uT h).2];exact⟨rfl,rfl⟩
def rC(o:c9):Bool:=((decide (o.Kind>=1))&&(decide (o.Kind<=10)))&&(AA o==0)
def tX(p:List c9):Bool:=decide (p.length<=6)&&p.all rC
def bY(l:List (List c9)):Bool:=decide (l.length<=6)&&l.all tX
section
variable{l:List (List c9)}(hl:l.length<=12)(hp:∀p∈l,p.length<=1000)
include hl hp
theorem Dw:dS l=some (bY l):=by
 unfold dS bY;by_cases h6:l.length > 6
 .rw[zb (by simp;omega),zK (by omega)];rfl
 .rw[za (by simp;omega),zA (by omega),zal];simp only[jn];have key:=Bj (f:=λ(s23:Int)=>
   if (decide (s23<(l.length:Int))) then
     (ix l s23).bind λv34=>
     if (decide ((v34.length:Int) > 6)) then
      some (.inr (.inl false))
     else
     (lp (S:=Int) (E:=Bool ⊕ Unit) (λ(s36:Int)=>
      if (decide (s36<(v34.length:Int))) then
       (ix v34 s36).bind λv38=>
       (dR v38).bind λv39=>
       (z1 ((!v39)==false) 0 (U4 v38)).bind λv40=>
       if ((!v39)||(v40 != 0)) then
        some (.inr (.inl false))
       else
       some (.inl (z8 (s36+1)))
      else
      some (.inr (.inr ()))) 0).bind λe35=>
     match e35 with
     | .inl w=>some (.inr (.inl w))
     | .inr w=>some (Sum.inl (z8 (s23+1)))
   else
   some (.inr (.inr ()))) l tX (.inr ()) (Sum.inl (β:=Unit) false) (by omega) (λk hk=>?_) (by simp)
  .refine Cs key ?_;cases l.all tX <;> rfl
  .rw[zb (by simpa using hk),u7 hk,Ys];unfold tX;have hm:=hp _ (zk hk);generalize l[k]=p at hm |-;by_cases hq:p.length > 6
   .rw[zb (by simp;omega),zK (by omega)];rfl
   .rw[za (by simp;omega),zA (by omega),zal];have k2:=Bj (f:=λ(s36:Int)=>
      if (decide (s36<(p.length:Int))) then
       (ix p s36).bind λv38=>
       (dR v38).bind λv39=>
       (z1 ((!v39)==false) 0 (U4 v38)).bind λv40=>
       if ((!v39)||(v40 != 0)) then
        some (.inr (.inl false))
       else
       some (Sum.inl (z8 (s36+1)))
      else
      some (.inr (.inr ()))) p rC (.inr ()) (Sum.inl (β:=Unit) false) (by omega) (λj hj=>?_) (by simp)
    .refine zcf (Cs k2 (r:=if p.all rC=true then some (.inl (z8 ((k:Int)+1))) else some (.inr (.inl false))) ?_) ?_;·cases p.all rC <;> rfl
     .rw[p8]
    .rw[zb (by simpa using hj),u7 hj,Ys,mV];unfold rC dR;rw[Ys,p8];cases ((decide (p[j].Kind>=1))&&(decide (p[j].Kind<=10)));·rfl
     .by_cases h:AA p[j]=0
      .have e:A8 p[j].Kind p[j].A p[j].B p[j].C=0:=h;rw[e,h];rfl
      .have e1:(A8 p[j].Kind p[j].A p[j].B p[j].C != 0)=true:=by simpa using h
       have e2:(AA p[j]==0)=false:=by simpa using h
       rw[e2];refine Cs (a:=AA p[j]) rfl ?_;rw[show (AA p[j] != 0)=true from e1];rfl
theorem FA:oM (l.map (List.map DC))=some (bY l):=by
 unfold oM bY;rw[ww];by_cases h6:l.length > 6
 .rw[zb (by simp;omega),zK (by omega)];rfl
 .rw[za (by simp;omega),zA (by omega),zal];simp only[jn];have key:=Bj (f:=λ(s23:Int)=>
   if (decide (s23<(l.length:Int))) then
     (ix (l.map (List.map DC)) s23).bind λv34=>
     if (decide ((v34.length:Int) > 6)) then
      some (.inr (.inl false))
     else
     (lp (S:=Int) (E:=Bool ⊕ Unit) (λ(s36:Int)=>
      if (decide (s36<(v34.length:Int))) then
       (ix v34 s36).bind λv38=>
       (ab v38).bind λv39=>
       (z1 ((!v39)==false) 0 (cD v38)).bind λv40=>
       if ((!v39)||(v40 != 0)) then
        some (.inr (.inl false))
       else
       some (.inl (z8 (s36+1)))
      else
      some (.inr (.inr ()))) 0).bind λe35=>
     match e35 with
     | .inl w=>some (.inr (.inl w))
     | .inr w=>some (Sum.inl (z8 (s23+1)))
   else
   some (.inr (.inr ()))) l tX (.inr ()) (Sum.inl (β:=Unit) false) (by omega) (λk hk=>?_) (by simp)
  .refine Cs key ?_;cases l.all tX <;> rfl
  .rw[zb (by simpa using hk),fR,u7 hk,we,Ys,ww];unfold tX;have hm:=hp _ (zk hk);generalize l[k]=p at hm |-;by_cases hq:p.length > 6
   .rw[zb (by simp;omega),zK (by omega)];rfl
   .rw[za (by simp;omega),zA (by omega),zal];have k2:=Bj (f:=λ(s36:Int)=>
      if (decide (s36<(p.length:Int))) then
       (ix (p.map DC) s36).bind λv38=>
       (ab v38).bind λv39=>
       (z1 ((!v39)==false) 0 (cD v38)).bind λv40=>
       if ((!v39)||(v40 != 0)) then
        some (.inr (.inl false))
       else
       some (Sum.inl (z8 (s36+1)))
      else
      some (.inr (.inr ()))) p rC (.inr ()) (Sum.inl (β:=Unit) false) (by omega) (λj hj=>?_) (by simp)
    .refine zcf (Cs k2 (r:=if p.all rC=true then some (.inl (z8 ((k:Int)+1))) else some (.inr (.inl false))) ?_) ?_;·cases p.all rC <;> rfl
     .rw[p8]
    .rw[zb (by simpa using hj),fR,u7 hj,we,Ys,iD];unfold rC ab;rw[Ys,p8];rw[show (DC p[j]).Kind=p[j].Kind from rfl];cases ((decide (p[j].Kind>=1))&&(decide (p[j].Kind<=10)));·rfl
     .by_cases h:AA p[j]=0
      .have e:A8 p[j].Kind (DC p[j]).A (DC p[j]).B (DC p[j]).C=0:=h;rw[e,h];rfl
      .have e1:(A8 p[j].Kind p[j].A p[j].B p[j].C != 0)=true:=by simpa using h
       have e2:(AA p[j]==0)=false:=by simpa using h
       rw[e2];refine Cs (a:=AA p[j]) rfl ?_;rw[show (AA p[j] != 0)=true from e1];rfl
end
noncomputable def NJ(x:Hp):List Int:=Tx x.S x.T
noncomputable def eE(x:Hp):List Int:=VS x.S x.T (NJ x)
theorem aZ{x:Hp}{h:Int}:h∈eE x↔h∈lv x.S/\¬cJ x.S x.T (NJ x) h:=by
 classical
 unfold eE VS;rw[zy,zH]
section
variable{x:Hp}(hx:O4 x)
include hx
theorem gC:(eE x).Nodup:=zbu _ (rq (y5.2 hx.sh.sr))
theorem gB:∀d∈eE x,d∈lv x.S:=λd hd=>(aZ.1 hd).1
theorem HM{h:Int}(hl:h∈lv x.S)(hs:(ob x.S h).Strong<12):Jq x.S x.T h=(aD (pf x) h:Int):=KG.2 hx.fair h hl hs
theorem GU{h:Int}(hl:h∈lv x.S)(ho:h∈pf x):h∈NJ x:=by
 refine uW.2 ⟨hl,?_⟩;by_cases hs:(ob x.S h).Strong<12
 .left;rw[HM hx hl hs];have:=dD.2 ⟨λe=>pd hx.sh.sr (e▸hl),ho⟩;omega
 .exact .inr (by omega)
theorem Lc{h:Int}(hh:h∈NJ x):h∈lv x.S/\(h∈pf x\/12<=(ob x.S h).Strong):=by
 obtain⟨hl,hs⟩:=uW.1 hh;refine⟨hl,?_⟩;by_cases q:(ob x.S h).Strong<12
 .rcases hs with hs | hs
  .rw[HM hx hl q] at hs;exact .inl (dD.1 (by omega)).2
  .omega
 .exact .inr (by omega)
theorem Ph:∀d∈eE x,d∉pf x:=λd hd q=>by
 obtain⟨a,b⟩:=aZ.1 hd;exact b (.base (GU hx a q) a)
theorem Pg:∀h∈lv x.S,h∉eE x->∀v∈(ob x.S h).Fields,v∉eE x:=λh hh hn v hv q=>by
 obtain⟨a,b⟩:=aZ.1 q;have hr:cJ x.S x.T (NJ x) h:=q9 λr=>hn (aZ.2 ⟨hh,r⟩);exact b (.step hr (lC.2 ⟨hv,λe=>pd hx.sh.sr (e▸a)⟩) a)
theorem Pj:∀k v,Has x.T k v->k∉eE x->v∉eE x:=λk v hk hn q=>by
 obtain⟨a,b⟩:=aZ.1 q;have hr:cJ x.S x.T (NJ x) k:=q9 λr=>hn (aZ.2 ⟨(hx.sh.pr k v hk).1,r⟩);exact b (.pair hk hr a)
theorem dW:O4 (gb x (eE x)):=yr hx (gC hx) (gB hx) (Ph hx) (Pg hx) (Pj hx)
end
theorem xb:∀(l:List Int) {x:Hp} (hR:SR x.S) {h:Int} (hh:h∈lv x.S) (hs:12<=(ob x.S h).Strong),12<=(ob (l.foldl R9 x).S h).Strong
 | [],_,_,_,_,hs=>hs
 | v::l,x,hR,h,hh,hs=>by
  have k1:=G2 hR v (f:=jC) λc=>P3;refine xb l (x:=R9 x v) k1.sr (by
   show h∈lv (se x v jC).S;rw[k1.lv];exact hh) ?_
  show 12<=(ob (se x v jC).S h).Strong;rw[tI (x:=x) hR (h:=v) (f:=jC) (λc=>P3) hh];split
  .unfold jC;rw[zb hs];omega
  .exact hs
section
variable{x:Hp}(hx:O4 x)
include hx
theorem vX{h:Int}:h∈lv (gb x (eE x)).S↔cJ x.S x.T (NJ x) h:=by
 rw[Ez hx.sh.sr (gC hx) (gB hx),zy,zH,aZ];constructor
 .rintro⟨a,b⟩;exact q9 λr=>b ⟨a,r⟩
 .intro r;exact⟨r.live,λq=>q.2 r⟩
theorem VV{h:Int}(hh:h∈lv (gb x (eE x)).S):(ob (gb x (eE x)).S h).Serial=(ob x.S h).Serial/\(ob (gb x (eE x)).S h).Prog=(ob x.S h).Prog/\(ob (gb x (eE x)).S h).Fields=(ob x.S h).Fields/\(ob (gb x (eE x)).S h).Started=(ob x.S h).Started:=by
 have r:=(vX hx).1 hh;obtain⟨n,e⟩:=EA hx.sh.sr (gC hx) (gB hx) r.live (λq=>(aZ.1 q).2 r);rw[e];exact⟨rfl,rfl,rfl,rfl⟩
theorem KW{h:Int}(hh:h∈lv (gb x (eE x)).S)(hs:12<=(ob x.S h).Strong):12<=(ob (gb x (eE x)).S h).Strong:=by
 have r:=(vX hx).1 hh;have g:=da (eE x) hx.sh.sr (gC hx) (gB hx);have hn:h∉eE x:=λq=>(aZ.1 q).2 r;refine xb _ (x:=il x (eE x) (mi x.T (eE x)).1) g.sr ?_ ?_
 .show h∈lv (lh x.S (eE x));rw[g.lv,zy];exact⟨r.live,by simpa using hn⟩
 .show 12<=(ob (lh x.S (eE x)) h).Strong;rw[g.ob h r.live hn];exact hs
theorem Tm:pf (gb x (eE x))=pf x:=by
 obtain⟨e1,_,_,e4⟩:=qG hx.sh.sr (gC hx) (gB hx);unfold pf;rw[e1,e4,wa _ _ _ λt ht=>by
  obtain⟨w,_,rfl,_⟩:=fT.1 ht;simp]
theorem Pf{h:Int}(hh:cJ x.S x.T (NJ x) h):cJ (gb x (eE x)).S (gb x (eE x)).T (NJ (gb x (eE x))) h:=by
 have w:=dW hx;obtain⟨_,_,e3,_⟩:=qG hx.sh.sr (gC hx) (gB hx);have hlen:(eE x).length<=1000:=by
  have:=gL (gC hx) (gB hx);have:=M6 (y5.2 hx.sh.sr);omega
 obtain⟨_,_,_,_,w5,_⟩:=ig hx.sh.hr (eE x) hlen;induction hh with
 | base h1 h2=>
  have hl:=(vX hx).2 (.base h1 h2);refine .base ?_ hl;rcases (Lc hx h1).2 with q | q
  .exact GU w hl (by rw[Tm hx];exact q)
  .exact uW.2 ⟨hl,.inr (KW hx hl q)⟩
 | step q0 q1 q2 ih=>
  refine .step ih ?_ ((vX hx).2 (.step q0 q1 q2));unfold outs at q1 |-;rw[(VV hx ((vX hx).2 q0)).2.2.1];exact q1
 | pair q1 q0 q2 ih=>
  refine .pair ?_ ih ((vX hx).2 (.pair q1 q0 q2));rw[e3];exact (w5 _ _).2 ⟨λq=>(aZ.1 q).2 q0,q1⟩
theorem CO:eE (gb x (eE x)) = []:=za0.2 λh hh=>by
 obtain⟨a,b⟩:=aZ.1 hh;exact b (Pf hx ((vX hx).1 a))
end
theorem CE{x:Hp}(hx:O4 x)(hg:eE x = []):zr x = []:=za0.2 λh hh=>by
 have hl:=(cd.1 hh).1;have hs:=(cd.1 hh).2;have hf:=Cr hx hh;have h0:h≠0:=λe=>pd hx.sh.sr (e▸hl);have r:cJ x.S x.T (NJ x) h:=q9 λr=>by
  have:h∈eE x:=aZ.2 ⟨hl,r⟩;rw[hg] at this;cases this
 unfold pe at hf;cases r with
 | base h1 h2=>
  rcases (Lc hx h1).2 with q | q
  .have:=dD.2 ⟨h0,q⟩;omega
  .omega
 | step q0 q1 q2=>
  have:=Bf (y:=h) q0.live;have h1:=dD.2 ⟨h0,q1⟩;omega
 | pair q1 q0 q2=>
  have:=Bw q1 h0;omega
theorem EY{x:Hp}(hx:O4 x):dx (gb x (eE x))=gb x (eE x):=DP (CE (dW hx) (CO hx))
end Go.Sh
