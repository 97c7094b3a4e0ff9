/- A part. -/
import Derived.Test.YtppgkaeodaaidaaGreatDoorU3rT
set_option linter.unusedVariables false
set_option linter.unusedSimpArgs false
set_option linter.unusedSectionVars false
namespace Go.Sh
theorem nN(x:Hp)(h:Int):(C7 x h).Roots=x.Roots/\(C7 x h).a8=x.a8/\(C7 x h).T=x.T/\(C7 x h).Q=x.Q:=by
 rw[tO];exact⟨rfl,rfl,rfl,rfl⟩
theorem ig{x:Hp}(hR:SR x.S)(h:Int):SR (C7 x h).S:=(G3 hR h λc=>E0).sr
section
variable{x:Hp}(hx:O4 x)(hS:∀k∈lv x.S,(ob x.S k).Strong<=9223372036854775807)
include hx hS
theorem rD{h:Int}(hh:h=0\/h∈lv x.S):h<=9223372036854775807:=by
 rcases hh with q | q
 .omega
 .have:=I3 hx.sh.sr q;omega
theorem HU(k:Int){h:Int}(hh:h<=9223372036854775807):ba x k h=some (if k<0\/5<k then (x,6) else if h=0\/h∈lv x.S then (H7 x k.toNat h,0) else (x,3)):=by
 have hR:=hx.sh.sr;have r6:=hx.sh.r6;unfold ba;by_cases hk:k<0\/5<k
 .rw[zb hk,zb (by rw[r6];simp;omega)]
 .rw[za hk,za (by rw[r6];simp;omega),dY hR hh,YK];by_cases hn:h=0\/h∈lv x.S
  .rw[zb hn,zA hn,za (by simp)];obtain⟨n,rfl⟩:∃n:Nat,k=n:=⟨k.toNat,by omega⟩;have hn6:n<6:=by omega
   have hnl:n<x.Roots.length:=by omega
   have old:x.Roots[n]<=9223372036854775807:=rD hx hS (hx.sh.rt _ (zl hnl));have e1:=nN x h;have hn2:n<(C7 x h).Roots.length:=by rw[e1.1];exact hnl
   rw[u9 hnl,YK];unfold F4 Q6 N2;rw[kl hR hh hS,YK];dsimp only;rw[V0 (by omega) (by rw[e1.1];omega),YK,u9 hn2,YK,YK];have hrel:=ee (x:=wR (C7 x h) (x.Roots.set n h)) (ig hR h) old;rw[zU,e1.1,show C9 ⟨(C7 x h).S,x.Roots.set n h,(C7 x h).a8,(C7 x h).T,(C7 x h).Q⟩ x.Roots[n]=_ from hrel];unfold H7;rw[zf,zc hnl];rfl
  .rw[za hn,zI hn,zb (by simp)]
theorem MR(k:Int){h:Int}(hh:h<=9223372036854775807):gU (hO x) k h=some (if k<0\/5<k then (hO x,6) else if h=0\/h∈lv x.S then (hO (H7 x k.toNat h),0) else (hO x,3)):=by
 have hR:=hx.sh.sr;have r6:=hx.sh.r6;unfold gU;by_cases hk:k<0\/5<k
 .rw[zb hk,zb (by simp;omega)]
 .rw[za hk,za (by simp;omega),vk hR hh,YK];by_cases hn:h=0\/h∈lv x.S
  .rw[zb hn,zA hn,za (by simp)];obtain⟨n,rfl⟩:∃n:Nat,k=n:=⟨k.toNat,by omega⟩;have hnl:n<x.Roots.length:=by omega
   have hnl':n<(hO x).Roots.length:=hnl;have old:x.Roots[n]<=9223372036854775807:=rD hx hS (hx.sh.rt _ (zl hnl));have e1:=nN x h;have r6':(hO x).Roots.length=6:=r6;rw[u9 hnl',YK,sf hR hh hS,YK,V0 (by omega) (by rw[r6'];omega),YK,u9 hnl',YK];have hrel:=oU (x:=wR (C7 x h) (x.Roots.set n h)) (ig hR h) old;rw[zU];rw[show J3 ⟨(hO (C7 x h)).S,(hO x).Roots.set n h,(hO (C7 x h)).a8,(hO (C7 x h)).T,(hO (C7 x h)).Q⟩ (hO x).Roots[n]=_ from hrel];unfold H7;rw[zf,zc hnl];rfl
  .rw[za hn,zI hn,zb (by simp)]
omit hx hS in
theorem VV {l:List Int} {n:Nat} (hn:n<l.length):oe l n=some (l[n],0)/\xd l n=some (l[n],0):=by
 constructor
 .unfold oe mz;rw[YK,za (by simp;omega),u9 hn,YK]
 .unfold xd;rw[za (by simp;omega),u9 hn,YK]
omit hx hS in
theorem Ry {l:List Int} {k:Int} (hk:¬(0<=k/\k<l.length)):oe l k=some (0,5)/\xd l k=some (0,5):=by
 constructor
 .unfold oe mz;rw[YK,zb (by simp;omega)]
 .unfold xd;rw[zb (by simp;omega)]
theorem uc(h k:Int)(hh:h<=9223372036854775807):(∃e,e≠0/\T8 x.S h k=some (0,e)/\gq (sO x.S) h k=some (0,e)) \/
  (h∈lv x.S/\∃n:Nat,k=n/\∃hn:n<(ob x.S h).Fields.length,T8 x.S h k=some ((ob x.S h).Fields[n],0)/\gq (sO x.S) h k=some ((ob x.S h).Fields[n],0)):=by
 have hR:=hx.sh.sr;obtain⟨e,h1,h2⟩:=aI (y6.2 hR) hh;have hg:M1 (sO x.S) h=some (oo (ob x.S h),e):=by
  rw[rk x.S (by have:=hR.len;omega) hh,h1];rfl
 unfold T8 gq;rw[h1,YK,hg,YK];by_cases q:h∈lv x.S
 .have:=h2.2 q;subst this;rw[za (by simp),za (by simp),show (oo (ob x.S h),(0:Int)).1.Fields=(ob x.S h).Fields from rfl];by_cases hk:0<=k/\k<(ob x.S h).Fields.length
  .right;obtain⟨n,rfl⟩:∃n:Nat,k=n:=⟨k.toNat,by omega⟩;have hn:n<(ob x.S h).Fields.length:=by omega
   refine⟨q,n,rfl,hn,?_,?_⟩
   .rw[(VV hn).1];rfl
   .rw[(VV hn).2];rfl
  .left;refine⟨5,by decide,?_,?_⟩
   .rw[(Ry hk).1];rfl
   .rw[(Ry hk).2];rfl
 .left;have he:(e != 0)=true:=by simpa using λc=>q (h2.1 c)
  refine⟨e,by simpa using he,?_,?_⟩;·simp only[he,zR]
  .simp only[he,zR]
theorem ME{s:a7}(hR:SR s){h:Int}(hh:h∈lv s){n:Nat}(hn:n<(ob s h).Fields.length)(v:Int) :
  oZ s h n v=some (cL s h (oG (ob s h) ((ob s h).Fields.set n v)),0)/\BG (sO s) h n v=some (sO (cL s h (oG (ob s h) ((ob s h).Fields.set n v))),0):=by
 have ok:=J5 hR hh;have hf:=ok.fl;have hle:=I3 hR hh;have ho:xQ s (oG (ob s h) ((ob s h).Fields.set n v)):=⟨ok.s1,ok.s2,ok.st,ok.wk,ok.p1,ok.p2,by simpa using hf⟩;have h1:=sw (o:=oG (ob s h) ((ob s h).Fields.set n v)) hR hh rfl ho;have h2:=sx (o:=oG (ob s h) ((ob s h).Fields.set n v)) hR hh rfl ho;constructor
 .unfold oZ;rw[wH (y6.2 hR) hh,YK,za (by simp)];unfold xD mz;dsimp only;rw[YK,za (by simp;omega),jU (by omega) (by omega),YK];have e:uG (List.replicate (ob s h).Fields.length (0:Int)) (ob s h).Fields=some (ob s h).Fields:=by
   unfold uG;rw[zb (by simp)];simp
  rw[e,YK,u9 hn,YK,YK,za (by simp),zU];dsimp only;rw[show K8 s h ⟨(ob s h).Serial,(ob s h).Strong,(ob s h).Weak,(ob s h).Prog,(ob s h).Started,(ob s h).Fields.set n v⟩=_ from h1];rfl
 .unfold BG;rw[rk s (by have:=hR.len;omega) (by omega),wH (y6.2 hR) hh,wl,YK,za (by simp)];unfold DF;have hn':n<(oo (ob s h)).Fields.length:=hn;have hf':(oo (ob s h)).Fields.length<=4:=hf;dsimp only;rw[za (by simp;omega),V0 (by omega) (by omega),YK,u9 hn',YK,YK,za (by simp),zU];dsimp only;rw[show P5 (sO s) h ⟨(oo (ob s h)).Serial,(oo (ob s h)).Strong,(oo (ob s h)).Weak,(oo (ob s h)).Prog,(oo (ob s h)).Started,(oo (ob s h)).Fields.set n v⟩=_ from h2];rfl
theorem KR(h k v:Int)(hh:h<=9223372036854775807)(hv:v<=9223372036854775807) :
  (∃e,e≠0/\aJ x h k v=some (x,e)/\kg (hO x) h k v=some (hO x,e)) \/
  (h∈lv x.S/\(v=0\/v∈lv x.S)/\∃n:Nat,k=n/\n<(ob x.S h).Fields.length/\aJ x h k v=some (bS x h n v,0)/\kg (hO x) h k v=some (hO (bS x h n v),0)):=by
 have hR:=hx.sh.sr;unfold aJ kg;rcases uc hx hS h k hh with ⟨e,he,f1,f2⟩ | ⟨hl,n,rfl,hn,f1,f2⟩
 .left;have he':(e != 0)=true:=by simpa using he
  refine⟨e,he,?_,?_⟩;·rw[f1,YK,zb he']
  .rw[show (hO x).S=sO x.S from rfl,f2,YK,zb he']
 .rw[f1,YK,za (by simp),show (hO x).S=sO x.S from rfl,f2,YK,za (by simp),dY hR hv,YK,vk hR hv,YK];by_cases hn2:v=0\/v∈lv x.S
  .right;refine⟨hl,hn2,n,rfl,hn,?_⟩;rw[zA hn2,za (by simp),za (by simp)];have xZ:=G3 hR v (f:=W5) λc=>E0;have hR1:SR (C7 x v).S:=xZ.sr;have hl1:h∈lv (C7 x v).S:=by rw[show lv (C7 x v).S=lv x.S from xZ.lv];exact hl
   have hof:(ob (C7 x v).S h).Fields=(ob x.S h).Fields:=by
    obtain⟨m,e⟩:=xZ.ob h hh;show (ob (sz x v W5).S h).Fields=_;rw[e]
   have hn1:n<(ob (C7 x v).S h).Fields.length:=by rw[hof];exact hn
   have old:(ob x.S h).Fields[n]<=9223372036854775807:=rD hx hS (hx.sh.fl h hl _ (zl hn));have ok:=J5 hR1 hl1;have sr2:SR (cL (C7 x v).S h (oG (ob (C7 x v).S h) ((ob (C7 x v).S h).Fields.set n v))):=bw (o:=oG (ob (C7 x v).S h) ((ob (C7 x v).S h).Fields.set n v)) hR1 hl1 rfl ⟨ok.s1,ok.s2,ok.st,ok.wk,ok.p1,ok.p2,by simpa using ok.fl⟩;obtain⟨p1,p2⟩:=ME hx hS hR1 hl1 hn1 v;have hd:(ob x.S h).Fields.getD n 0=(ob x.S h).Fields[n]:=by
    rw[zf,zc hn];rfl
   constructor
   .unfold I2 bp;rw[kl hR hv hS,YK];dsimp only;rw[p1,YK,YK];have hrel:=ee (x:=wS (C7 x v) (cL (C7 x v).S h (oG (ob (C7 x v).S h) ((ob (C7 x v).S h).Fields.set n v)))) sr2 old;rw[show C9 ⟨cL (C7 x v).S h (oG (ob (C7 x v).S h) ((ob (C7 x v).S h).Fields.set n v)),(C7 x v).Roots,(C7 x v).a8,(C7 x v).T,(C7 x v).Q⟩ (ob x.S h).Fields[n]=_ from hrel];unfold bS;rw[hd,hof];rfl
   .rw[sf hR hv hS,YK,show (hO (C7 x v)).S=sO (C7 x v).S from rfl,p2,YK];have hrel:=oU (x:=wS (C7 x v) (cL (C7 x v).S h (oG (ob (C7 x v).S h) ((ob (C7 x v).S h).Fields.set n v)))) sr2 old;dsimp only;rw[show J3 ⟨sO (cL (C7 x v).S h (oG (ob (C7 x v).S h) ((ob (C7 x v).S h).Fields.set n v))),(hO (C7 x v)).Roots,(hO (C7 x v)).a8,(hO (C7 x v)).T,(hO (C7 x v)).Q⟩ (ob x.S h).Fields[n]=_ from hrel];unfold bS;rw[hd,hof];rfl
  .left;refine⟨3,by decide,?_,?_⟩;·rw[zI hn2,zb (by simp)]
   .rw[zI hn2,zb (by simp)]
theorem Qu(k v:Int)(hk:k<=9223372036854775807)(hv:v<=9223372036854775807) :
  (∃e,e≠0/\cv x k v=some (x,e)/\nH (hO x) k v=some (hO x,e)) \/
  (k∈lv x.S/\(v=0\/v∈lv x.S)/\∃r,P9 x.T k v=some r/\r.2.2=0/\cv x k v=some (jX x v r.1 r.2.1,0)/\nH (hO x) k v=some (hO (jX x v r.1 r.2.1),0)):=by
 have hR:=hx.sh.sr;unfold cv nH;by_cases k0:k=0
 .left;subst k0;exact⟨2,by decide,by simp,by simp⟩
 .rw[za (by simpa using k0),za (by simpa using k0),dY hR hk,YK,vi hR hk,YK,dY hR hv,vk hR hv];have hkk:(k=0\/k∈lv x.S)↔k∈lv x.S:=by simp[k0]
  by_cases hl:k∈lv x.S/\(v=0\/v∈lv x.S)
  .obtain⟨hl,hn⟩:=hl;rw[zA (hkk.2 hl),zA hl,zA hn];simp only[Bool.not_true,pi,fM,YK,Bool.or_self,zm,zZ];obtain⟨r,r1,r2,r3,r4,r5⟩:=Jy hx.sh.hr k v;rw[r1,YK,show (hO x).T=x.T.map S9 from rfl,r4,YK];by_cases h0:r.2.2=0
   .right;refine⟨hl,hn,r,rfl,h0,?_⟩;have e1:(r.2.2 != 0)=false:=by simpa using h0
    have old:r.2.1<=9223372036854775807:=by
     rcases r5 with ⟨_,rfl⟩ | ⟨_,_,⟨i,hi,rfl⟩ | ⟨_,rfl⟩⟩ | ⟨_,_,⟨i,hi,rfl⟩ | ⟨d,_,_,_,_,rfl⟩ | ⟨_,_,rfl⟩⟩;·simp
     .exact rD hx hS (.inr (hx.sh.pr k _ ⟨i,hi,rfl⟩).2)
     .simp
     .exact rD hx hS (.inr (hx.sh.pr k _ ⟨i,hi,rfl⟩).2)
     .simp
     .simp
    constructor
    .rw[e1];simp only[zm,zZ];unfold J4 Y1;rw[kl hR hv hS,YK,YK];dsimp only;have hrel:=ee (x:=wT (C7 x v) r.1) (ig hR v) old;rw[show C9 ⟨(C7 x v).S,(C7 x v).Roots,(C7 x v).a8,r.1,(C7 x v).Q⟩ r.2.1=_ from hrel];rfl
    .dsimp only;rw[e1];simp only[zm,zZ];rw[sf hR hv hS,YK];have hrel:=oU (x:=wT (C7 x v) r.1) (ig hR v) old;rw[show J3 ⟨(hO (C7 x v)).S,(hO (C7 x v)).Roots,(hO (C7 x v)).a8,r.1.map S9,(hO (C7 x v)).Q⟩ r.2.1=_ from hrel];rfl
   .left;have e1:(r.2.2 != 0)=true:=by simpa using h0
    refine⟨r.2.2,h0,by rw[zb e1],by dsimp only;rw[zb e1]⟩
  .left;refine⟨3,by decide,?_,?_⟩
   .by_cases hl2:k∈lv x.S
    .have:¬(v=0\/v∈lv x.S):=λq=>hl ⟨hl2,q⟩;rw[zA (hkk.2 hl2),zI this];rfl
    .rw[zI λq=>hl2 (hkk.1 q)];rfl
   .by_cases hl2:k∈lv x.S
    .have:¬(v=0\/v∈lv x.S):=λq=>hl ⟨hl2,q⟩;rw[zA hl2,zI this];rfl
    .rw[zI hl2];rfl
end
theorem GZ{s:a7}(hR:SR s){h:Int}{i:Nat}(q:Z6 s h i):O9 s.S h=some ((yG s i).S,0):=by
 have hi:=q.1;have hc:=hR.cell i hi;have l9:=hR.l9;unfold O9 yG;rw[kY hR q,YK,za (by simp),Dc hi,YK];by_cases g:(ce s i).Gen=s.S.Last
 .rw[zb (by simpa using g),zb g,kK rfl hi hR.len];rfl
 .rw[za (by simpa using g),za g,kK rfl hi hR.len,F9 (by omega) (by omega)];rfl
theorem RL{s:a7}{i:Nat}(hi:i<s.S.a8.length):ix (sO s).a8 (i:Int)=some (cO (ce s i)):=by
 rw[HX,Dc hi];rfl
theorem HY(s:a7)(i:Nat)(c:b7):sO (G6 s i c)=⟨(sO s).a8.set i (cO c),s.S.Last,s.Serial⟩:=by
 unfold sO G6;rw[zb3]
theorem xA(t:y9)(p:H4)(hl:t.a8.length<=1000)(hp:p.a8.length=t.a8.length):bZ t p=some ⟨(List.range t.a8.length).map λk=>⟨(p.a8.getD k ⟨0,0,0⟩).State,(p.a8.getD k ⟨0,0,0⟩).Gen,(t.a8.getD k ⟨0,0,oo z0⟩).Val⟩,t.Last,t.Serial⟩:=by
 unfold bZ;simp only[jn];rw[LI (b:=80) t.a8.length (λk=>⟨(p.a8.getD k ⟨0,0,0⟩).State,(p.a8.getD k ⟨0,0,0⟩).Gen,(t.a8.getD k ⟨0,0,oo z0⟩).Val⟩) (by omega) (by omega) (λk acc hk=>?_) (λacc=>by simp)];·rfl
 .have hk2:k<p.a8.length:=by omega
  simp only[zQ,hk,zW,zR,u9 hk,u9 hk2,YK];rw[zf,zc hk2,zf,zc hk];rfl
theorem Lf{s:a7}(hR:SR s){h:Int}{i:Nat}(q:Z6 s h i):rR (sO s) h=some (sO (yG s i)):=by
 have hi:=q.1;have hc:=hR.cell i hi;have l9:=hR.l9;have hlen:=hR.len;have hr:=q.MQ hR;have hH:py h:=((qo hR).2 q).2.1;have hsl:(h-1) % 32=i:=((qo hR).2 q).2.2.1;have S9:i<(pl (sO s)).a8.length:=by rw[bX,C2];exact hi
 have key:∀st g,(st:Int)=st->bZ (sO s) ⟨(pl (sO s)).a8.set i ⟨st,g,0⟩,(pl (sO s)).Last⟩=some ⟨(sO s).a8.set i ⟨st,g,oo (ce s i).Val⟩,s.S.Last,s.Serial⟩:=λst g _=>by
  rw[xA _ _ (by rw[C2];omega) (by simp[bX])];congr 1;congr 1;refine zbn (by simp) λk h1 h2=>?_;have hk:k<s.S.a8.length:=by simpa[C2] using h1
  have hk2:k<(sO s).a8.length:=by rw[C2];exact hk
  have hk3:k<(pl (sO s)).a8.length:=by rw[bX];exact hk2
  simp only[sm,List.getElem_range,zb7];have e1:(sO s).a8.getD k ⟨0,0,oo z0⟩=cO (ce s k):=by
   rw[zf,zc hk2,F1 hk];simp[sO]
  have e2:((pl (sO s)).a8.set i ⟨st,g,0⟩).getD k ⟨0,0,0⟩=if k=i then ⟨st,g,0⟩ else yb k (cO (ce s k)):=by
   rw[jL S9];split;·rfl
   .rw[zf,zc hk3,F1 hk];simp[pl,sO]
  rw[e1,e2];by_cases e:k=i
  .subst e;rw[zb rfl,zb rfl];rfl
  .rw[za e,za (zar e)];rw[F1 hk];simp[sO,yb,cO]
 have fin:∀st g,(fk ⟨(sO s).a8.set i ⟨st,g,oo (ce s i).Val⟩,s.S.Last,s.Serial⟩ (i:Int) ⟨0,0,0,0,false,[]⟩)=some (sO (G6 s i ⟨st,g,z0⟩)):=λst g=>by
  unfold fk;have hi2:i<((sO s).a8.set i ⟨st,g,oo (ce s i).Val⟩).length:=by simp[C2];exact hi
  rw[V0 (by omega) (by simp[C2];omega),YK,u9 hi2,YK,HY];simp[cO,oo,zch]
 unfold rR DD yG;rw[iY _ (by rw[C2];omega),YK,ta s (by omega),kY hR q,YK,za (by simp)];rw[Dy (by rw[C2];exact hi),YK];have hgen:(yb i ((sO s).a8[i]'(by rw[C2];exact hi))).Gen=(ce s i).Gen:=by
  rw[F1 hi];simp[yb,sO,cO]
 have hlast:(pl (sO s)).Last=s.S.Last:=rfl;have w3:∀c:O8,bF (pl (sO s)) (i:Int) c=some ⟨(pl (sO s)).a8.set i c,(pl (sO s)).Last⟩:=λc=>by
  unfold bF;rw[V0 (by omega) (by rw[bX,C2];omega),YK,u9 S9,YK,zU]
 rw[hgen,hlast,nE,zb hH,hsl];by_cases g:(ce s i).Gen=s.S.Last
 .rw[zb (by simp[g]),zb g,w3,YK,YK,za (by simp),key _ _ rfl,YK,YK,fin];rfl
 .rw[za (by simp;omega),za g,w3,YK,YK,za (by simp),key _ _ rfl,YK,YK,F9 (by omega) (by omega),fin];rfl
section
variable{x:Hp}(hR:SR x.S)
include hR
theorem yQ{h d:Int}(hh:h<=9223372036854775807)(hw:Z6 x.S h (D4 h) -> -1000<=(ce x.S (D4 h)).Val.Weak+d/\(ce x.S (D4 h)).Val.Weak+d<=1000):cy x h d=some (jV x h d):=by
 unfold cy jV;by_cases q:Z6 x.S h (D4 h)
 .have:=hw q;rw[zb q,kY hR q,YK];simp only[pi,zR];rw[Dc q.1,YK,F9 (by omega) (by omega),BY hR q,YK];rfl
 .have hno:∀i,¬Z6 x.S h i:=λi hi=>q (by rw[hi.D4 hR];exact hi);rw[za q,qc hR hh hno,YK];have:((if h=0 then 2 else 3:Int)==0)=false:=by simpa using eW h
  simp only[this,zm,zZ]
theorem Eg{h:Int}(hh:h<=9223372036854775807)(hw:Z6 x.S h (D4 h)->1<=(ce x.S (D4 h)).Val.Weak/\(ce x.S (D4 h)).Val.Weak<=1000):eF x h=some (od x h):=by
 unfold eF;rw[yQ hR hh (λq=>by have:=hw q;omega),YK];unfold jV od;by_cases q:Z6 x.S h (D4 h)
 .have hw:=hw q;rw[zb q,zb q];have Sj:=wJ hR q.1 q.2.1 (d:=-1) (by omega);have q1:Z6 (oM x.S (D4 h) (-1)) h (D4 h):=(va q.1 _).2 q;dsimp only;rw[kY Sj q1,YK,za (by simp),Dc q1.1,YK,fC hR q.1 q.2.1,zb rfl];dsimp only;by_cases c:(ce x.S (D4 h)).State=2/\(ce x.S (D4 h)).Val.Weak=1
  .rw[zb c,zb (by simp[c.1,c.2]),GZ Sj q1,YK];rfl
  .rw[za c,za (by simp only[zk,we];omega)]
 .have hno:∀i,¬Z6 x.S h i:=λi hi=>q (by rw[hi.D4 hR];exact hi);rw[za q,za q,qc hR hh hno,YK];have:((if h=0 then 2 else 3:Int) != 0)=true:=by simpa using eW h
  simp only[this,zR]
theorem JH{h:Int}(hh:h<=9223372036854775807)(hw:Z6 x.S h (D4 h)->1<=(ce x.S (D4 h)).Val.Weak/\(ce x.S (D4 h)).Val.Weak<=1000):cD (hO x) h=some (hO (od x h)):=by
 have hl:=hR.len;unfold cD;rw[show (hO x).S=sO x.S from rfl,iY _ (by rw[C2];omega),YK,ta x.S hh];unfold od;by_cases q:Z6 x.S h (D4 h)
 .have hw:=hw q;have hr:=q.MQ hR;rw[zb q,kY hR q,YK,za (by simp),RL q.1,YK];have Sj:=wJ hR q.1 q.2.1 (d:=-1) (by omega);have q1:Z6 (oM x.S (D4 h) (-1)) h (D4 h):=(va q.1 _).2 q;have hs:P5 (sO x.S) h (oo (VK (ce x.S (D4 h)).Val ((ce x.S (D4 h)).Val.Weak + -1)))=some (sO (oM x.S (D4 h) (-1)),0):=by
   rw[Ni x.S hl hh,BY hR q];rfl
  have hw64:z6 ((cO (ce x.S (D4 h))).Val.Weak-1)=(ce x.S (D4 h)).Val.Weak + -1:=by
   show z6 ((ce x.S (D4 h)).Val.Weak-1)=_;rw[F9 (by omega) (by omega)];omega
  rw[hw64];rw[show P5 (sO x.S) h ⟨(cO (ce x.S (D4 h))).Val.Serial,(cO (ce x.S (D4 h))).Val.Strong,(ce x.S (D4 h)).Val.Weak + -1,(cO (ce x.S (D4 h))).Val.Prog,(cO (ce x.S (D4 h))).Val.Started,(cO (ce x.S (D4 h))).Val.Fields⟩=_ from hs,YK,RL q1.1,YK,fC hR q.1 q.2.1,zb rfl];by_cases c:(ce x.S (D4 h)).State=2/\(ce x.S (D4 h)).Val.Weak=1
  .rw[zb c,zb (by simp[cO,c.1,c.2]),Lf Sj q1,YK];rfl
  .rw[za c,za (by simp only[cO,zk,we,t8];omega)];rfl
 .have hno:∀i,¬Z6 x.S h i:=λi hi=>q (by rw[hi.D4 hR];exact hi);rw[za q,qc hR hh hno,YK];have:((if h=0 then 2 else 3:Int) != 0)=true:=by simpa using eW h
  simp only[this,zR]
end
theorem NH{l:List j5}(hl:l.length<=1000){n:Nat}(hn:n<l.length)(h call:Int):sJ l n h call=some (l.set n (jf h call),l[n].Target,0):=by
 unfold sJ kJ aU;simp only[YK];rw[za (by simp;omega),jU (by omega) (by omega),YK];have e:uG (List.replicate l.length (⟨0,false,0⟩:j5)) l=some l:=by
  unfold uG;rw[zb (by simp)];simp
 rw[e,YK,YK,u9 hn,YK,YK,zU]
theorem Gg{l:List j5}(hl:l.length<=1000){n:Nat}(hn:n<l.length)(h call:Int):BI (l.map qG) n h call=some ((l.set n (jf h call)).map qG,l[n].Target,0):=by
 unfold BI;have hn':n<(l.map qG).length:=by simpa using hn
 rw[za (by simp;omega),V0 (by omega) (by simp;omega),YK,u9 hn',YK,YK,zU,zb3];simp[qG]
theorem Uk(l:List j5)(h:Int):Cy l h<=l.length:=zbi
theorem Rp{x:Hp}(hx:O4 x)(k h call:Int)(hh:h<=9223372036854775807)(hc : -1<=call/\call<=5) :
  (∃e,e≠0/\W2 x k h call=some (x,e)/\gV (hO x) k h call=some (hO x,e)) \/
  ((h=0\/h∈lv x.S)/\∃n:Nat,k=n/\n<6/\JL x.Q n=false/\W2 x k h call=some (dP x n h call,0)/\gV (hO x) k h call=some (hO (dP x n h call),0)):=by
 have hR:=hx.sh.sr;have c6:=hx.sh.c6;have q30:=hx.sh.q30;unfold W2 gV;by_cases hk:k<0\/5<k
 .left;have e1:((decide (k<0))||(decide (k>=(x.a8.length:Int))))=true:=by rw[c6];simp;omega
  have e2:((decide (k<0))||(decide (k > 5)))=true:=by simp;omega
  refine⟨7,by decide,?_,?_⟩;·rw[e1];rfl
  .rw[e2];rfl
 .obtain⟨n,rfl⟩:∃n:Nat,k=n:=⟨k.toNat,by omega⟩;have hn6:n<6:=by omega
  have e1:((decide ((n:Int)<0))||(decide ((n:Int)>=(x.a8.length:Int))))=false:=by rw[c6];simp;omega
  have e2:((decide ((n:Int)<0))||(decide ((n:Int) > 5)))=false:=by simp;omega
  rw[e1,e2];simp only[pi,fM,zbq];have hwq:iq x.Q n=some (JL x.Q n):=QZ (by omega);have hwr:oR (hO x).Q n=some (JL x.Q n):=QG (by omega);rw[hwq,YK,hwr,YK,dY hR hh,YK,vk hR hh,YK];by_cases hw:JL x.Q n=true
  .left;rw[zb hw,zb hw];exact⟨7,by decide,rfl,rfl⟩
  .have hw:JL x.Q n=false:=by simpa using hw
   rw[hw,za (show ¬(false=true) by decide),za (show ¬(false=true) by decide)];by_cases hl:h=0\/h∈lv x.S
   .right;refine⟨hl,n,rfl,hn6,hw,?_⟩;have hnl:n<x.a8.length:=by omega
    rw[zA hl,za (by simp),za (by simp),NH (by omega) hnl,YK,show (hO x).a8=x.a8.map qG from rfl,Gg (by omega) hnl,YK];have htg:sA x n=x.a8[n].Target:=by
     unfold sA;rw[zf,zc hnl];rfl
    have wkb:∀i,i<x.S.S.a8.length->Th (ce x.S i)->0<=(ce x.S i).Val.Weak/\(ce x.S i).Val.Weak<=6:=λi hi ht=>by
     have:=(hx.wk i hi ht).1;have:=Uk x.a8 (1+(i:Int)+32*(ce x.S i).Gen);omega
    have mk1:∃s2,jV (wC x (x.a8.set n (jf h call))) h 1=wS (wC x (x.a8.set n (jf h call))) s2/\SR s2/\(∀k i,Z6 s2 k i↔Z6 x.S k i)/\(∀i,i<x.S.S.a8.length->Th (ce x.S i)->(ce x.S i).Val.Weak<=(ce s2 i).Val.Weak/\(ce s2 i).Val.Weak<=(ce x.S i).Val.Weak+1) /\
      (h≠0->M1 (sO x.S) h=some (oo (ce x.S (D4 h)).Val,0)/\P5 (sO x.S) h (oo (VK (ce x.S (D4 h)).Val ((ce x.S (D4 h)).Val.Weak+1)))=some (sO s2,0))/\(h=0->s2=x.S):=by
     unfold jV;by_cases h0:h=0
     .have hno:¬Z6 x.S h (D4 h):=λq=>by have:=q.MQ hR;omega
      rw[za hno];exact⟨x.S,rfl,hR,λ_ _=>Iff.rfl,λi _ _=>by omega,λq=>absurd h0 q,λ_=>rfl⟩
     .have hll:=hl.resolve_left h0;have hp:=A3 hR hll;have hb:=wkb _ hp.1 (.inl hp.2.1);rw[zb hp.d];have kn:=lH hR hp.1 (.inl hp.2.1) (d:=1) (by omega);refine⟨_,rfl,kn.sr,kn.ad,λi hi ht=>?_,λ_=>⟨?_,?_⟩,λq=>absurd q h0⟩
      .rw[fC hR hp.1 (.inl hp.2.1)];split;·rename_i e;subst e;dsimp only;omega
       .omega
      .rw[rk x.S (by have:=hR.len;omega) hh,Tc hR hp];rfl
      .rw[Ni x.S hR.len hh,BY hR hp.d];rfl
    obtain⟨s2,m1,m2,m3,m4,m5,m6⟩:=mk1;have hold:sA x n<=9223372036854775807:=by
     by_cases q:sA x n=0
     .omega
     .obtain⟨p,hp⟩:=(hx.sh.cl n hnl).2.2.2.1 (by rw[<-htg];exact q);have:=hp.MQ hR;rw[htg];omega
    have hun:Z6 s2 (sA x n) (D4 (sA x n))->1<=(ce s2 (D4 (sA x n))).Val.Weak/\(ce s2 (D4 (sA x n))).Val.Weak<=1000:=λq=>by
     have q':=(m3 _ _).1 q;have r:=q'.MQ hR;have:=(hx.wk _ q'.1 q'.2.1).1;have hp:0<Cy x.a8 x.a8[n].Target:=rJ hnl (by rw[<-htg];omega);rw[<-htg,q'.2.2] at hp;have:=m4 _ q'.1 q'.2.1;have:=wkb _ q'.1 q'.2.1;omega
    have u1:=Eg (x:=wS (wC x (x.a8.set n (jf h call))) s2) m2 hold hun;have u2:=JH (x:=wS (wC x (x.a8.set n (jf h call))) s2) m2 hold hun;have hwb:Z6 x.S h (D4 h) -> -1000<=(ce x.S (D4 h)).Val.Weak+1/\(ce x.S (D4 h)).Val.Weak+1<=1000:=λq=>by
     have:=wkb _ q.1 q.2.1;omega
    have mm:=yQ (x:=wC x (x.a8.set n (jf h call))) (d:=1) hR hh hwb;constructor
    .dsimp only;rw[show cy ⟨x.S,x.Roots,x.a8.set n (jf h call),x.T,x.Q⟩ h 1=_ from mm,YK,m1,<-htg,u1,YK];unfold dP;rw[m1]
    .unfold dP;rw[m1];dsimp only;by_cases h0:h=0
     .rw[za (by simpa using h0),<-htg];rw[m6 h0] at u2 |-;rw[show cD ⟨(hO x).S,(hO x).Roots,(x.a8.set n (jf h call)).map qG,(hO x).T,(hO x).Q⟩ (sA x n)=_ from u2,YK]
     .obtain⟨g1,g2⟩:=m5 h0;have hp:=A3 hR (hl.resolve_left h0);have hb:=wkb _ hp.1 (.inl hp.2.1);rw[zb (by simpa using h0),show (hO x).S=sO x.S from rfl,g1,YK];have e:z6 ((oo (ce x.S (D4 h)).Val).Weak+1)=(ce x.S (D4 h)).Val.Weak+1:=by
       show z6 ((ce x.S (D4 h)).Val.Weak+1)=_;rw[F9 (by omega) (by omega)]
      dsimp only;rw[e];rw[show P5 (sO x.S) h ⟨(oo (ce x.S (D4 h)).Val).Serial,(oo (ce x.S (D4 h)).Val).Strong,(ce x.S (D4 h)).Val.Weak+1,(oo (ce x.S (D4 h)).Val).Prog,(oo (ce x.S (D4 h)).Val).Started,(oo (ce x.S (D4 h)).Val).Fields⟩=_ from g2,YK,<-htg];dsimp only;rw[show cD ⟨sO s2,(hO x).Roots,(x.a8.set n (jf h call)).map qG,(hO x).T,(hO x).Q⟩ (sA x n)=_ from u2,YK]
   .left;rw[zI hl];refine⟨3,by decide,?_,?_⟩ <;> rw[zb (by rfl)]
section
variable{x:Hp}(hx:O4 x)(hS:∀k∈lv x.S,(ob x.S k).Strong<=9223372036854775807)
include hx hS
end
theorem GW{α:Type}{l:List α}{i:Nat}(h:i<l.length)(d:α):l.getD i d=l[i]:=by
 rw[zf,zc h];rfl
def Yx(a b:n0):Prop:=a.Kind=b.Kind/\a.At=b.At
instance(a b:n0):Decidable (Yx a b):=by unfold Yx;infer_instance
section
variable{x:Hp}(hR:SR x.S)
include hR
omit hR in
theorem KN:Rv x.S x.T (pq x)↔ck x []:=by
 constructor
 .intro h k hk hlt;have:=h k hk hlt;unfold Jw inr at this;rw[zb hk] at this;rw[R5];unfold po;omega
 .intro h k hk hlt;have:=h k hk hlt;rw[R5] at this;unfold po at this;unfold Jw inr;rw[zb hk];omega
end
section
variable{x:Hp}(hx:O4 x)(hB:HB x)
include hx hB
end
def SL(x:Hp):Prop:=∀k∈lv x.S,(ob x.S k).Strong<=9223372036854775807
theorem SB.sl{x:Hp}(hR:SR x.S)(h:SB x.S):SL x:=λk hk=>JF hR h k hk
theorem Wo{x:Hp}(hx:O4 x)(hS:SL x):HB x:=by
 have hR:=hx.sh.sr;have bd:∀v,v=0\/v∈lv x.S->v<=9223372036854775807:=λv q=>by
  rcases q with q | q
  .omega
  .have:=I3 hR q;omega
 refine⟨Xi.2 λi hi=>?_,Wi.2 λi hi v hv=>?_,λv hv=>bd v (hx.sh.rt v hv),λc hc=>?_,λp hp=>?_,λt ht=>?_⟩
 .by_cases t:Th (ce x.S i)
  .rcases t with t | t
   .have q:At x.S (1+(i:Int)+32*(ce x.S i).Gen) i:=⟨hi,t,rfl⟩;have:=hS _ ((fJ hR).2 ⟨i,q⟩);rwa [Q2 hR q] at this
   .have:=((hx.wk i hi (.inr t)).2 t).2.2;omega
  .have:=(hR.no i hi t).2.1;simp only[oo] at this;omega
 .by_cases t:Th (ce x.S i)
  .rcases t with t | t
   .have q:At x.S (1+(i:Int)+32*(ce x.S i).Gen) i:=⟨hi,t,rfl⟩;have hm:=(fJ hR).2 ⟨i,q⟩;exact bd v (hx.sh.fl _ hm v (by rw[Q2 hR q];exact hv))
   .rw[((hx.wk i hi (.inr t)).2 t).2.1] at hv;cases hv
  .have:=(hR.no i hi t).2.2.2.2.2;simp only[oo] at this;rw[zH this] at hv;cases hv
 .obtain⟨i,hi,rfl⟩:=zbg hc;by_cases e:x.a8[i].Target=0
  .omega
  .obtain⟨p,hp⟩:=(hx.sh.cl i hi).2.2.2.1 e;have:=hp.MQ hR;omega
 .obtain⟨i,hi,rfl⟩:=zbg hp;have e:pt x.T i=x.T[i]:=by
   unfold pt;rw[zf,zc hi];rfl
  by_cases s1:(pt x.T i).State=1
  .obtain⟨a,b⟩:=hx.sh.pr (pt x.T i).Key (pt x.T i).Val ⟨i,⟨hi,s1,rfl⟩,rfl⟩;rw[e] at a b;exact⟨bd _ (.inr a),bd _ (.inr b)⟩
  .obtain⟨a,b⟩:=(hx.sh.hr.st i hi).2 s1;rw[e] at a b;omega
 .obtain⟨_,_,q | q⟩:=hx.sh.tk t ht;·exact bd _ (.inr q.2.1)
  .omega
theorem PF(c:Int):W5 c<=12:=by unfold W5;split <;> (try split) <;> omega
theorem Po{c:Int}(h:c<=9223372036854775807):jI c<=9223372036854775807:=by unfold jI;split <;> (try split) <;> omega
theorem SL.of{x y:Hp}(h:SL x)(hl:lv y.S=lv x.S)(hs:∀k∈lv x.S,(ob y.S k).Strong=(ob x.S k).Strong):SL y:=λk hk=>by
 rw[hl] at hk;rw[hs k hk];exact h k hk
theorem SL.st{x:Hp}(h:SL x)(hR:SR x.S)(v:Int){f:Int->Int}(hf:∀c,0<=c->0<=f c)(hb:∀c,c<=9223372036854775807->f c<=9223372036854775807):SL (sz x v f):=λk hk=>by
 rw[(G3 hR v hf).lv] at hk;rw[tU hR v hf hk];split;·exact hb _ (h k hk)
 .exact h k hk
theorem SL.C7{x:Hp}(h:SL x)(hR:SR x.S)(v:Int):SL (C7 x v):=h.st hR v (λc=>E0) λc _=>by have:=PF c;omega
theorem SL.XE{x:Hp}(h:SL x)(hR:SR x.S)(v:Int):SL (R8 x v):=h.st hR v (λc=>P3) λc hc=>Po hc
theorem FQ{x:Hp}(hR:SR x.S)(v:Int):SR (R8 x v).S:=(G3 hR v λc=>P3).sr
theorem km{x:Hp}(hR:SR x.S)(h:SL x)(r:Nat)(v:Int):SL (H7 x r v):=by
 unfold H7;exact SL.XE (x:=wR (C7 x v) (x.Roots.set r v)) (h.C7 hR v) (ig hR v) _
theorem IN{x:Hp}(hR:SR x.S)(hS:SL x){h:Int}(hh:h∈lv x.S)(k:Nat)(v:Int):SL (bS x h k v):=by
 have xZ:=G3 hR v (f:=W5) λc=>E0;have hR1:SR (C7 x v).S:=xZ.sr;have hl1:h∈lv (C7 x v).S:=by rw[show lv (C7 x v).S=lv x.S from xZ.lv];exact hh
 have hof:(ob (C7 x v).S h).Fields=(ob x.S h).Fields:=by
  obtain⟨m,e⟩:=xZ.ob h (by have:=I3 hR hh;omega);show (ob (sz x v W5).S h).Fields=_;rw[e]
 have ok:=J5 hR1 hl1;have ho:xQ (C7 x v).S (oG (ob (C7 x v).S h) ((ob x.S h).Fields.set k v)):=⟨ok.s1,ok.s2,ok.st,ok.wk,ok.p1,ok.p2,by have:=ok.fl;rw[hof] at this;simpa using this⟩;have sr2:=bw (o:=oG (ob (C7 x v).S h) ((ob x.S h).Fields.set k v)) hR1 hl1 rfl ho;unfold bS;refine SL.XE (x:=wS (C7 x v) (cL (C7 x v).S h (oG (ob (C7 x v).S h) ((ob x.S h).Fields.set k v)))) ?_ sr2 _;refine (hS.C7 hR v).of (fH hR1 hl1 rfl ho) λj hj=>?_;dsimp only;rw[eh (o:=oG (ob (C7 x v).S h) ((ob x.S h).Fields.set k v)) hR1 hl1 rfl ho (by have:=I3 hR1 hj;omega)];split;·rename_i e;rw[e]
 .rfl
theorem Mu{x:Hp}(hR:SR x.S)(hS:SL x)(v:Int)(t:Tb)(old:Int):SL (jX x v t old):=by
 unfold jX;exact SL.XE (x:=wT (C7 x v) t) (hS.C7 hR v) (ig hR v) _
theorem Ug{x:Hp}(hR:SR x.S)(hS:SL x)(h:Int){d:Int}(hd:Z6 x.S h (D4 h)->0<=(ce x.S (D4 h)).Val.Weak+d):SL (jV x h d):=by
 unfold jV;split
 .rename_i q;exact hS.of (lH hR q.1 q.2.1 (hd q)).lv λk hk=>lI hR q.1 q.2.1 (hd q) hk
 .exact hS
theorem Io{x:Hp}(hR:SR x.S)(hS:SL x)(h:Int)(hd:Z6 x.S h (D4 h)->1<=(ce x.S (D4 h)).Val.Weak):SL (od x h):=by
 unfold od;split
 .rename_i q;have hd:=hd q;have kn:=lH (d:=-1) hR q.1 q.2.1 (by omega);have s1:SL (wS x (oM x.S (D4 h) (-1))):=hS.of kn.lv λk hk=>lI hR q.1 q.2.1 (by omega) hk;split
  .rename_i c;have hi1:D4 h<(oM x.S (D4 h) (-1)).S.a8.length:=by rw[kn.len];exact q.1
   have hce:ce (oM x.S (D4 h) (-1)) (D4 h)=⟨(ce x.S (D4 h)).State,(ce x.S (D4 h)).Gen,VK (ce x.S (D4 h)).Val ((ce x.S (D4 h)).Val.Weak + -1)⟩:=by
    rw[fC hR q.1 q.2.1,zb rfl]
   have h2:(ce (oM x.S (D4 h) (-1)) (D4 h)).State=2:=by rw[hce];exact c.1
   exact s1.of (Bb kn.sr hi1 h2) λk hk=>by
    dsimp only;rw[Bc kn.sr hi1 h2 hk]
  .exact s1
 .exact hS
theorem NF{x:Hp}(hx:O4 x)(hS:SL x){n:Nat}(hn:n<6)(h call:Int):SL (dP x n h call):=by
 have hR:=hx.sh.sr;have hnl:n<x.a8.length:=by have:=hx.sh.c6;omega
 have ok:∀k i,Z6 x.S k i->0<=(ce x.S i).Val.Weak:=λk i q=>(hR.ok i q.1 q.2.1).wk;have tw:∀i,Z6 x.S (sA x n) i->1<=(ce x.S i).Val.Weak:=λi q=>by
  have htg:sA x n=x.a8[n].Target:=by
   unfold sA;rw[zf,zc hnl];rfl
  have r:=q.MQ hR;have p:=rJ hnl (by rw[<-htg];omega);rw[<-htg,q.2.2] at p;have:=(hx.wk i q.1 q.2.1).1;omega
 unfold dP;have s1:SL (jV (wC x (x.a8.set n (jf h call))) h 1):=Ug (x:=wC x (x.a8.set n (jf h call))) hR hS h λq=>by
  have:=ok _ _ q;dsimp only;omega
 by_cases q:Z6 x.S h (D4 h)
 .have e:jV (wC x (x.a8.set n (jf h call))) h 1=wS (wC x (x.a8.set n (jf h call))) (oM x.S (D4 h) 1):=by
   unfold jV;rw[zb q]
  have hd:=ok _ _ q;have kn:=lH (d:=1) hR q.1 q.2.1 (by omega);rw[e] at s1 |-;refine Io kn.sr s1 _ λq2=>?_;dsimp only at q2 |-;have q3:=(kn.ad _ _).1 q2;have:=tw _ q3;rw[fC hR q.1 q.2.1];split
  .rename_i e2;rw[e2] at this;show 1<=(ce x.S (D4 h)).Val.Weak+1;omega
  .exact this
 .have e:jV (wC x (x.a8.set n (jf h call))) h 1=wC x (x.a8.set n (jf h call)):=by
   unfold jV;rw[za q]
  rw[e] at s1 |-;exact Io (x:=wC x (x.a8.set n (jf h call))) hR s1 _ λq2=>tw _ q2
section
variable{x:Hp}(hx:O4 x)(hS:SL x)
include hx hS
end
def Rw(x:Hp):Prop:=Sm x.S/\x.Roots.length<=20/\x.a8.length<=20/\x.T.length<=20/\x.Q.L.length<=60
instance(x:Hp):Decidable (Rw x):=by unfold Rw;infer_instance
def PD:Hp:=⟨⟨⟨[],0⟩,0⟩,[],[],[],⟨[],0⟩⟩
theorem xv(x:Hp)(h:Int)(f:Int->Int):(sz x h f).Roots=x.Roots/\(sz x h f).a8=x.a8/\(sz x h f).T=x.T/\(sz x h f).Q=x.Q:=by
 unfold sz;split <;> exact⟨rfl,rfl,rfl,rfl⟩
theorem ic(x:Hp)(r:Nat)(h:Int):(H7 x r h).Roots=x.Roots.set r h/\(H7 x r h).a8=x.a8/\(H7 x r h).T=x.T/\(H7 x r h).Q=x.Q:=by
 obtain⟨a,b,c,d⟩:=xv (wR (C7 x h) (x.Roots.set r h)) (x.Roots.getD r 0) jI;obtain⟨a',b',c',d'⟩:=xv x h W5;exact⟨a,b.trans b',c.trans c',d.trans d'⟩
section
variable{x:Hp}(hB:HB x)
include hB
end
abbrev IK(o:p7):p7:=⟨o.Serial,0,o.Weak,o.Prog,o.Started,[]⟩
def JN(s:a7)(i:Nat):b7:=
 if (ce s i).Val.Weak=0 then (if (ce s i).Gen=s.S.Last then ⟨3,(ce s i).Gen,z0⟩ else ⟨0,(ce s i).Gen+1,z0⟩) else ⟨2,(ce s i).Gen,IK (ce s i).Val⟩
def AZ(s:a7)(d:Int):a7:=G6 s (D4 d) (JN s (D4 d))
def ly(s:a7)(ds:List Int):a7:=ds.foldl AZ s
theorem TG(s:a7)(i:Nat):(JN s i).State≠1:=by
 unfold JN;split;·split <;> simp
 .simp
theorem FH{s:a7}(hR:SR s){a b:Int}(ha:a∈lv s)(hb:b∈lv s)(h:a≠b):D4 a≠D4 b:=λe=>by
 have h1:=A3 hR ha;have h2:=A3 hR hb;rw[e] at h1;exact h (h1.2.2.trans h2.2.2.symm)
section
variable{s:a7}(hR:SR s){d:Int}(hd:d∈lv s)
include hR hd
theorem Fl:SR (AZ s d):=by
 have q:=A3 hR hd;have hc:=hR.cell _ q.1;have ho:=hR.ok _ q.1 (.inl q.2.1);have no:Iq (oo z0):=⟨rfl,rfl,rfl,rfl,rfl,rfl⟩;unfold AZ JN;split
 .split;·exact hR.G6 q.1 ⟨by simp,by simp,hc.2.2.1,hc.2.2.2⟩ (λ_=>no) (λq=>absurd q (by unfold Th;simp))
  .refine hR.G6 q.1 ⟨by simp,by simp,?_,?_⟩ (λ_=>no) (λq=>absurd q (by unfold Th;simp));·show 0<=(ce s (D4 d)).Gen+1;omega
   .show (ce s (D4 d)).Gen+1<=s.S.Last;omega
 .exact hR.G6 q.1 ⟨by simp,by simp,hc.2.2.1,hc.2.2.2⟩ (λq=>absurd (.inr rfl) q) (λ_=>⟨⟨ho.s1,ho.s2,n8 _,ho.wk,ho.p1,ho.p2,ut _⟩,.inl q.2.1,rfl⟩)
theorem Lg(j:Nat):ce (AZ s d) j=if j=D4 d then JN s (D4 d) else ce s j:=L4 (A3 hR hd).1 _ j
theorem TE:lv (AZ s d)=(lv s).filter λh=>decide (h≠d):=by
 have hS:=Fl hR hd;unfold AZ at hS |-;have hc:=TG s (D4 d);rw[Hi hR (A3 hR hd).1 hc hS];refine zbb λh hh=>zbm.2 ⟨λq e=>q (by rw[e]),λq=>FH hR hh hd q⟩
theorem TF{k:Int}(hk:k∈lv s)(hne:k≠d):ob (AZ s d) k=ob s k:=by
 have hS:=Fl hR hd;unfold AZ at hS |-;exact Ht hR (A3 hR hd).1 hS hk (FH hR hk hd hne)
end
structure Gn (s s':a7) (ds:List Int):Prop where
 sr:SR s'
 len:s'.S.a8.length=s.S.a8.length
 last:s'.S.Last=s.S.Last
 R9:s'.Serial=s.Serial
 lv:lv s'=(lv s).filter λh=>decide (h∉ds)
 ob:∀k∈Sh.lv s,k∉ds->ob s' k=ob s k
 ce:∀j,ce s' j=if j∈ds.map D4 then JN s j else ce s j
theorem db:∀(ds:List Int) {s:a7} (hR:SR s),ds.Nodup->(∀d∈ds,d∈lv s)->Gn s (ly s ds) ds
 | [],s,hR,_,_=>⟨hR,rfl,rfl,rfl,(zbf.2 (λa _=>by simp)).symm,λ_ _ _=>rfl,λj=>by simp[ly]⟩
 | d::ds,s,hR,hn,hm=>by
  rw[zau] at hn;have hd:=hm d (zh ..);have hlv:=TE hR hd;have hm':∀e∈ds,e∈lv (AZ s d):=λe he=>by
   rw[hlv,zB,zK];exact⟨hm e (zo _ he),λq=>hn.1 (q▸he)⟩
  have ih:=db ds (Fl hR hd) hn.2 hm';refine⟨ih.sr,ih.len.trans (Z5 ..),ih.last,ih.R9,?_,λk hk hne=>?_,λj=>?_⟩
  .show lv (ly (AZ s d) ds)=_;rw[ih.lv,hlv,List.filter_filter];refine zbb λh hh=>?_;rw[zbs];simp only[zk,zK,zL,not_or];exact⟨λq=>⟨q.2,q.1⟩,λq=>⟨q.2,q.1⟩⟩
  .show ob (ly (AZ s d) ds) k=_;rw[zL,not_or] at hne;rw[ih.ob k (by rw[hlv,zB,zK];exact⟨hk,hne.1⟩) hne.2,TF hR hd hk hne.1]
  .show ce (ly (AZ s d) ds) j=_;have hg:∀e∈ds,D4 e≠D4 d:=λe he=>FH hR (hm e (zo _ he)) hd λq=>hn.1 (q▸he);rw[ih.ce];by_cases h1:j∈ds.map D4
   .obtain⟨e,he,rfl⟩:=zE.1 h1;rw[zb h1,zb (by rw[ww];exact zo _ h1)];unfold JN;rw[Lg hR hd,za (hg e he)];rfl
   .rw[za h1,Lg hR hd,ww];by_cases h2:j=D4 d
    .subst h2;rw[zb rfl,zb (zh ..)]
    .rw[za h2,za];rw[zL];exact λq=>q.elim h2 h1
theorem Am{α:Type}(p:α->Bool)(f:α->Nat):∀l:List α,(l.map f).sum=((l.filter p).map f).sum+((l.filter λx => !p x).map f).sum
 | []=>rfl
 | x::l=>by
  rw[ww,zca,Am p f l,m7,m7];cases p x <;> simp <;> omega
theorem Ed(f:Int->List Int)(y:Int):∀l:List Int,aE (l.flatMap f) y=(l.map λx=>aE (f x) y).sum
 | []=>R5 y
 | x::l=>by rw[zaz,L1,Ed f y l,ww,zca]
theorem Gn.jw{s s':a7}{ds:List Int}(hR:SR s)(hn:ds.Nodup)(hm:∀d∈ds,d∈Sh.lv s)(g:Gn s s' ds)(y:Int):jw s' y+aE (ds.flatMap (outs s)) y=jw s y:=by
 unfold Sh.jw;rw[g.lv,Am (λh=>decide (h∉ds)) (λx=>aE (outs s x) y) (Sh.lv s),Ed];have h1:((Sh.lv s).filter λh=>decide (h∉ds)).map (λx=>aE (outs s' x) y)=((Sh.lv s).filter λh=>decide (h∉ds)).map λx=>aE (outs s x) y:=zO λx hx=>by
  rw[zB,zK] at hx;unfold Sh.outs;rw[g.ob x hx.1 hx.2]
 have h2:((Sh.lv s).filter λx => !decide (x∉ds)).Perm ds:=by
  rw[List.perm_ext_iff_of_nodup ((rE (y6.2 hR)).filter _) hn];intro a;rw[zB];simp only[decide_not,Bool.not_not,zK];exact⟨λq=>q.2,λq=>⟨hm a q,q⟩⟩
 rw[h1,(h2.map λx=>aE (outs s x) y).sum_nat]
theorem Dq{L:List n0}(hd:L.Pairwise λa b=>¬(a.Kind=b.Kind/\a.At=b.At))(k:Int):((L.filter (·.Kind==k)).map (·.At)).Nodup:=by
 unfold List.Nodup;rw[List.pairwise_map];refine (hd.filter _).imp_of_mem λ{a b} ha hb h e=>?_;rw[zB,we] at ha hb;exact h ⟨ha.2.trans hb.2.symm,e⟩
theorem xw{L:List n0}{m:List Int}(hd:L.Pairwise λa b=>¬(a.Kind=b.Kind/\a.At=b.At))(h:∀t∈L,(t.Kind=1/\t.At∈m)\/(t.Kind=2/\0<=t.At/\t.At<=5)):L.length<=m.length+6:=by
 have h1:L.length=(L.filter (·.Kind==1)).length+(L.filter (·.Kind==2)).length:=by
  rw[qY (λt:n0=>t.Kind==1) L];congr 2;refine zbb λt ht=>?_;rcases h t ht with q | q
  .simp[q.1]
  .simp[q.1]
 have h2:=gQ (Dq hd 1) (m:=m) λa ha=>by
  obtain⟨t,ht,rfl⟩:=zE.1 ha;rw[zB,we] at ht;rcases h t ht.1 with q | q
  .exact q.2
  .omega
 have h3:=gQ (Dq hd 2) (m:=[0,1,2,3,4,5]) λa ha=>by
  obtain⟨t,ht,rfl⟩:=zE.1 ha;rw[zB,we] at ht;rcases h t ht.1 with q | q
  .omega
  .simp only[zL,zbk,or_false];omega
 rw[t7] at h2 h3;simp only[zj,zV] at h3;omega
theorem jg{q:TQ}{w:Int}:JL q w=true↔∃t∈q.L,t.Kind=2/\t.At=w:=by
 unfold JL;rw[List.any_eq_true];simp
theorem rI{q:TQ}{h:Int}:h∈xX q↔∃t∈q.L,t.Kind=1/\t.At=h:=by
 unfold xX;rw[zE];simp only[zB,we];exact⟨λ⟨t,⟨a,b⟩,c⟩=>⟨t,a,b,c⟩,λ⟨t,a,b,c⟩=>⟨t,⟨a,b⟩,c⟩⟩
abbrev cz:j5:=⟨0,false,0⟩
def fV(ds:List Int)(c:j5):Bool:=c.Intact&&c.Target != 0&&decide (c.Target∈ds)
def nf(ds:List Int)(c:j5):j5:=if fV ds c then ⟨c.Target,false,c.Call⟩ else c
def tY(l:List j5)(ds:List Int):List j5:=l.map (nf ds)
def cls(l:List j5)(ds:List Int):List Nat:=(List.range l.length).filter λw=>fV ds (l.getD w cz)&&decide (0<=(l.getD w cz).Call)
def pA(l:List j5)(ds:List Int):List n0:=(cls l ds).map λ(w:Nat)=>⟨2,(w:Int),(l.getD w cz).Call⟩
theorem AH(ds:List Int)(c:j5):(nf ds c).Target=c.Target/\(nf ds c).Call=c.Call/\((nf ds c).Intact=true↔c.Intact=true/\fV ds c=false):=by
 unfold nf;cases h:fV ds c
 .rw[za (by simp)];simp
 .rw[zb rfl];simp
theorem PW(l:List j5)(ds:List Int)(h:Int):Cy (tY l ds) h=Cy l h:=by
 unfold Cy tY;rw[List.countP_map];congr 1;funext c
 simp only[Function.comp_apply,(AH ds c).1]
theorem fX{l:List j5}{ds:List Int}{t:n0}:t∈pA l ds↔∃w,∃hw:w<l.length,t=⟨2,(w:Int),l[w].Call⟩/\fV ds l[w]=true/\0<=l[w].Call:=by
 unfold pA cls;rw[zE];constructor
 .rintro⟨w,hw,rfl⟩;rw[zB,zcf] at hw;obtain⟨h1,h2⟩:=hw;have e:l.getD w cz=l[w]:=by rw[zf,zc h1];rfl
  rw[e] at h2 |-;rw[zk,zK] at h2;exact⟨w,h1,rfl,h2.1,h2.2⟩
 .rintro⟨w,hw,rfl,h2,h3⟩;have e:l.getD w cz=l[w]:=by rw[zf,zc hw];rfl
  refine⟨w,?_,by rw[e]⟩;rw[zB,zcf,e,zk,zK];exact⟨hw,h2,h3⟩
theorem yw(l:List j5)(ds:List Int):(pA l ds).Pairwise λa b=>¬(a.Kind=b.Kind/\a.At=b.At):=by
 unfold pA cls;rw[List.pairwise_map];refine (zb2 _ (List.nodup_range (n:=l.length))).imp λ{a b} h=>?_;rintro⟨_,e⟩;dsimp only at e;omega
def iy(x:Hp)(ds:List Int)(t:Tb):Hp:=⟨ly x.S ds,x.Roots,tY x.a8 ds,t,⟨x.Q.L++pA x.a8 ds,x.Q.Cap⟩⟩
theorem wv(q:TQ)(l:List n0)(c:Int)(h:∀t∈l,t.Kind≠1):xX ⟨q.L++l,c⟩=xX q:=by
 unfold xX;dsimp only;rw[zas];have:l.filter (λt=>t.Kind==1) = []:=by
  rw[List.filter_eq_nil_iff];intro t ht;simpa using h t ht
 rw[this,pm]
theorem ID{x:Hp}(hx:O4 x){ds:List Int}(hn:ds.Nodup)(hm:∀d∈ds,d∈lv x.S)
  (ho:∀d∈ds,d∉pq x)(hf:∀h∈lv x.S,h∉ds->∀v∈(ob x.S h).Fields,v∉ds)(hp:∀k v,Has x.T k v->k∉ds->v∉ds)
  {t:Tb}{vals:List Int}(ht:HR t)(h1:∀k v,Has t k v↔k∉ds/\Has x.T k v)(h2:∀y,own t y+aE vals y=own x.T y) :
  mP (iy x ds t)/\Wk (iy x ds t)/\ck (iy x ds t) (ds.flatMap (outs x.S)++vals):=by
 have hS:=hx.sh;have hR:=hS.sr;have g:=db ds hR hn hm;have hlv:∀h,h∈lv (ly x.S ds)↔h∈lv x.S/\h∉ds:=λh=>by rw[g.lv,zB,zK]
 have hlen:(lv x.S).length<=24:=M7 (y6.2 hR);have hcl:∀w (hw:w<x.a8.length),fV ds x.a8[w]=true->x.a8[w].Intact=true:=λw hw q=>by
  unfold fV at q;rw[zk,zk] at q;exact q.1.1
 have htd:(x.Q.L++pA x.a8 ds).Pairwise λa b=>¬(a.Kind=b.Kind/\a.At=b.At):=by
  rw[za8];refine⟨hS.td,yw ..,λa ha b hb q=>?_⟩;obtain⟨w,hw,rfl,hh,_⟩:=fX.1 hb;have:=((hS.cl w hw).2.2.2.2 (hcl w hw hh)).2;rw[zbe] at this;exact this (jg.2 ⟨a,ha,q.1,q.2⟩)
 have htk:∀t∈x.Q.L++pA x.a8 ds,0<=t.Prog/\t.Prog<=5/\((t.Kind=1/\t.At∈lv (ly x.S ds)/\(ob (ly x.S ds) t.At).Started=true)\/(t.Kind=2/\0<=t.At/\t.At<=5)):=λt htt=>by
  rcases zy.1 htt with q | q
  .obtain⟨a,b,c⟩:=hS.tk t q;refine⟨a,b,?_⟩;rcases c with ⟨c1,c2,c3⟩ | c
   .have hnd:t.At∉ds:=λhd=>ho _ hd (zy.2 (.inr (rI.2 ⟨t,q,c1,rfl⟩)));exact .inl ⟨c1,(hlv _).2 ⟨c2,hnd⟩,by rw[g.ob _ c2 hnd];exact c3⟩
   .exact .inr c
  .obtain⟨w,hw,rfl,hh,hc⟩:=fX.1 q;have c6:=hS.c6;have:=(hS.cl w hw).2.1;exact⟨hc,this,.inr ⟨rfl,by dsimp only;omega,by dsimp only;omega⟩⟩
 have hq30:(x.Q.L++pA x.a8 ds).length<=30:=by
  have:=xw (m:=lv x.S) htd λt htt=>by
   rcases (htk t htt).2.2 with q | q
   .exact .inl ⟨q.1,((hlv _).1 q.2.1).1⟩
   .exact .inr q
  omega
 have hwts:∀i:Nat,JL x.Q i=false->(∀hi:i<x.a8.length,fV ds x.a8[i]=false)->JL ⟨x.Q.L++pA x.a8 ds,x.Q.Cap⟩ i=false:=λi q1 q2=>by
  rw[zbe] at q1 |-;intro q;obtain⟨t,ht,a,b⟩:=jg.1 q;rcases zy.1 ht with c | c
  .exact q1 (jg.2 ⟨t,c,a,b⟩)
  .obtain⟨w,hw,rfl,hh,_⟩:=fX.1 c;dsimp only at b;have:w=i:=by omega
   subst this;rw[q2 hw] at hh;cases hh
 refine⟨⟨g.sr,ht,hS.r6,?_,hS.cap,hq30,htk,htd,λh hh=>?_,λh hh v hv=>?_,λk v hkv=>?_,λi hi=>?_⟩,λi hi hti=>?_,λh hh hlt=>?_⟩
 .unfold iy tY;rw[t7];exact hS.c6
 .rcases hS.rt h hh with q | q
  .exact .inl q
  .have h0:h≠0:=λe=>pn hR (e▸q);exact .inr ((hlv h).2 ⟨q,λhd=>ho h hd (zy.2 (.inl (lK.2 ⟨hh,h0⟩)))⟩)
 .obtain⟨a,b⟩:=(hlv h).1 hh;have hv':v∈(ob x.S h).Fields:=by
   have e:=g.ob h a b;unfold iy at hv;rwa [e] at hv
  rcases hS.fl h a v hv' with q | q
  .exact .inl q
  .exact .inr ((hlv v).2 ⟨q,hf h a b v hv'⟩)
 .obtain⟨a,b⟩:=(h1 k v).1 hkv;obtain⟨c,d⟩:=hS.pr k v b;exact⟨(hlv k).2 ⟨c,a⟩,(hlv v).2 ⟨d,hp k v b a⟩⟩
 .have hi':i<x.a8.length:=by
   unfold iy tY at hi;simpa using hi
  have e:(iy x ds t).a8[i]=nf ds x.a8[i]:=sm _;obtain⟨a1,a2,a3,a4,a5⟩:=hS.cl i hi';obtain⟨b1,b2,b3⟩:=AH ds x.a8[i];rw[e,b1,b2];refine⟨a1,a2,λq=>?_,λq=>?_,λq=>?_⟩
  .rw[zbe];intro q2;rw[a3 q] at b3;exact absurd (b3.1 q2).1 (by decide)
  .obtain⟨p,hp1,hp2,hp3⟩:=a4 q;refine⟨p,by show p<(ly x.S ds).S.a8.length;rw[g.len];exact hp1,?_⟩;show Th (ce (ly x.S ds) p)/\_=1+(p:Int)+32*(ce (ly x.S ds) p).Gen;rw[g.ce];split
   .have hw:=(hx.wk p hp1 hp2).1;have:=rJ hi' q;rw[hp3] at this;unfold JN;rw[za (by omega)];exact⟨.inr rfl,hp3⟩
   .exact⟨hp2,hp3⟩
  .obtain⟨c1,c2⟩:=b3.1 q;obtain⟨d1,d2⟩:=a5 c1;have h0:x.a8[i].Target≠0:=λe=>pn hR (e▸d1);refine⟨(hlv _).2 ⟨d1,λhd=>?_⟩,hwts i d2 λ_=>c2⟩;have:fV ds x.a8[i]=true:=by
    unfold fV;simp[c1,h0,hd]
   rw[this] at c2;cases c2
 .have hi':i<x.S.S.a8.length:=by
   have:=g.len;have hi:i<(ly x.S ds).S.a8.length:=hi;omega
  show (ce (ly x.S ds) i).Val.Weak=(Cy (tY x.a8 ds) (1+(i:Int)+32*(ce (ly x.S ds) i).Gen):Int)/\((ce (ly x.S ds) i).State=2->_);have hti':Th (ce (ly x.S ds) i):=hti;show _/\((ce (ly x.S ds) i).State=2->1<=(ce (ly x.S ds) i).Val.Weak/\(ce (ly x.S ds) i).Val.Fields = []/\(ce (ly x.S ds) i).Val.Strong=0);rw[PW];rw[g.ce] at hti' |-;split
  .rename_i q;rw[zb q] at hti';obtain⟨d,hd,rfl⟩:=zE.1 q;have hp:=A3 hR (hm d hd);have hw:=(hx.wk _ hi' (.inl hp.2.1)).1;unfold JN at hti' |-;split at hti'
   .exfalso;unfold Th at hti';split at hti' <;> simp at hti'
   .rename_i q2;rw[za q2];have:=(hR.ok _ hi' (.inl hp.2.1)).wk;exact⟨hw,λ_=>⟨by dsimp only;omega,rfl,rfl⟩⟩
  .rename_i q;rw[za q] at hti';exact hx.wk i hi' hti'
 .obtain⟨a,b⟩:=(hlv h).1 hh;have e:=g.ob h a b;have e':ob (iy x ds t).S h=ob x.S h:=e;rw[e'] at hlt |-;have hf:=hx.fair h a hlt;rw[R5] at hf;rw[hf];have i1:=g.jw hR hn hm h;have i2:=h2 h;have i3:xX ⟨x.Q.L++pA x.a8 ds,x.Q.Cap⟩=xX x.Q:=wv _ _ _ λt ht=>by
   obtain⟨w,_,rfl,_⟩:=fX.1 ht;simp
  unfold po pq iy;dsimp only;rw[i3,L1 (ds.flatMap (outs x.S)),L1];omega
theorem xi:∀(l:List Int) {x:Hp},mP x->Wk x->ck x l->O4 (l.foldl R8 x)
 | [],x,h1,h2,h3=>⟨h1,h2,h3⟩
 | v::l,x,h1,h2,h3=>xi l (h1.st v λc=>P3) (h2.st h1.sr v λc=>P3) (sj h1.sr h3)
abbrev dO(o:p7):p7:=⟨o.Serial,o.Strong,o.Weak,o.Prog,true,o.Fields⟩
abbrev um(x:Hp)(h:Int):n0:=⟨1,h,(ob x.S h).Prog⟩
noncomputable def gT(x:Hp)(h:Int):Hp:=C7 ⟨cL x.S h (dO (ob x.S h)),x.Roots,x.a8,x.T,⟨x.Q.L ++ [um x h],x.Q.Cap⟩⟩ h
theorem tF{x:Hp}(hx:O4 x){h:Int}(hh:h∈lv x.S)(hp:0<=(ob x.S h).Prog)(hs:(ob x.S h).Started=false):O4 (gT x h):=by
 have hS:=hx.sh;have hR:=hS.sr;have oko:=J5 hR hh;have ho:xQ x.S (dO (ob x.S h)):=⟨oko.s1,oko.s2,oko.st,oko.wk,oko.p1,oko.p2,oko.fl⟩;have r1:=bw (o:=dO (ob x.S h)) hR hh rfl ho;have l1:=fH (o:=dO (ob x.S h)) hR hh rfl ho;have o1:∀j,j∈lv x.S->ob (cL x.S h (dO (ob x.S h))) j=if j=h then dO (ob x.S h) else ob x.S j:=λj hj=>by
  have:=I3 hR hj;exact eh (o:=dO (ob x.S h)) hR hh rfl ho (by omega)
 have hlen:(lv x.S).length<=24:=M7 (y6.2 hR);have s1:mP (wS x (cL x.S h (dO (ob x.S h)))):=hS.of r1 l1 (λk i q=>(FY (o:=dO (ob x.S h)) hR hh rfl ho).2 q) (λk hk q=>by
  rw[o1 k hk];split;·rfl
  .exact q) λk hk v hv=>by
  rw[o1 k hk] at hv;split at hv;·rename_i e;subst e;exact hS.fl k hk v hv
  .exact hS.fl k hk v hv
 have w1:Wk (wS x (cL x.S h (dO (ob x.S h)))):=λi hi ht=>by
  have S9:=A3 hR hh;have hc:=BX (o:=dO (ob x.S h)) hR hh rfl ho i;dsimp only at hi ht |-;rw[hc] at ht |-;have hi':i<x.S.S.a8.length:=by unfold cL at hi;rwa [N8] at hi
  split at ht
  .rename_i e;subst e;rw[zb rfl];dsimp only;have:=hx.wk _ hi' (.inl S9.2.1);rw[Q2 hR S9];exact⟨this.1,λq=>absurd q (by rw[S9.2.1];decide)⟩
  .rename_i e;rw[za e];exact hx.wk i hi' ht
 have htd:(x.Q.L ++ [um x h]).Pairwise λa b=>¬(a.Kind=b.Kind/\a.At=b.At):=by
  rw[za8];refine⟨hS.td,by simp,λa ha b hb q=>?_⟩;rw[zJ] at hb;subst hb;dsimp only at q;rcases (hS.tk a ha).2.2 with c | c
  .rw[q.2,hs] at c;exact absurd c.2.2 (by decide)
  .omega
 have htk:∀t∈x.Q.L ++ [um x h],0<=t.Prog/\t.Prog<=5/\((t.Kind=1/\t.At∈lv (cL x.S h (dO (ob x.S h)))/\(ob (cL x.S h (dO (ob x.S h))) t.At).Started=true)\/(t.Kind=2/\0<=t.At/\t.At<=5)):=λt ht=>by
  rcases zy.1 ht with q | q
  .exact s1.tk t q
  .rw[zJ] at q;subst q;refine⟨hp,oko.p2,.inl ⟨rfl,by rw[l1];exact hh,?_⟩⟩;dsimp only;rw[o1 h hh,zb rfl]
 have hq30:(x.Q.L ++ [um x h]).length<=30:=by
  have:=xw (m:=lv x.S) htd λt ht=>by
   rcases (htk t ht).2.2 with q | q
   .exact .inl ⟨q.1,by rw[<-l1];exact q.2.1⟩
   .exact .inr q
  omega
 have s2:mP ⟨cL x.S h (dO (ob x.S h)),x.Roots,x.a8,x.T,⟨x.Q.L ++ [um x h],x.Q.Cap⟩⟩:=by
  refine⟨s1.sr,s1.hr,s1.r6,s1.c6,s1.cap,hq30,htk,htd,s1.rt,s1.fl,s1.pr,λi hi=>?_⟩;obtain⟨a,b,c,d,e⟩:=s1.cl i hi;refine⟨a,b,c,d,λq=>⟨(e q).1,?_⟩⟩;have:=(e q).2;rw[zbe] at this |-;intro q2;obtain⟨t,ht,k1,k2⟩:=jg.1 q2;rcases zy.1 ht with q3 | q3
  .exact this (jg.2 ⟨t,q3,k1,k2⟩)
  .rw[zJ] at q3;subst q3;dsimp only at k1;omega
 have w2:Wk ⟨cL x.S h (dO (ob x.S h)),x.Roots,x.a8,x.T,⟨x.Q.L ++ [um x h],x.Q.Cap⟩⟩:=w1;refine⟨s2.st h λc=>E0,w2.st s2.sr h λc=>E0,λk hk hlt=>?_⟩;have hk':k∈lv x.S:=by
  have:lv (gT x h).S=lv x.S:=(G3 s2.sr h λc=>E0).lv.trans l1;rw[<-this];exact hk
 have hst:(ob (gT x h).S k).Strong=if k=h then W5 (ob x.S k).Strong else (ob x.S k).Strong:=by
  have:=tU (x:=⟨cL x.S h (dO (ob x.S h)),x.Roots,x.a8,x.T,⟨x.Q.L ++ [um x h],x.Q.Cap⟩⟩) s2.sr h (f:=W5) (λc=>E0) (k:=k) (by rw[<-l1] at hk';exact hk');refine zcj this ?_;dsimp only;rw[o1 k hk'];by_cases e:k=h
  .subst e;rw[zb rfl,zb rfl,zb rfl]
  .rw[za e,za e,za e]
 have hnm:po (gT x h) k=po x k+if k=h then 1 else 0:=by
  have:=vy (x:=⟨cL x.S h (dO (ob x.S h)),x.Roots,x.a8,x.T,⟨x.Q.L ++ [um x h],x.Q.Cap⟩⟩) s2.sr h (f:=W5) (λc=>E0) k;refine zcj this ?_;have hi:=Hb (o:=dO (ob x.S h)) hR hh rfl ho k;dsimp only at hi;have h0:k≠0:=λe=>pn hR (e▸hk');unfold po pq xX;dsimp only;rw[zas,zaf,L1,L1,L1];have:aE (List.map (·.At) (List.filter (λt:n0=>t.Kind==1) [um x h])) k=if k=h then 1 else 0:=by
   show aE [h] k=_;rw[G7,R5];by_cases e:k=h
   .rw[zb ⟨e.symm,h0⟩,zb e]
   .rw[za (λq=>e q.1.symm),za e]
  rw[this];omega
 rw[hst] at hlt |-;rw[hnm,R5];have hpos:=(J5 hR hk').st;by_cases e:k=h
 .rw[zb e] at hlt |-;rw[zb e];have:=hx.fair k hk' (by unfold W5 at hlt;split at hlt <;> omega);rw[R5] at this;unfold W5 at hlt |-;split at hlt;·omega
  .rename_i q;rw[za q,za (by omega)];omega
 .rw[za e] at hlt |-;rw[za e];have:=hx.fair k hk' hlt;rw[R5] at this;exact this
noncomputable def zr(x:Hp):List Int:=(lv x.S).filter λh=>(ob x.S h).Strong==0
theorem cg{x:Hp}{h:Int}:h∈zr x↔h∈lv x.S/\(ob x.S h).Strong=0:=by
 unfold zr;rw[zB,we]
theorem Cu{x:Hp}(hx:O4 x){z:Int}(hz:z∈zr x):po x z=0:=by
 obtain⟨a,b⟩:=cg.1 hz;have:=hx.fair z a (by omega);rw[R5] at this;omega
theorem Ee{l:List Int}{h:Int}(h0:h≠0)(e:aE l h=0):h∉l:=λq=>by
 have:=dD.2 ⟨h0,q⟩;omega
theorem LC{α:Type}(f:α->Nat):∀ {l:List α} {a:α},a∈l->f a<=(l.map f).sum
 | b::l,a,h=>by
  rw[ww,zca];rcases zL.1 h with e | e
  .subst e;omega
  .have:=LC f e;omega
theorem Bi{s:a7}{a y:Int}(ha:a∈lv s):aE (outs s a) y<=jw s y:=LC (λx=>aE (outs s x) y) ha
theorem BA{t:Tb}{k v:Int}(h:Has t k v)(h0:v≠0):0<own t v:=zbu.2 ⟨⟨k,v⟩,iW.2 h,by simp[h0]⟩
def mA(t:Tb)(ks:List Int):Tb × List Int:=(Z8 t ks).getD (t,[])
theorem iv{t:Tb}(hT:HR t)(ks:List Int)(hks:ks.length<=1000):Z8 t ks=some (mA t ks)/\HR (mA t ks).1/\(mA t ks).2.length<=ks.length/\ja (t.map S9) ks=some ((mA t ks).1.map S9,(mA t ks).2) /\
  (∀k v,Has (mA t ks).1 k v↔k∉ks/\Has t k v)/\∀y,own (mA t ks).1 y+aE (mA t ks).2 y=own t y:=by
 obtain⟨a,had,h1,h2,h3,h4,h5,h6,h7,h8,h9⟩:=Ep hT ks hks;have:mA t ks=(a,had):=by unfold mA;rw[h1];rfl
 rw[this];exact⟨h1,h2,h4,h5,h6,h9⟩
noncomputable def gk(x:Hp)(ds:List Int):Hp:=(ds.flatMap (outs x.S)++(mA x.T ds).2).foldl R8 (iy x ds (mA x.T ds).1)
theorem hU:∀(l:List Int) {x:Hp},SR x.S->uC x.S (l.foldl R8 x).S/\l.foldl R8 x=wS x (l.foldl R8 x).S
 | [],x,h=>⟨uC.refl h,rfl⟩
 | v::l,x,h=>by
  have k1:=G3 h v (f:=jI) λc=>P3;obtain⟨k2,e⟩:=hU l (x:=R8 x v) k1.sr;refine⟨k1.trans k2,?_⟩;show l.foldl R8 (R8 x v)=wS x (l.foldl R8 (R8 x v)).S;rw[e,UW x v]
theorem yu{x:Hp}(hx:O4 x){ds:List Int}(hn:ds.Nodup)(hm:∀d∈ds,d∈lv x.S)
  (ho:∀d∈ds,d∉pq x)(hf:∀h∈lv x.S,h∉ds->∀v∈(ob x.S h).Fields,v∉ds)(hp:∀k v,Has x.T k v->k∉ds->v∉ds):O4 (gk x ds):=by
 have hl:ds.length<=24:=rx (gQ hn hm) (M7 (y6.2 hx.sh.sr));obtain⟨_,w1,_,_,w2,w3⟩:=iv hx.sh.hr ds (by omega);obtain⟨a,b,c⟩:=ID hx hn hm ho hf hp w1 w2 w3;exact xi _ a b c
theorem EH{x:Hp}(hR:SR x.S){ds:List Int}(hn:ds.Nodup)(hm:∀d∈ds,d∈lv x.S):lv (gk x ds).S=(lv x.S).filter λh=>decide (h∉ds):=by
 have g:=db ds hR hn hm;exact (hU (ds.flatMap (outs x.S)++(mA x.T ds).2) (x:=iy x ds (mA x.T ds).1) g.sr).1.lv.trans g.lv
theorem EI{x:Hp}(hR:SR x.S){ds:List Int}(hn:ds.Nodup)(hm:∀d∈ds,d∈lv x.S){k:Int}(hk:k∈lv x.S)(hd:k∉ds):∃n,ob (gk x ds).S k=Ak (ob x.S k) n:=by
 have g:=db ds hR hn hm;have hr:=I3 hR hk;obtain⟨n,e⟩:=(hU (ds.flatMap (outs x.S)++(mA x.T ds).2) (x:=iy x ds (mA x.T ds).1) g.sr).1.ob k (by omega);refine⟨n,?_⟩;have e':ob (gk x ds).S k=_:=e;have g':ob (iy x ds (mA x.T ds).1).S k=ob x.S k:=g.ob k hk hd;rw[e',g']
theorem qP{x:Hp}(hR:SR x.S){ds:List Int}(hn:ds.Nodup)(hm:∀d∈ds,d∈lv x.S):(gk x ds).Roots=x.Roots/\(gk x ds).a8=tY x.a8 ds/\(gk x ds).T=(mA x.T ds).1/\(gk x ds).Q=⟨x.Q.L++pA x.a8 ds,x.Q.Cap⟩:=by
 have g:=db ds hR hn hm;have e:=(hU (ds.flatMap (outs x.S)++(mA x.T ds).2) (x:=iy x ds (mA x.T ds).1) g.sr).2;have e':gk x ds=wS (iy x ds (mA x.T ds).1) (gk x ds).S:=e;rw[e'];exact⟨rfl,rfl,rfl,rfl⟩
theorem xK{x:Hp}(hx:O4 x){z:Int}(hz:z∈zr x):O4 (gk x [z]):=by
 obtain⟨a,b⟩:=cg.1 hz;have h0:z≠0:=λe=>pn hx.sh.sr (e▸a);have hn:=Cu hx hz;unfold po at hn;refine yu hx (by simp) (by simpa using a) (λd hd=>?_) (λh hh hne v hv q=>?_) (λk v hkv _ q=>?_)
 .rw[zJ] at hd;subst hd;exact Ee h0 (by omega)
 .rw[zJ] at q;subst q;have:=Bi (y:=v) hh;have h1:=dD.2 ⟨h0,show v∈outs x.S h from lK.2 ⟨hv,h0⟩⟩;omega
 .rw[zJ] at q;subst q;have:=BA hkv h0;omega
def due(o:p7):Bool:=decide (0<=o.Prog) && !o.Started
noncomputable def Ii(x:Hp):Hp:=match zr x with
 | []=>x
 | z::_=>if due (ob x.S z) then gT x z else gk x [z]
noncomputable def uO:Nat->Hp->Hp
 | 0,x=>x
 | n+1,x=>uO n (Ii x)
theorem dB(n:Nat)(x:Hp):uO (n+1) x=Ii (uO n x):=by
 induction n generalizing x with
 | zero=>rfl
 | succ n ih=>exact ih (Ii x)
theorem pa{x:Hp}(h:zr x = []):Ii x=x:=by unfold Ii;rw[h]
theorem il{x:Hp}{z:Int}{l:List Int}(h:zr x=z::l):Ii x=if due (ob x.S z) then gT x z else gk x [z]:=by unfold Ii;rw[h]
theorem JE{x:Hp}(hx:O4 x):O4 (Ii x):=by
 cases h:zr x with
 | nil=>rw[pa h];exact hx
 | cons z l=>
  have hz:z∈zr x:=by rw[h];exact zh ..
  rw[il h];split
  .rename_i q;unfold due at q;rw[zk,zK,za6] at q;exact tF hx (cg.1 hz).1 q.1 q.2
  .exact xK hx hz
theorem bj{x:Hp}(hx:O4 x)(n:Nat):O4 (uO n x):=by
 induction n with
 | zero=>exact hx
 | succ n ih=>rw[dB];exact JE ih
section
variable{x:Hp}(hR:SR x.S){h:Int}(hh:h∈lv x.S)
include hR hh
theorem lP:uC (cL x.S h (dO (ob x.S h))) (gT x h).S/\(gT x h).Roots=x.Roots/\(gT x h).a8=x.a8/\(gT x h).T=x.T/\(gT x h).Q=⟨x.Q.L ++ [um x h],x.Q.Cap⟩:=by
 have oko:=J5 hR hh;have r1:=bw (o:=dO (ob x.S h)) hR hh rfl ⟨oko.s1,oko.s2,oko.st,oko.wk,oko.p1,oko.p2,oko.fl⟩;refine⟨G3 (x:=⟨cL x.S h (dO (ob x.S h)),x.Roots,x.a8,x.T,⟨x.Q.L ++ [um x h],x.Q.Cap⟩⟩) r1 h λc=>E0,?_⟩;have e:gT x h=wS ⟨cL x.S h (dO (ob x.S h)),x.Roots,x.a8,x.T,⟨x.Q.L ++ [um x h],x.Q.Cap⟩⟩ (gT x h).S:=tO _ h;rw[e];exact⟨rfl,rfl,rfl,rfl⟩
theorem BC:lv (gT x h).S=lv x.S:=by
 have oko:=J5 hR hh;exact (lP hR hh).1.lv.trans (fH (o:=dO (ob x.S h)) hR hh rfl ⟨oko.s1,oko.s2,oko.st,oko.wk,oko.p1,oko.p2,oko.fl⟩)
theorem xb{k:Int}(hk:k∈lv x.S):∃n,ob (gT x h).S k=Ak (if k=h then dO (ob x.S h) else ob x.S k) n:=by
 have oko:=J5 hR hh;have hr:=I3 hR hk;obtain⟨n,e⟩:=(lP hR hh).1.ob k (by omega);refine⟨n,?_⟩;rw[e,eh (o:=dO (ob x.S h)) hR hh rfl ⟨oko.s1,oko.s2,oko.st,oko.wk,oko.p1,oko.p2,oko.fl⟩ (by omega)]
end
noncomputable def mu(x:Hp):Nat:=(lv x.S).length+((lv x.S).filter λh => !(ob x.S h).Started).length
theorem WI{x:Hp}(hR:SR x.S):mu x<=48:=by
 have h1:(lv x.S).length<=24:=M7 (y6.2 hR);have h2:((lv x.S).filter λh => !(ob x.S h).Started).length<=(lv x.S).length:=wt ..;unfold mu;omega
theorem Vk{x:Hp}(hx:O4 x)(h:zr x ≠ []):mu (Ii x)<mu x:=by
 cases hz:zr x with
 | nil=>exact absurd hz h
 | cons z l=>
  have hzm:z∈zr x:=by rw[hz];exact zh ..
  have hzl:=(cg.1 hzm).1;have hR:=hx.sh.sr;rw[il hz];split
  .rename_i q;unfold due at q;rw[zk,zK,za6] at q;unfold mu;rw[BC hR hzl];have:=filter_lt (p:=λh => !(ob (gT x z).S h).Started) (q:=λh => !(ob x.S h).Started) (l:=lv x.S) (λk hk hp=>by
    obtain⟨n,e⟩:=xb hR hzl hk;rw[e] at hp;split at hp;·exact absurd hp (by simp)
    .exact hp) z hzl (by rw[q.2];rfl) (by
    obtain⟨n,e⟩:=xb hR hzl hzl;rw[e,zb rfl];rfl)
   omega
  .unfold mu;have hn:([z]:List Int).Nodup:=by simp
   have hm:∀d ∈ [z],d∈lv x.S:=by simpa using hzl
   rw[EH hR hn hm,List.filter_filter];have h1:((lv x.S).filter λh=>decide (h ∉ [z])).length<((lv x.S).filter λ_=>true).length:=filter_lt (λ_ _ _=>rfl) z hzl rfl (by simp);rw[zbf.2 (λ_ _=>rfl)] at h1;have h2:((lv x.S).filter λa=>(!(ob (gk x [z]).S a).Started)&&decide (a ∉ [z])).length<=((lv x.S).filter λh => !(ob x.S h).Started).length:=by
    rw[<-zbt,<-zbt];refine List.countP_mono_left λa ha hp=>?_;rw[zk,zK] at hp;obtain⟨n,e⟩:=EI hR hn hm ha hp.2;rw[e] at hp;exact hp.1
   omega
noncomputable def dy(x:Hp):Hp:=uO 100 x
theorem tR{x:Hp}(hx:O4 x):∃n,n<=48/\zr (uO n x) = []/\(∀j,j<n->zr (uO j x) ≠ [])/\dy x=uO n x:=by
 have key:∀m,(∃n,n<=m/\zr (uO n x) = [])\/mu (uO m x)+m<=mu x:=by
  intro m;induction m with
  | zero=>exact .inr (zt _)
  | succ m ih=>
   rcases ih with ⟨n,h1,h2⟩ | ih;·exact .inl ⟨n,by omega,h2⟩
   .by_cases q:zr (uO m x) = []
    .exact .inl ⟨m,by omega,q⟩
    .have:=Vk (bj hx m) q;rw[<-dB] at this;exact .inr (by omega)
 have h48:=WI hx.sh.sr;have hex:∃n,n<=48/\zr (uO n x) = []:=by
  rcases key 49 with ⟨n,h1,h2⟩ | h
  .rcases zD n 49 with q | q
   .exact⟨n,by omega,h2⟩
   .rcases key 48 with h | h
    .exact h
    .have:mu (uO 48 x)=0:=by omega
     refine⟨48,zt _,?_⟩;have hl:(lv (uO 48 x).S).length=0:=by unfold mu at this;omega
     unfold zr;rw[zH hl];rfl
  .omega
 obtain⟨n,⟨hn,hz⟩,hmin⟩:=bR hex;refine⟨n,hn,hz,λj hj q=>?_,?_⟩
 .have:=hmin j ⟨by omega,q⟩;omega
 .have:∀k,uO (n+k) x=uO n x:=λk=>by
   induction k with
   | zero=>rfl
   | succ k ih=>rw[show n+(k+1)=(n+k)+1 by omega,dB,ih,pa hz]
  have h100:=this (100-n);rw[show n+(100-n)=100 by omega] at h100;exact h100
theorem en{x:Hp}(hx:O4 x):O4 (dy x):=bj hx 100
theorem Ah{x:Hp}(hx:O4 x):zr (dy x) = []:=by
 obtain⟨n,_,h,_,e⟩:=tR hx;rw[e];exact h
theorem DU{x:Hp}(h:zr x = []):dy x=x:=by
 have:∀n,uO n x=x:=λn=>by
  induction n with
  | zero=>rfl
  | succ n ih=>rw[dB,ih,pa h]
 exact this 100
section
variable{x:Hp}(hR:SR x.S)
include hR
theorem gO{h:Int}(hh:h∈lv x.S):h<=9223372036854775807:=by have:=I3 hR hh;omega
theorem tf{h:Int}(hh:h∈lv x.S):y4 x.S h=some (ob x.S h,0):=by
 obtain⟨e,h1,h2⟩:=aI (y6.2 hR) (gO hR hh);rw[h1,h2.2 hh]
theorem rl{h:Int}(hh:h∈lv x.S):M1 (sO x.S) h=some (oo (ob x.S h),0):=by
 have:=hR.len;rw[rk x.S (by omega) (gO hR hh),tf hR hh];rfl
theorem zero_eq:cI x=some (zr x):=by
 have h24:(lv x.S).length<=24:=M7 (y6.2 hR);unfold cI;simp only[jn];rw[df (y6.2 hR),YK];rw[O6 (lv x.S) (λb h=>if (ob x.S h).Strong==0 then b ++ [h] else b) id (λk b=>b.length<=k) (by omega) (zt _) (λk hk b hb=>?_) (λb hb=>by simp)]
 .rw[foldl_filter];rfl
 .simp only[zQ,hk,zW,zR,u9 hk,YK,tf hR (zl hk)];by_cases c:((ob x.S (lv x.S)[k]).Strong==0)=true
  .rw[zb c,zb c,C4 (by omega) (by simp;omega),YK,o9];exact⟨rfl,by simp;omega⟩
  .rw[za c,za c,o9];exact⟨rfl,by omega⟩
theorem NR:rY (hO x)=some (zr x):=by
 have h24:(lv x.S).length<=24:=M7 (y6.2 hR);unfold rY;simp only[jn];rw[show (hO x).S=sO x.S from rfl,TY (y6.2 hR),YK];rw[O6 (lv x.S) (λb h=>if (ob x.S h).Strong==0 then b ++ [h] else b) id (λk b=>b.length<=k) (by omega) (zt _) (λk hk b hb=>?_) (λb hb=>by simp)]
 .rw[foldl_filter];rfl
 .simp only[zQ,hk,zW,zR,u9 hk,YK,rl hR (zl hk)];by_cases c:((ob x.S (lv x.S)[k]).Strong==0)=true
  .rw[show ((oo (ob x.S (lv x.S)[k])).Strong==0)=true from c,zb rfl,zb c,C4 (by omega) (by simp;omega),YK,o9];exact⟨rfl,by simp;omega⟩
  .rw[za (show ¬((oo (ob x.S (lv x.S)[k])).Strong==0)=true from c),za c,o9];exact⟨rfl,by omega⟩
end
noncomputable def UN(x:Hp)(h:Int):Hp:=if h∈lv x.S/\due (ob x.S h)=true then gT x h else x
theorem Cb{s:a7}(hR:SR s){h:Int}(hl:h∈lv s):xQ s (dO (ob s h)):=by
 have oko:=J5 hR hl;exact⟨oko.s1,oko.s2,oko.st,oko.wk,oko.p1,oko.p2,oko.fl⟩
theorem Hz(o:p7):M9 o=some (due o):=by
 unfold M9 due;congr 1
section
variable{x:Hp}(hx:O4 x)(hS:SL x){h:Int}(hh:h<=9223372036854775807)
include hx hS hh
theorem xc(hl:h∈lv x.S)(hd:due (ob x.S h)=true):x.Q.L.length<30:=by
 have hb:0<=(ob x.S h).Prog/\(ob x.S h).Started=false:=by
  unfold due at hd;rw[zk,zK,za6] at hd;exact hd
 have:=(tF hx hl hb.1 hb.2).sh.q30;rw[(lP hx.sh.sr hl).2.2.2.2] at this;simp at this;omega
theorem yZ:U8 x h=some (UN x h):=by
 have hR:=hx.sh.sr;have cap:=hx.sh.cap;obtain⟨e,h1,h2⟩:=aI (y6.2 hR) hh;unfold U8 UN;rw[h1,YK];by_cases hl:h∈lv x.S
 .have e0:e=0:=h2.2 hl;subst e0;have e1:(((0:Int) != 0)==false)=true:=rfl;simp only[e1,fM,Hz,YK];cases hd:due (ob x.S h);·rw[zb (by simp),za (by simp)]
  .rw[za (by simp),zb ⟨hl,rfl⟩];have hr:=xc hx hS hh hl hd;have hok:=Cb hR hl;have l1:=fH (o:=dO (ob x.S h)) hR hl rfl hok;have r1:=bw (o:=dO (ob x.S h)) hR hl rfl hok;rw[sw (o:=dO (ob x.S h)) hR hl rfl hok,YK,Sk _ (by omega),YK];have et:Nr x.Q ⟨1,h,(ob x.S h).Prog⟩=(⟨x.Q.L ++ [um x h],x.Q.Cap⟩,0):=by
    unfold Nr;rw[za (by omega)]
   rw[et];dsimp only;rw[kl r1 hh (λk hk=>?_),YK];·rfl
   .dsimp only at hk |-;rw[l1] at hk;rw[eh (o:=dO (ob x.S h)) hR hl rfl hok (gO hR hk)];split;·exact hS h hl
    .exact hS k hk
 .have e0:e≠0:=λq=>hl (h2.1 q);have e1:(e != 0)=true:=by simpa using e0
  rw[e1];simp only[show ((true==false)=true)=False by simp,z8,zZ,YK,Bool.true_or,zR];rw[za (λq=>hl q.1)]
theorem RE:rX (hO x) h=some (decide (h∈lv x.S)&&due (ob x.S h)):=by
 have hR:=hx.sh.sr;have hlen:=hR.len;obtain⟨e,h1,h2⟩:=aI (y6.2 hR) hh;unfold rX;rw[show (hO x).S=sO x.S from rfl,rk x.S (by omega) hh,h1,wl,YK,vi hR hh,YK];unfold due oo;rw[Bool.and_assoc]
theorem MH:lU (hO x) h=some (hO (UN x h)):=by
 have hR:=hx.sh.sr;have cap:=hx.sh.cap;unfold lU UN;rw[RE hx hS hh,YK];by_cases hl:h∈lv x.S
 .rw[zA hl,zap];cases hd:due (ob x.S h);·rw[zb (by simp),za (by simp)]
  .rw[za (by simp),zb ⟨hl,rfl⟩];have hr:=xc hx hS hh hl hd;have hok:=Cb hR hl;have l1:=fH (o:=dO (ob x.S h)) hR hl rfl hok;have r1:=bw (o:=dO (ob x.S h)) hR hl rfl hok;rw[show (hO x).S=sO x.S from rfl,rl hR hl,YK];have es:P5 (sO x.S) h (oo (dO (ob x.S h)))=some (sO (cL x.S h (dO (ob x.S h))),0):=sx hR hl rfl hok;have es':P5 (sO x.S) h ⟨(oo (ob x.S h)).Serial,(oo (ob x.S h)).Strong,(oo (ob x.S h)).Weak,(oo (ob x.S h)).Prog,true,(oo (ob x.S h)).Fields⟩=some (sO (cL x.S h (dO (ob x.S h))),0):=es;rw[es',YK];have ea:lS (hO x).Q ⟨1,h,(oo (ob x.S h)).Prog⟩=some (Ck ⟨x.Q.L ++ [um x h],x.Q.Cap⟩,0):=by
    have:=Sd (q:=x.Q) (um x h) (by omega);have et:Nr x.Q (um x h)=(⟨x.Q.L ++ [um x h],x.Q.Cap⟩,0):=by
     unfold Nr;rw[za (by omega)]
    rw[et] at this;exact this
   rw[ea,YK];have er:=sf (x:=⟨cL x.S h (dO (ob x.S h)),x.Roots,x.a8,x.T,⟨x.Q.L ++ [um x h],x.Q.Cap⟩⟩) r1 hh (λk hk=>by
    dsimp only at hk |-;rw[l1] at hk;rw[eh (o:=dO (ob x.S h)) hR hl rfl hok (gO hR hk)];split;·exact hS h hl
    .exact hS k hk)
   have er':ca ⟨sO (cL x.S h (dO (ob x.S h))),(hO x).Roots,(hO x).a8,(hO x).T,Ck ⟨x.Q.L ++ [um x h],x.Q.Cap⟩⟩ h=_:=er;dsimp only;rw[er',YK];rfl
 .rw[zI hl,zb8];rw[zb (by simp),za (λq=>hl q.1)]
end
noncomputable def Wx(x:Hp)(l:List Int):List Int:=l.foldl (λb h=>if h∈lv x.S/\h∉b then b ++ [h] else b) []
theorem Dj{x:Hp}{z:Int}(hz:z∈lv x.S):Wx x [z] = [z]:=by
 unfold Wx;simp[hz]
section
variable{x:Hp}(hR:SR x.S)
include hR
theorem rC(l:List Int)(hl:l.length<=1000)(hb:∀h∈l,h<=9223372036854775807):X0 x l=some (Wx x l):=by
 unfold X0;simp only[jn];have key:=O6 (f:=λ((s20,s21,s22):Int × (List (Int × Bool)) × (List Int))=>
   if (decide (s20<(l.length:Int))) then
     (ix l s20).bind λv32=>
     (y4 x.S v32).bind λv33=>
     if ((v33.2==0)==true) then
      if (!((z7 s21 v32).getD (false:Bool))) then
       (app 8 s22 [v32]).bind λv34=>
       some (Sum.inl (z6 (s20+1),(o5 s21 v32 true),v34))
      else
      some (.inl (z6 (s20+1),s21,s22))
     else
     some (.inl (z6 (s20+1),s21,s22))
   else
   some (.inr s22)) l (λ(b:List (Int × Bool) × List Int) h=>if h∈lv x.S/\h∉b.2 then (o5 b.1 h true,b.2 ++ [h]) else b) (λb=>b.2) (λk b=>b.2.length<=k/\∀d,(z7 b.1 d).getD false=decide (d∈b.2)) (b0:=([],[])) (by omega) ⟨zt _,λd=>by simp[z7]⟩ (λk hk b hb2=>?_) (λb hb2=>by simp)
 .rw[key,YK];congr 1;have:∀(l:List Int) (m:List (Int × Bool)) (b:List Int),(l.foldl (λ(b:List (Int × Bool) × List Int) h=>if h∈lv x.S/\h∉b.2 then (o5 b.1 h true,b.2 ++ [h]) else b) (m,b)).2=l.foldl (λb h=>if h∈lv x.S/\h∉b then b ++ [h] else b) b:=λl=>by
   induction l with
   | nil=>intro m b;rfl
   | cons h l ih=>
    intro m b;rw[zat,zat];by_cases c:h∈lv x.S/\h∉b
    .rw[zb c,zb c,ih]
    .rw[za c,za c,ih]
  exact this l [] []
 .obtain⟨hb1,hb3⟩:=hb2;obtain⟨e,h1,h2⟩:=aI (y6.2 hR) (hb _ (zl hk));simp only[zQ,hk,zW,zR,u9 hk,YK,h1,hb3];by_cases hl:l[k]∈lv x.S
  .have e0:e=0:=h2.2 hl;subst e0;by_cases hm:l[k]∈b.2
   .rw[zb (by rfl),za (by simp[hm]),za (λq=>q.2 hm),o9];exact⟨rfl,by omega,hb3⟩
   .rw[zb (by rfl),zb (by simp[hm]),zb ⟨hl,hm⟩,C4 (by omega) (by simp;omega),YK,o9];refine⟨rfl,by simp;omega,λd=>?_⟩;rw[oK];by_cases q:d=l[k]
    .rw[zb q];simp[q]
    .rw[za q,hb3];simp[q]
  .have e0:e≠0:=λq=>hl (h2.1 q);rw[za (by simp[e0]),za (λq=>hl q.1),o9];exact⟨rfl,by omega,hb3⟩
theorem Tr(l:List Int)(hl:l.length<=1000)(hb:∀h∈l,h<=9223372036854775807):rZ (hO x) l=some (Wx x l):=by
 unfold rZ;simp only[jn];rw[O6 l (λb h=>if h∈lv x.S/\h∉b then b ++ [h] else b) id (λk b=>b.length<=k) (by omega) (zt _) (λk hk b hb2=>?_) (λb hb=>by simp)];·rfl
 .simp only[zQ,hk,zW,zR,u9 hk,YK,vi hR (hb _ (zl hk))];by_cases hl:l[k]∈lv x.S
  .have h0:l[k]≠0:=λe=>pn hR (e▸hl);rw[zA hl];simp only[pi,fM,Li b _ (by omega:b.length<=1000000),YK,zap];by_cases hm:l[k]∈b
   .rw[za (by simp[hm,h0]),za (λq=>q.2 hm),o9];exact⟨rfl,by omega⟩
   .rw[zb (by simp[hm]),zb ⟨hl,hm⟩,C4 (by omega) (by simp;omega),YK,o9];exact⟨rfl,by simp;omega⟩
  .rw[zI hl];simp only[show ((false==true)=true)=False by simp,z8,zZ,YK,zb8];rw[za (by simp),za (λq=>hl q.1),o9];exact⟨rfl,by omega⟩
end
theorem wi{α β:Type}(p:α->Bool)(f:α->β):∀(xs:List α) (acc:List β),xs.foldl (λb x=>if p x then b ++ [f x] else b) acc=acc++(xs.filter p).map f
 | [],acc=>by simp
 | x::xs,acc=>by
  rw[zat,wi p f xs];by_cases h:p x=true
  .simp[h]
  .simp[h]
theorem getD_at{α:Type}{l:List α}{i:Nat}(h:i<l.length)(d:α):l.getD i d=l[i]:=by
 rw[zf,zc h];rfl
theorem IF(c:j5)(ds:List Int)(hl:ds.length<=1000):bl c ds=some (fV ds c):=by
 unfold bl fV;rw[contains_eq _ _ (by omega)];cases (c.Intact&&c.Target != 0);·rfl
 .simp[z8]
def mU(l:List j5)(ds:List Int):List Nat:=(List.range l.length).filter λw=>fV ds (l.getD w cz)
theorem UC{l:List j5}{ds:List Int}{w:Nat}(h:w∈mU l ds):w<l.length:=by
 unfold mU at h;rw[zB,zcf] at h;exact h.1
theorem Qx(l:List j5)(ds:List Int):(mU l ds).length<=l.length:=by
 unfold mU;exact rx (wt ..) (by simp)
theorem UD(l:List j5)(ds:List Int):(mU l ds).Nodup:=zb2 _ List.nodup_range
theorem Pj(l:List j5)(ds:List Int):cls l ds=(mU l ds).filter λw=>decide (0<=(l.getD w cz).Call):=by
 unfold cls mU;rw[List.filter_filter];refine zbb λw _=>?_;rw[Bool.and_comm]
def lE(l:List Nat):List Int:=l.map λ(n:Nat)=>(n:Int)
theorem Bk{l:List Nat}{k:Nat}(h:k<l.length):ix (lE l) (k:Int)=some ((l[k]:Nat):Int):=by
 unfold lE;rw[fW,u9 h];rfl
theorem jQ(l:List Nat):(lE l).length=l.length:=t7 ..
theorem Jl(l:List j5)(ds:List Int)(hl:l.length<=1000)(hd:ds.length<=1000):J8 l ds=some (lE (mU l ds)):=by
 unfold J8;simp only[jn];have hr:(List.range l.length).length=l.length:=by simp
 have key:=O6 (List.range l.length) (λ(b:List Int) (w:Nat)=>if fV ds (l.getD w cz) then b ++ [(w:Int)] else b) id (λk b=>b.length<=k) (b0:=[]) (f:=λ((s17,s18):Int × (List Int))=>
   if (decide (s17<(l.length:Int))) then
     (ix l s17).bind λv26=>
     (bl v26 ds).bind λv27=>
     if v27 then
      (app 8 s18 [s17]).bind λv28=>
      some (Sum.inl (z6 (s17+1),v28))
     else
     some (.inl (z6 (s17+1),s18))
   else
   some (.inr s18)) (by omega) (zt _) (λk hk b hb=>?_) (λb hb=>by simp)
 .rw[key,wi];rfl
 .rw[hr] at hk;simp only[zQ,hk,zW,zR,u9 hk,YK,IF _ _ hd,List.getElem_range,getD_at hk];by_cases c:fV ds l[k]=true
  .rw[zb c,zb c,C4 (by omega) (by simp;omega),YK,o9];exact⟨rfl,by simp;omega⟩
  .rw[za c,za c,o9];exact⟨rfl,by omega⟩
theorem II(l:List j5)(hl:l.length<=1000):aU l=some l:=by
 unfold aU;rw[jU (by omega) (by omega),YK];unfold uG;rw[zb (by simp),YK];simp
def qR(l:List j5)(K:List Nat):List j5:=(List.range l.length).map λi=>if i∈K then ⟨(l.getD i cz).Target,false,(l.getD i cz).Call⟩ else l.getD i cz
theorem jE(l:List j5)(K:List Nat):(qR l K).length=l.length:=by simp[qR]
theorem qS{l:List j5}{K:List Nat}{i:Nat}(h:i<(qR l K).length):(qR l K)[i]=if i∈K then ⟨(l.getD i cz).Target,false,(l.getD i cz).Call⟩ else l.getD i cz:=by simp[qR]
theorem Ky(l:List j5):qR l []=l:=by
 refine zbn (jE ..) λi h1 h2=>?_;rw[qS,za (by simp),getD_at h2]
theorem IH{l:List j5}{K:List Nat}{w:Nat}(hw:w<l.length):qR l (K ++ [w])=(qR l K).set w ⟨(l.getD w cz).Target,false,(l.getD w cz).Call⟩:=by
 refine zbn (by rw[zao,jE,jE]) λi h1 h2=>?_;rw[qS,zb7];by_cases e:w=i
 .subst e;rw[zb rfl,zb (by simp)]
 .rw[za e,qS];by_cases q:i∈K
  .rw[zb (m9 _ q),zb q]
  .rw[za,za q];rw[zy,zJ];exact λq2=>q2.elim q λq3=>e q3.symm
theorem Kx(l:List j5)(ds:List Int):qR l (mU l ds)=tY l ds:=by
 refine zbn (by rw[jE];simp[tY]) λi h1 h2=>?_;have hi:i<l.length:=by rw[jE] at h1;exact h1
 have ec:(tY l ds)[i]=nf ds l[i]:=sm _;rw[qS,ec,getD_at hi];unfold nf;by_cases c:fV ds l[i]=true
 .rw[zb c,zb];unfold mU;rw[zB,zcf,getD_at hi];exact⟨hi,c⟩
 .rw[za c,za];unfold mU;rw[zB,zcf,getD_at hi];exact λq=>c q.2
theorem T0{α:Type}{l:List α}{k:Nat}(h:k<l.length):l.take (k+1)=l.take k ++ [l[k]]:=zu h
theorem Kw(l:List j5)(ds:List Int)(hl:l.length<=1000)(hd:ds.length<=1000):iu l ds=some (tY l ds,lE (cls l ds)):=by
 unfold iu;rw[Jl l ds hl hd,YK,II l hl,YK];simp only[jn,jQ];have hp:=Qx l ds;refine Y2 (mU l ds).length (λk (b:List j5 × List Int)=>b.1=qR l ((mU l ds).take k)/\b.2=lE (((mU l ds).take k).filter λw=>decide (0<=(l.getD w cz).Call))) (by omega) ⟨by simp[Ky],by simp[lE]⟩ ?_ ?_
 .rintro k ⟨b1,b2⟩ hk ⟨rfl,rfl⟩;left;have hw:=UC (zl hk);have hnm:(mU l ds)[k]∉(mU l ds).take k:=λq=>by
   have hn:=UD l ds;rw[<-zcd k (mU l ds),zb5] at hn;exact hn.2.2 _ q (mU l ds)[k] (by rw[zbh hk];exact zh ..) rfl
  have h1:(mU l ds)[k]<(qR l ((mU l ds).take k)).length:=by rw[jE];exact hw
  have e1:ix (qR l ((mU l ds).take k)) (((mU l ds)[k]:Nat):Int)=some (l.getD (mU l ds)[k] cz):=by rw[u9 h1,qS,za hnm]
  have h2:(mU l ds)[k]<((qR l ((mU l ds).take k)).set (mU l ds)[k] ⟨(l.getD (mU l ds)[k] cz).Target,false,(l.getD (mU l ds)[k] cz).Call⟩).length:=by rw[zao];exact h1
  have e2:ix ((qR l ((mU l ds).take k)).set (mU l ds)[k] ⟨(l.getD (mU l ds)[k] cz).Target,false,(l.getD (mU l ds)[k] cz).Call⟩) (((mU l ds)[k]:Nat):Int)=some ⟨(l.getD (mU l ds)[k] cz).Target,false,(l.getD (mU l ds)[k] cz).Call⟩:=by rw[u9 h2,List.getElem_set_self]
  dsimp only;simp only[zQ,hk,zW,zR,Bk hk,YK,e1,zU,e2];have hle:(lE (((mU l ds).take k).filter λw=>decide (0<=(l.getD w cz).Call))).length<=1000:=by
   rw[jQ];exact rx (wt ..) (by simp;omega)
  rw[T0 hk,IH hw,zas];by_cases c:0<=(l.getD (mU l ds)[k] cz).Call
  .rw[zb (zA c),C4 (by omega) (by simp only[zj,zV];omega),YK,o9];refine⟨_,rfl,rfl,?_⟩;rw[m7,zb (zA c)];simp[lE]
  .rw[za (λq=>c (zbd q)),o9];refine⟨_,rfl,rfl,?_⟩;rw[m7,za (λq=>c (zbd q))];simp[lE]
 .rintro⟨b1,b2⟩ ⟨rfl,rfl⟩;refine⟨_,za (by simp),?_⟩;dsimp only;rw[zY,Kx,<-Pj]
theorem Wp(c:j5)(ds:List Int)(hd:ds.length<=1000):((z8 ((qG c).Intact==true) 0 (kf ds (qG c).Target)).bind λv=>some ((qG c).Intact&&decide (v > 0)))=some (fV ds c):=by
 unfold fV qG;dsimp only;cases hI:c.Intact;·rfl
 .simp only[pi,fM];rw[xy _ _ (by omega),YK];congr 1;rw[zap,zap,zbs];simp only[zK,zk,bne_iff_ne];have:=dD (l:=ds) (h:=c.Target);constructor
  .intro q;exact this.1 (by omega)
  .intro q;have:=this.2 q;omega
theorem Ph(l:List j5)(ds:List Int)(hl:l.length<=1000)(hd:ds.length<=1000):tI (l.map qG) ds=some ((tY l ds).map qG,lE (cls l ds)):=by
 unfold tI;simp only[jn,t7];refine Y2 l.length (λk (b:List H5 × List Int)=>b.1=((tY l ds).take k).map qG/\b.2=lE ((List.range k).filter λw=>fV ds (l.getD w cz)&&decide (0<=(l.getD w cz).Call))) (by omega) ⟨by simp,by simp[lE]⟩ ?_ ?_
 .rintro k ⟨b1,b2⟩ hk ⟨rfl,rfl⟩;left;have hk2:k<(tY l ds).length:=by simp[tY];exact hk
  have e1:ix (l.map qG) (k:Int)=some (qG l[k]):=by rw[fW,u9 hk];rfl
  have hle:(lE ((List.range k).filter λw=>fV ds (l.getD w cz)&&decide (0<=(l.getD w cz).Call))).length<=1000:=by
   rw[jQ];exact rx (wt ..) (by simp;omega)
  dsimp only;simp only[zQ,hk,zW,zR,e1,YK];obtain⟨v,hv,hv2⟩:=C6 (Wp l[k] ds hd);rw[hv,YK];have hv2:=rg hv2;rw[hv2,T0 hk2,zaf,List.range_succ,zas];have ec:(tY l ds)[k]=nf ds l[k]:=sm _;have lc:(List.map qG (List.take k (tY l ds))).length<=1000:=by simp[tY];omega
  rw[ec];unfold nf;by_cases c:fV ds l[k]=true
  .rw[zb c,zb c];by_cases c2:0<=l[k].Call
   .rw[zb (by simpa[qG] using c2),C4 (by omega) (by simp only[zj,zV];omega),YK,C4 (by omega) (by simp only[zj,zV];omega),YK,o9];refine⟨_,rfl,rfl,?_⟩;simp only[m7,zcl,getD_at hk,c,c2,zW,Bool.and_self,zR];simp[lE]
   .rw[za (by simpa[qG] using c2),C4 (by omega) (by simp only[zj,zV];omega),YK,o9];refine⟨_,rfl,rfl,?_⟩;simp only[m7,zcl,getD_at hk,c,c2,zan,Bool.and_false,zm,zZ,pm]
  .rw[za c,za c,C4 (by omega) (by simp only[zj,zV];omega),YK,o9];refine⟨_,rfl,rfl,?_⟩;have c:fV ds l[k]=false:=by simpa using c
   simp only[m7,zcl,getD_at hk,c,zb8,zm,zZ,pm]
 .rintro⟨b1,b2⟩ ⟨rfl,rfl⟩;refine⟨_,za (by simp),?_⟩;dsimp only;rw[za3 (by simp[tY])];rfl
def xM(x:Hp)(ds:List Int):Hp:=⟨x.S,x.Roots,tY x.a8 ds,x.T,⟨x.Q.L++pA x.a8 ds,x.Q.Cap⟩⟩
theorem ep(l:List j5)(ds:List Int):(pA l ds).length=(cls l ds).length:=t7 ..
theorem Kz{l:List j5}{ds:List Int}{w:Nat}(h:w∈cls l ds):w<l.length:=by
 unfold cls at h;rw[zB,zcf] at h;exact h.1
theorem KA{l:List j5}{ds:List Int}{k:Nat}(h:k<(pA l ds).length):(pA l ds)[k]=⟨2,(((cls l ds)[k]'(by rw[<-ep];exact h):Nat):Int),(l.getD ((cls l ds)[k]'(by rw[<-ep];exact h)) cz).Call⟩:=sm _
theorem CK{l:List j5}{ds:List Int}{w:Nat}(h:w<l.length):ix (tY l ds) (w:Int)=some (nf ds l[w]):=by
 unfold tY;rw[fW,u9 h];rfl
section
variable{x:Hp}{ds:List Int}(hc:x.a8.length<=6)(hd:ds.length<=1000)(hq:(x.Q.L++pA x.a8 ds).length<=30)(hcap:x.Q.Cap=30)
include hc hd hq hcap
theorem yr{k:Nat}(hk:k<(pA x.a8 ds).length):Nr ⟨x.Q.L++(pA x.a8 ds).take k,x.Q.Cap⟩ (pA x.a8 ds)[k]=(⟨x.Q.L++(pA x.a8 ds).take (k+1),x.Q.Cap⟩,0):=by
 rw[zx] at hq;unfold Nr;rw[za (by dsimp only;rw[zx,q9,hcap];omega),T0 hk,p0]
theorem EL:dz x ds=some (xM x ds):=by
 unfold dz;rw[Kw _ _ (by omega) hd,YK];dsimp only;simp only[jn,jQ];have hq2:=hq;rw[zx] at hq2;refine Y2 (cls x.a8 ds).length (λk (q:TQ)=>q=⟨x.Q.L++(pA x.a8 ds).take k,x.Q.Cap⟩) (by rw[<-ep];omega) (by simp) ?_ ?_
 .rintro k q hk rfl;left;have hw:=Kz (zl hk);have hk2:k<(pA x.a8 ds).length:=by rw[ep];exact hk
  simp only[zQ,hk,zW,zR,Bk hk,YK,CK hw];have et:(⟨2,(((cls x.a8 ds)[k]:Nat):Int),(nf ds x.a8[(cls x.a8 ds)[k]]).Call⟩:n0)=(pA x.a8 ds)[k]:=by
   rw[KA,(AH ds _).2.1,getD_at hw]
  rw[et,Sk _ (by dsimp only;rw[zx,q9];omega),yr hc hd hq hcap hk2,YK,o9 (by rw[<-ep] at hk;omega)];exact⟨_,rfl,rfl⟩
 .rintro q rfl;refine⟨_,za (by simp),?_⟩;rw[<-ep,zY];rfl
theorem SY{K:G4->Option o6}:((lp (S:=Int × G4) (E:=G4) (λ((s68,s69):Int × G4)=>
   if (decide (s68<((lE (cls x.a8 ds)).length:Int))) then
    (ix (lE (cls x.a8 ds)) s68).bind λv72=>
    (ix ((tY x.a8 ds).map qG) v72).bind λv73=>
    (lS s69 (⟨2,v72,v73.Call⟩:du)).bind λv74=>
    some (.inl (z6 (s68+1),v74.1))
   else
   some (.inr s69)) (0,Ck x.Q)).bind K)=K (Ck (xM x ds).Q):=by
 have hq2:=hq;rw[zx] at hq2;have key:=fB (f:=λ((s68,s69):Int × G4)=>
   if (decide (s68<((lE (cls x.a8 ds)).length:Int))) then
    (ix (lE (cls x.a8 ds)) s68).bind λv72=>
    (ix ((tY x.a8 ds).map qG) v72).bind λv73=>
    (lS s69 (⟨2,v72,v73.Call⟩:du)).bind λv74=>
    some (Sum.inl (z6 (s68+1),v74.1))
   else
   some (.inr s69)) (t0:=Ck x.Q) (cls x.a8 ds).length (λk (q:G4)=>q=Ck ⟨x.Q.L++(pA x.a8 ds).take k,x.Q.Cap⟩) (λq=>q=Ck (xM x ds).Q) (by rw[<-ep];omega) (by simp) ?_ ?_
 .obtain⟨e,h1,h2⟩:=key;rw[h1,YK,h2]
 .rintro k q hk rfl;left;have hw:=Kz (zl hk);have hk2:k<(pA x.a8 ds).length:=by rw[ep];exact hk
  have ei:ix ((tY x.a8 ds).map qG) (((cls x.a8 ds)[k]:Nat):Int)=some (qG (nf ds x.a8[(cls x.a8 ds)[k]])):=by rw[fW,CK hw];rfl
  simp only[jQ,zQ,hk,zW,zR,Bk hk,YK,ei];have et:(⟨2,(((cls x.a8 ds)[k]:Nat):Int),(qG (nf ds x.a8[(cls x.a8 ds)[k]])).Call⟩:du)=Re (pA x.a8 ds)[k]:=by
   rw[KA,getD_at hw];show (⟨2,_,(nf ds x.a8[(cls x.a8 ds)[k]]).Call⟩:du)=_;rw[(AH ds _).2.1];rfl
  rw[et,Sd _ (by dsimp only;rw[zx,q9];omega),yr hc hd hq hcap hk2,YK,o9 (by rw[<-ep] at hk;omega)];exact⟨_,rfl,rfl⟩
 .rintro q rfl;refine⟨_,za (by rw[jQ];simp),?_⟩;rw[<-ep,zY];rfl
end
theorem tQ(s:a7)(i:Nat)(c d:b7):G6 (G6 s i c) i d=G6 s i d:=by
 unfold G6;dsimp only;rw[zch]
section
variable{s:a7}(hR:SR s){d:Int}(hd:d∈lv s)
include hR hd
def k1(s:a7)(d:Int):a7:=G6 s (D4 d) ⟨1,(ce s (D4 d)).Gen,IK (ob s d)⟩
def k2(s:a7)(d:Int):a7:=G6 s (D4 d) ⟨2,(ce s (D4 d)).Gen,IK (ob s d)⟩
theorem AO:xQ s (IK (ob s d)):=by
 have ho:=J5 hR hd;exact⟨ho.s1,ho.s2,n8 _,ho.wk,ho.p1,ho.p2,ut _⟩
theorem Fp:cL s d (IK (ob s d))=k1 s d:=by
 have q:=A3 hR hd;unfold cL putAt k1 G6;rw[q.2.1]
theorem RN:At (k1 s d) d (D4 d):=by
 have q:=A3 hR hd;refine⟨by unfold k1;rw[Z5];exact q.1,?_,?_⟩;·unfold k1;rw[L4 q.1,zb rfl]
 .unfold k1;rw[L4 q.1,zb rfl];exact q.2.2
theorem RO:SR (k1 s d):=by rw[<-Fp hR hd];exact bw (o:=IK (ob s d)) hR hd rfl (AO hR hd)
theorem RR:SR (k2 s d):=by
 have q:=A3 hR hd;have hc:=hR.cell _ q.1;unfold k2;refine hR.G6 q.1 ⟨by simp,by simp,hc.2.2.1,hc.2.2.2⟩ (λq=>absurd (.inr rfl) q) (λ_=>⟨AO hR hd,.inl q.2.1,?_⟩);show (ob s d).Serial=_;rw[Q2 hR q]
theorem RP:Z6 (k2 s d) d (D4 d):=by
 have q:=A3 hR hd;refine⟨by unfold k2;rw[Z5];exact q.1,?_,?_⟩;·unfold k2;rw[L4 q.1,zb rfl];exact .inr rfl
 .unfold k2;rw[L4 q.1,zb rfl];exact q.2.2
theorem PI:V4 (k1 s d).S d=some ((k2 s d).S,0):=by
 have q:=A3 hR hd;have hR1:=RO hR hd;have q1:=RN hR hd;have hr:=I3 hR hd;have hlen:=hR1.len;have hH:py d:=((qo hR1).2 q1.d).2.1;have hsl:(d-1) % 32=(D4 d:Nat):=((qo hR1).2 q1.d).2.2.1;have hg:(d-1) / 32=(ce s (D4 d)).Gen:=by
  have:=q.2.2;have h24:=hR.len;have:=q.1;omega
 unfold V4 C5;rw[kY hR1 q1.d,YK,za (by simp),Dc q1.1,YK,q1.2.1,za (by simp),YK,za (by simp),gK (by omega),YK,zb hH,hsl,jv (by omega),YK,zb hH,hg,kK rfl q1.1 hlen,YK];have e:(ce (k1 s d) (D4 d)).Val=IK (ob s d):=by unfold k1;rw[L4 q.1,zb rfl]
 rw[e];congr 2;show (G6 (k1 s d) (D4 d) _).S=(k2 s d).S;unfold k1 k2;rw[tQ]
theorem RI(hw:(ob s d).Weak=0):yG (k2 s d) (D4 d)=AZ s d:=by
 have q:=A3 hR hd;have e:ce (k2 s d) (D4 d)=⟨2,(ce s (D4 d)).Gen,IK (ob s d)⟩:=by unfold k2;rw[L4 q.1,zb rfl]
 unfold yG AZ JN;rw[e];rw[Q2 hR q] at hw;rw[zb hw];unfold k2;rw[tQ];rfl
theorem RQ(hw:(ob s d).Weak≠0):k2 s d=AZ s d:=by
 have q:=A3 hR hd;unfold k2 AZ JN;rw[Q2 hR q] at hw |-;rw[za hw]
end
theorem Ja{x:Hp}(hR:SR x.S){d:Int}(hd:d∈lv x.S):af x d=some (wS x (AZ x.S d)):=by
 unfold af;rw[tf hR hd,YK];have e1:K8 x.S d (⟨(ob x.S d).Serial,0,(ob x.S d).Weak,(ob x.S d).Prog,(ob x.S d).Started,[]⟩:p7)=some (k1 x.S d,0):=by
  rw[<-Fp hR hd];exact sw (o:=IK (ob x.S d)) hR hd rfl (AO hR hd)
 rw[e1,YK,PI hR hd,YK];by_cases hw:(ob x.S d).Weak=0
 .rw[zb (by simpa using hw),GZ (RR hR hd) (RP hR hd),YK,RI hR hd hw];rfl
 .rw[za (by simpa using hw)];show some (wS x (k2 x.S d))=_;rw[RQ hR hd hw]
theorem TX{s:a7}(hR:SR s){d:Int}(hd:d∈lv s):xe (sO (k1 s d)) d=some (sO (k2 s d)):=by
 have q:=A3 hR hd;have hR1:=RO hR hd;have q1:=RN hR hd;have hlen:=hR1.len;have hr:=I3 hR hd;have hi:=q1.1;have hi2:D4 d<(sO (k1 s d)).a8.length:=by rw[C2];exact hi
 have S9:D4 d<(pl (sO (k1 s d))).a8.length:=by rw[bX];exact hi2
 have hlen2:(sO (k1 s d)).a8.length<=24:=by rw[C2];exact hlen
 unfold xe DE vp;rw[iY _ (by omega),YK,ta (k1 s d) (by omega),kY hR1 q1.d,YK,za (by simp),Dy hi2,YK];have hst:(yb (D4 d) (sO (k1 s d)).a8[D4 d]).State=1:=by
  have:=q1.2.1;rw[F1 hi] at this;simpa[yb,sO,cO] using this
 have hgen:(yb (D4 d) (sO (k1 s d)).a8[D4 d]).Gen=(ce s (D4 d)).Gen:=by
  have:(ce (k1 s d) (D4 d)).Gen=(ce s (D4 d)).Gen:=by unfold k1;rw[L4 q.1,zb rfl]
  rw[F1 hi] at this;simpa[yb,sO,cO] using this
 rw[hst,za (by simp),YK,za (by simp),YK];dsimp only;rw[Dy hi2,YK];have w3:∀c:O8,bF (pl (sO (k1 s d))) ((D4 d:Nat):Int) c=some ⟨(pl (sO (k1 s d))).a8.set (D4 d) c,(pl (sO (k1 s d))).Last⟩:=λc=>by
  unfold bF;rw[V0 (by omega) (by rw[bX];omega),YK,u9 S9,YK,zU]
 rw[w3,YK,YK,xA _ _ (by omega) (by simp[bX]),YK,hgen];unfold k2;rw[<-tQ s (D4 d) ⟨1,(ce s (D4 d)).Gen,IK (ob s d)⟩,HY];show some _=some (⟨(sO (k1 s d)).a8.set (D4 d) _,_,_⟩:y9);congr 1;congr 1;refine zbn (by simp) λk h1 h2=>?_;have hk:k<(k1 s d).S.a8.length:=by simpa[C2] using h1
 have hk2:k<(sO (k1 s d)).a8.length:=by rw[C2];exact hk
 have hk3:k<(pl (sO (k1 s d))).a8.length:=by rw[bX];exact hk2
 simp only[sm,List.getElem_range,zb7];rw[jL S9,getD_at hk2,getD_at hk3];by_cases e:k=D4 d
 .subst e;rw[zb rfl,zb rfl];have e2:(sO (k1 s d)).a8[D4 d].Val=oo (IK (ob s d)):=by
   have:(ce (k1 s d) (D4 d)).Val=IK (ob s d):=by unfold k1;rw[L4 q.1,zb rfl]
   rw[<-this,F1 hi];simp[sO,cO]
  rw[e2];rfl
 .rw[za e,za (zar e)];simp[sO,pl,yb,cO]
theorem TH{x:Hp}(hR:SR x.S){d:Int}(hd:d∈lv x.S):nI (hO x) d=some (hO (wS x (AZ x.S d))):=by
 unfold nI;rw[show (hO x).S=sO x.S from rfl,rl hR hd,YK];have e1:P5 (sO x.S) d (⟨(oo (ob x.S d)).Serial,0,(oo (ob x.S d)).Weak,(oo (ob x.S d)).Prog,(oo (ob x.S d)).Started,[]⟩:R4)=some (sO (k1 x.S d),0):=by
  rw[<-Fp hR hd];exact sx (o:=IK (ob x.S d)) hR hd rfl (AO hR hd)
 rw[e1,YK,TX hR hd,YK];by_cases hw:(ob x.S d).Weak=0
 .rw[zb (by simpa[oo] using hw),Lf (RR hR hd) (RP hR hd),YK,RI hR hd hw];rfl
 .rw[za (by simpa[oo] using hw)];show some (hO (wS x (k2 x.S d)))=_;rw[RQ hR hd hw]
theorem HT:∀(l:List Int) {x:Hp},SR x.S->SR (l.foldl R8 x).S
 | [],x,h=>h
 | v::l,x,h=>HT l (x:=R8 x v) (FQ h v)
theorem BQ:∀(l:List Int) {x:Hp},SR x.S->SL x->SL (l.foldl R8 x)
 | [],x,_,h=>h
 | v::l,x,hR,h=>BQ l (x:=R8 x v) (FQ hR v) (h.XE hR v)
theorem Jp(l:List Int){k:Nat}(hk:k<l.length)(x:Hp):(l.take (k+1)).foldl R8 x=R8 ((l.take k).foldl R8 x) l[k]:=by
 rw[T0 hk,za5];rfl
theorem BN{y:Hp}(hR:SR y.S)(l:List Int)(hl:l.length<=1000000)(hb:∀v∈l,v<=9223372036854775807){K:Hp->Option Hp}:((lp (S:=Int × b6) (E:=b6) (λ((s35,s36):Int × b6)=>
     if (decide (s35<(l.length:Int))) then
      (ix l s35).bind λv39=>
      (C9 s36 v39).bind λv40=>
      some (.inl (z6 (s35+1),v40))
     else
     some (.inr s36)) (0,y)).bind K)=K (l.foldl R8 y):=by
 have key:=O6 l R8 id (λk z=>SR z.S) (b0:=y) (f:=λ((s35,s36):Int × b6)=>
     if (decide (s35<(l.length:Int))) then
      (ix l s35).bind λv39=>
      (C9 s36 v39).bind λv40=>
      some (Sum.inl (z6 (s35+1),v40))
     else
     some (.inr s36)) (by omega) hR (λk hk z hz=>?_) (λz hz=>by simp)
 .rw[key,YK];rfl
 .simp only[zQ,hk,zW,zR,u9 hk,YK,ee hz (hb _ (zl hk))];rw[o9];exact⟨rfl,FQ hz _⟩
theorem xg{y:Hp}(hR:SR y.S)(l:List Int)(hl:l.length<=1000000)(hb:∀v∈l,v<=9223372036854775807){K:o6->Option o6}:((lp (S:=Int × o6) (E:=o6) (λ((s45,s46):Int × o6)=>
      if (decide (s45<(l.length:Int))) then
       (ix l s45).bind λv49=>
       (J3 s46 v49).bind λv50=>
       some (.inl (z6 (s45+1),v50))
      else
      some (.inr s46)) (0,hO y)).bind K)=K (hO (l.foldl R8 y)):=by
 have key:=fB (f:=λ((s45,s46):Int × o6)=>
      if (decide (s45<(l.length:Int))) then
       (ix l s45).bind λv49=>
       (J3 s46 v49).bind λv50=>
       some (Sum.inl (z6 (s45+1),v50))
      else
      some (.inr s46)) (t0:=hO y) l.length (λk z=>z=hO ((l.take k).foldl R8 y)) (λz=>z=hO (l.foldl R8 y)) (by omega) rfl ?_ ?_
 .obtain⟨e,h1,h2⟩:=key;rw[h1,YK,h2]
 .rintro k z hk rfl;left;have hz:=HT (l.take k) hR;simp only[zQ,hk,zW,zR,u9 hk,YK,oU hz (hb _ (zl hk))];rw[o9,<-Jp l hk];exact⟨_,rfl,rfl⟩
 .rintro z rfl;exact⟨_,za (by simp),by rw[zY]⟩
theorem CV(s:a7)(ds:List Int){k:Nat}(hk:k<ds.length):ly s (ds.take (k+1))=AZ (ly s (ds.take k)) ds[k]:=by
 unfold ly;rw[T0 hk,za5];rfl
section
variable{y:Hp}(hR:SR y.S){ds:List Int}(hn:ds.Nodup)(hm:∀d∈ds,d∈lv y.S)
include hR hn hm
theorem wE{k:Nat}(hk:k<ds.length):SR (ly y.S (ds.take k))/\ds[k]∈lv (ly y.S (ds.take k)):=by
 have g:=db (ds.take k) hR ((List.take_sublist k ds).nodup hn) λd hd=>hm d (mt hd);refine⟨g.sr,?_⟩;rw[g.lv,zB,zK];refine⟨hm _ (zl hk),λq=>?_⟩;rw[<-zcd k ds,zb5] at hn;exact hn.2.2 _ q ds[k] (by rw[zbh hk];exact zh ..) rfl
theorem IZ(hl:ds.length<=1000){K:Hp->Option Hp}:((lp (S:=Int × b6) (E:=b6) (λ((s42,s43):Int × b6)=>
    if (decide (s42<(ds.length:Int))) then
     (ix ds s42).bind λv46=>
     (af s43 v46).bind λv47=>
     some (.inl (z6 (s42+1),v47))
    else
    some (.inr s43)) (0,y)).bind K)=K (wS y (ly y.S ds)):=by
 have key:=fB (f:=λ((s42,s43):Int × b6)=>
    if (decide (s42<(ds.length:Int))) then
     (ix ds s42).bind λv46=>
     (af s43 v46).bind λv47=>
     some (Sum.inl (z6 (s42+1),v47))
    else
    some (.inr s43)) (t0:=y) ds.length (λk z=>z=wS y (ly y.S (ds.take k))) (λz=>z=wS y (ly y.S ds)) (by omega) rfl ?_ ?_
 .obtain⟨e,h1,h2⟩:=key;rw[h1,YK,h2]
 .rintro k z hk rfl;left;obtain⟨h1,h2⟩:=wE hR hn hm hk;simp only[zQ,hk,zW,zR,u9 hk,YK,Ja (x:=wS y (ly y.S (ds.take k))) h1 h2];rw[o9,CV _ _ hk];exact⟨_,rfl,rfl⟩
 .rintro z rfl;exact⟨_,za (by simp),by rw[zY]⟩
theorem Df(hl:ds.length<=1000){K:o6->Option o6}:((lp (S:=Int × o6) (E:=o6) (λ((s52,s53):Int × o6)=>
     if (decide (s52<(ds.length:Int))) then
      (ix ds s52).bind λv56=>
      (nI s53 v56).bind λv57=>
      some (.inl (z6 (s52+1),v57))
     else
     some (.inr s53)) (0,hO y)).bind K)=K (hO (wS y (ly y.S ds))):=by
 have key:=fB (f:=λ((s52,s53):Int × o6)=>
     if (decide (s52<(ds.length:Int))) then
      (ix ds s52).bind λv56=>
      (nI s53 v56).bind λv57=>
      some (Sum.inl (z6 (s52+1),v57))
     else
     some (.inr s53)) (t0:=hO y) ds.length (λk z=>z=hO (wS y (ly y.S (ds.take k)))) (λz=>z=hO (wS y (ly y.S ds))) (by omega) rfl ?_ ?_
 .obtain⟨e,h1,h2⟩:=key;rw[h1,YK,h2]
 .rintro k z hk rfl;left;obtain⟨h1,h2⟩:=wE hR hn hm hk;simp only[zQ,hk,zW,zR,u9 hk,YK,TH (x:=wS y (ly y.S (ds.take k))) h1 h2];rw[o9,CV _ _ hk];exact⟨_,rfl,rfl⟩
 .rintro z rfl;exact⟨_,za (by simp),by rw[zY]⟩
end
section
variable{x:Hp}(hx:O4 x){ds:List Int}(hn:ds.Nodup)(hm:∀d∈ds,d∈lv x.S)
include hx hn hm
theorem AQ:ds.length<=24:=rx (gQ hn hm) (M7 (y6.2 hx.sh.sr))
theorem AU{d:Int}(hd:d∈lv x.S):(ob x.S d).Fields.length<=4:=(J5 hx.sh.sr hd).fl
theorem Bz{d:Int}(hd:d∈lv x.S):(outs x.S d).length<=4:=rx (LY _) (AU hx hn hm hd)
theorem oE:∀(l:List Int),(∀d∈l,d∈lv x.S)->(l.flatMap (outs x.S)).length<=4*l.length
 | [],_=>by simp
 | d::l,h=>by
  rw[zaz,zx,zj];have:=oE l λe he=>h e (zo _ he);have:=Bz hx hn hm (h d (zh ..));omega
theorem Hx:∀v∈ds.flatMap (outs x.S)++(mA x.T ds).2,v<=9223372036854775807:=λv hv=>by
 rcases zy.1 hv with q | q
 .obtain⟨d,hd,q⟩:=my.1 q;obtain⟨q,_⟩:=lK.1 q;rcases hx.sh.fl d (hm d hd) v q with e | e
  .omega
  .exact gO hx.sh.sr e
 .by_cases h0:v=0
  .omega
  .have hl:=AQ hx hn hm;have h3:=(iv hx.sh.hr ds (by omega)).2.2.2.2.2 v;have h4:=dD.2 ⟨h0,q⟩;have h5:0<own x.T v:=by omega
   obtain⟨p,hp,hq⟩:=zbu.1 h5;have hq:(v != 0&&p.Val==v)=true:=hq;rw[zk,we] at hq;have:=(hx.sh.pr _ _ (iW.1 hp)).2;rw[hq.2] at this;exact gO hx.sh.sr this
theorem Du:(ds.flatMap (outs x.S)++(mA x.T ds).2).length<=200:=by
 have hl:=AQ hx hn hm;have h1:=oE hx hn hm ds hm;have h2:=(iv hx.sh.hr ds (by omega)).2.2.1;rw[zx];omega
theorem GL(hq:(x.Q.L++pA x.a8 ds).length<=30){l:List Int}(h1:X0 x l=some ds):aP x l=some (gk x ds):=by
 have hl:=AQ hx hn hm;have hR:=hx.sh.sr;obtain⟨w1,w2,w3,w4,w5,w6⟩:=iv hx.sh.hr ds (by omega);have ol:=Du hx hn hm;have fl:=oE hx hn hm ds hm;unfold aP;rw[h1,YK,EL (by have:=hx.sh.c6;omega) (by omega) hq hx.sh.cap,YK];simp only[jn];have key:=O6 ds (λb d=>b++outs x.S d) id (λk b=>b.length<=4*k) (b0:=[]) (f:=λ((s49,s50):Int × (List Int))=>
   if (decide (s49<(ds.length:Int))) then
    (ix ds s49).bind λv53=>
    (y4 (xM x ds).S v53).bind λv54=>
    (gx v54.1.Fields).bind λv55=>
    (app 8 s50 v55).bind λv56=>
    some (Sum.inl (z6 (s49+1),v56))
   else
   some (.inr s50)) (by omega) (by simp) (λk hk b hb=>?_) (λb hb=>by simp)
 .rw[key,YK,lx,zbr];dsimp only[id];rw[show (xM x ds).T=x.T from rfl,w1,YK];have ol2:=ol;rw[zx] at ol2;rw[C4 (by omega) (by omega),YK];have k1:=IZ (y:=⟨(xM x ds).S,(xM x ds).Roots,(xM x ds).a8,(mA x.T ds).1,(xM x ds).Q⟩) hR hn hm (by omega) (K:=λe=>(lp (S:=Int × b6) (E:=b6) (λ((s35,s36):Int × b6)=>
     if (decide (s35<((ds.flatMap (outs x.S)++(mA x.T ds).2).length:Int))) then
      (ix (ds.flatMap (outs x.S)++(mA x.T ds).2) s35).bind λv39=>
      (C9 s36 v39).bind λv40=>
      some (.inl (z6 (s35+1),v40))
     else
     some (.inr s36)) (0,e)).bind λe34=>some e34)
  refine zcj k1 ?_;have g:=db ds hR hn hm;have k2:=BN (y:=wS (⟨(xM x ds).S,(xM x ds).Roots,(xM x ds).a8,(mA x.T ds).1,(xM x ds).Q⟩:Hp) (ly x.S ds)) g.sr _ (by omega) (Hx hx hn hm) (K:=λe34=>some e34);refine zcj k2 ?_;rfl
 .have hd:=hm _ (zl hk);have f4:=AU hx hn hm hd;have o4:=Bz hx hn hm hd;simp only[zQ,hk,zW,zR,u9 hk,YK,show (xM x ds).S=x.S from rfl,tf hR hd,Dp _ (by omega:(ob x.S ds[k]).Fields.length<=1000000)];have e:nz (ob x.S ds[k]).Fields=outs x.S ds[k]:=rfl;rw[e,C4 (by omega) (by omega),YK,o9];exact⟨rfl,by rw[zx];omega⟩
theorem IE(hq:(x.Q.L++pA x.a8 ds).length<=30){l:List Int}(h1:rZ (hO x) l=some ds):rW (hO x) l=some (hO (gk x ds)):=by
 have hl:=AQ hx hn hm;have hR:=hx.sh.sr;obtain⟨w1,w2,w3,w4,w5,w6⟩:=iv hx.sh.hr ds (by omega);have ol:=Du hx hn hm;have fl:=oE hx hn hm ds hm;have c6:=hx.sh.c6;unfold rW;rw[h1,YK,show (hO x).a8=x.a8.map qG from rfl,Ph _ _ (by omega) (by omega),YK];simp only[jn];rw[show (hO x).Q=Ck x.Q from rfl,SY (by omega) (by omega) hq hx.sh.cap];have key:=O6 ds (λb d=>b++outs x.S d) id (λk b=>b.length<=4*k) (b0:=[]) (f:=λ((s59,s60):Int × (List Int))=>
    if (decide (s59<(ds.length:Int))) then
     (ix ds s59).bind λv63=>
     (M1 (hO x).S v63).bind λv64=>
     (ke v64.1.Fields).bind λv65=>
     (app 8 s60 v65).bind λv66=>
     some (Sum.inl (z6 (s59+1),v66))
    else
    some (.inr s60)) (by omega) (by simp) (λk hk b hb=>?_) (λb hb=>by simp)
 .rw[key,YK,lx,zbr];dsimp only[id];rw[show (hO x).T=x.T.map S9 from rfl,w4,YK];dsimp only;have ol2:=ol;rw[zx] at ol2;rw[C4 (by omega) (by omega),YK];have k1:=Df (y:=⟨(xM x ds).S,(xM x ds).Roots,(xM x ds).a8,(mA x.T ds).1,(xM x ds).Q⟩) hR hn hm (by omega) (K:=λe=>(lp (S:=Int × o6) (E:=o6) (λ((s45,s46):Int × o6)=>
      if (decide (s45<((ds.flatMap (outs x.S)++(mA x.T ds).2).length:Int))) then
       (ix (ds.flatMap (outs x.S)++(mA x.T ds).2) s45).bind λv49=>
       (J3 s46 v49).bind λv50=>
       some (.inl (z6 (s45+1),v50))
      else
      some (.inr s46)) (0,e)).bind λe44=>some e44)
  refine zcj k1 ?_;have g:=db ds hR hn hm;have k2:=xg (y:=wS (⟨(xM x ds).S,(xM x ds).Roots,(xM x ds).a8,(mA x.T ds).1,(xM x ds).Q⟩:Hp) (ly x.S ds)) g.sr _ (by omega) (Hx hx hn hm) (K:=λe44=>some e44);refine zcj k2 ?_;rfl
 .have hd:=hm _ (zl hk);have f4:=AU hx hn hm hd;have o4:=Bz hx hn hm hd;simp only[zQ,hk,zW,zR,u9 hk,YK,show (hO x).S=sO x.S from rfl,rl hR hd];have e:ke (oo (ob x.S ds[k])).Fields=some (outs x.S ds[k]):=Fz _ (by show (ob x.S ds[k]).Fields.length<=_;omega);rw[e,YK,C4 (by omega) (by omega),YK,o9];exact⟨rfl,by rw[zx];omega⟩
end
theorem Pa{x:Hp}(hR:SR x.S)(hS:SL x){ds:List Int}(hn:ds.Nodup)(hm:∀d∈ds,d∈lv x.S)(t:Tb):SL (iy x ds t):=λk hk=>by
 have g:=db ds hR hn hm;have hk:k∈lv (ly x.S ds):=hk;rw[g.lv,zB,zK] at hk;have e:ob (iy x ds t).S k=ob x.S k:=g.ob k hk.1 hk.2;rw[e];exact hS k hk.1
theorem Kp{x:Hp}(hR:SR x.S)(hS:SL x){ds:List Int}(hn:ds.Nodup)(hm:∀d∈ds,d∈lv x.S):SL (gk x ds):=
 BQ _ (x:=iy x ds (mA x.T ds).1) (db ds hR hn hm).sr (Pa hR hS hn hm _)
theorem MG{x:Hp}(hR:SR x.S)(hS:SL x){h:Int}(hh:h∈lv x.S):SL (gT x h):=by
 have hok:=Cb hR hh;have r1:=bw (o:=dO (ob x.S h)) hR hh rfl hok;refine SL.C7 (x:=⟨cL x.S h (dO (ob x.S h)),x.Roots,x.a8,x.T,⟨x.Q.L ++ [um x h],x.Q.Cap⟩⟩) (λk hk=>?_) r1 h;dsimp only at hk |-;rw[fH (o:=dO (ob x.S h)) hR hh rfl hok] at hk;rw[eh (o:=dO (ob x.S h)) hR hh rfl hok (gO hR hk)];split;·exact hS h hh
 .exact hS k hk
theorem Vl{x:Hp}(hx:O4 x)(hS:SL x):SL (Ii x):=by
 cases h:zr x with
 | nil=>rw[pa h];exact hS
 | cons z l=>
  have hz:=(cg.1 (show z∈zr x by rw[h];exact zh ..)).1;rw[il h];split;·exact MG hx.sh.sr hS hz
  .exact Kp hx.sh.sr hS (by simp) (by simpa using hz)
theorem Cc{x:Hp}(hx:O4 x)(hS:SL x)(n:Nat):SL (uO n x):=by
 induction n with
 | zero=>exact hS
 | succ n ih=>rw[dB];exact Vl (bj hx n) ih
theorem Ib{x:Hp}(hx:O4 x)(hS:SL x):SL (dy x):=Cc hx hS 100
section
variable{x:Hp}(hx:O4 x)(hS:SL x)
include hx hS
theorem As{z:Int}(hz:z∈zr x):(x.Q.L++pA x.a8 [z]).length<=30:=by
 have h1:=(xK hx hz).sh.q30;have hzl:=(cg.1 hz).1;rw[(qP hx.sh.sr (ds:=[z]) (by simp) (by simpa using hzl)).2.2.2] at h1;exact h1
theorem Ju(h:zr x = []):((cI x).bind λv4=>
  if ((v4.length:Int)==0) then
   some (Sum.inr x)
  else
  (ix v4 0).bind λv5=>
  (y4 x.S v5).bind λv6=>
  (M9 v6.1).bind λv7=>
  if v7 then
   (U8 x v5).bind λv8=>
   some (.inl v8)
  else
  (cut v4 0 1).bind λv9=>
  (aP x v9).bind λv10=>
  some (Sum.inl (α:=Hp) (β:=Hp) v10))=some (.inr x):=by
 rw[zero_eq hx.sh.sr,YK,h];rfl
theorem VY(z:Int)(l:List Int):cut (z::l) 0 1=some [z]:=by
 unfold cut;rw[zb (by simp;omega)];simp
theorem FR(h:zr x ≠ []):((cI x).bind λv4=>
  if ((v4.length:Int)==0) then
   some (Sum.inr x)
  else
  (ix v4 0).bind λv5=>
  (y4 x.S v5).bind λv6=>
  (M9 v6.1).bind λv7=>
  if v7 then
   (U8 x v5).bind λv8=>
   some (.inl v8)
  else
  (cut v4 0 1).bind λv9=>
  (aP x v9).bind λv10=>
  some (Sum.inl (α:=Hp) (β:=Hp) v10))=some (.inl (Ii x)):=by
 cases hz:zr x with
 | nil=>exact absurd hz h
 | cons z l=>
  have hzm:z∈zr x:=by rw[hz];exact zh ..
  have hzl:=(cg.1 hzm).1;have hR:=hx.sh.sr;rw[zero_eq hR,YK,hz,za (by simp;omega),show ix (z::l) 0=some z from rfl,YK,tf hR hzl,YK,Hz,YK,il hz];by_cases hd:due (ob x.S z)=true
  .rw[zb hd,zb hd,yZ hx hS (gO hR hzl),YK];unfold UN;rw[zb ⟨hzl,hd⟩]
  .rw[za hd,za hd,VY hx hS,YK,GL hx (ds:=[z]) (by simp) (by simpa using hzl) (As hx hS hzm) (by rw[rC hR [z] (by simp) (by simpa using gO hR hzl),Dj hzl]),YK]
theorem gv:P8 x=some (dy x):=by
 obtain⟨n,hn,h1,h2,h3⟩:=tR hx;unfold P8;refine jT (λj=>uO j x) rfl n (λ_=>True) (by omega) trivial (λk hk _=>.inl ⟨?_,trivial⟩) (λ_=>⟨uO n x,?_,by rw[h3]⟩)
 .have:=FR (bj hx k) (Cc hx hS k) (h2 k hk);rw[<-dB] at this;exact this
 .exact Ju (bj hx n) (Cc hx hS n) h1
theorem QO{k:Nat}(hk:k<100)(h:zr x ≠ []){E:Type}{e:E}:((rY (hO x)).bind λv35=>
     if ((v35.length:Int)==0) then
      some (Sum.inr e)
     else
     (ix v35 0).bind λv36=>
     (rX (hO x) v36).bind λv37=>
     if v37 then
      (lU (hO x) v36).bind λv38=>
      some (.inl (z6 ((k:Int)+1),v38))
     else
     (cut v35 0 1).bind λv39=>
     (rW (hO x) v39).bind λv40=>
     some (Sum.inl (z6 ((k:Int)+1),v40)))=some (.inl (((k+1:Nat):Int),hO (Ii x))):=by
 cases hz:zr x with
 | nil=>exact absurd hz h
 | cons z l=>
  have hzm:z∈zr x:=by rw[hz];exact zh ..
  have hzl:=(cg.1 hzm).1;have hR:=hx.sh.sr;rw[NR hR,YK,hz,za (by simp;omega),show ix (z::l) 0=some z from rfl,YK,RE hx hS (gO hR hzl),YK,zA hzl,zap,il hz,o9];by_cases hd:due (ob x.S z)=true
  .rw[zb hd,zb hd,MH hx hS (gO hR hzl),YK];unfold UN;rw[zb ⟨hzl,hd⟩]
  .rw[za hd,za hd,VY hx hS,YK,IE hx (ds:=[z]) (by simp) (by simpa using hzl) (As hx hS hzm) (by rw[Tr hR [z] (by simp) (by simpa using gO hR hzl),Dj hzl]),YK]
theorem xr:aN (hO x)=some (hO (dy x)):=by
 obtain⟨n,hn,h1,h2,h3⟩:=tR hx;unfold aN;simp only[jn];refine jT (λj=>((j:Int),hO (uO j x))) (by rfl) n (λ_=>True) (by omega) trivial (λk hk _=>.inl ⟨?_,trivial⟩) (λ_=>⟨.inl (hO (uO n x)),?_,by rw[h3]⟩)
 .dsimp only;rw[zb (by simp;omega)];have:=QO (bj hx k) (Cc hx hS k) (k:=k) (by omega) (h2 k hk) (e:=(Sum.inl (hO (uO k x)):o6 ⊕ o6));rw[<-dB] at this;exact this
 .dsimp only;rw[zb (by simp;omega),NR (bj hx n).sh.sr,YK,h1];rfl
end
def L7(n l m e:Int):Int:=if n<l\/n > m then e else 0
def az(a b c:Int):Int:=if a≠0 then a else if b≠0 then b else c
def B0(k a b c:Int):Int:=
 if k=1 then az (L7 a 0 5 6) (L7 b 0 4 1) (L7 c (-1) 5 13)
 else if k=2\/k=9\/k=10 then az (L7 a 0 5 6) (L7 b 0 5 6) 0
 else if k=3 then L7 a 0 5 6
 else if k=4 then az (L7 a 0 5 6) (L7 b 0 5 6) (L7 c 0 3 5)
 else if k=5 then az (L7 a 0 5 6) (L7 b 0 3 5) (L7 c (-1) 5 6)
 else if k=6 then az (L7 a 0 5 7) (L7 b (-1) 5 6) (L7 c (-1) 5 13)
 else if k=7 then az (L7 a 0 5 6) (L7 b 0 5 7) 0
 else if k=8 then az (L7 a 0 5 6) (L7 b (-1) 5 6) 0
 else if k=11 then 0
 else if k=12 then L7 a 0 200 12
 else 14
def BM:k8:=⟨some 169,0,5,6⟩
def QH:k8:=⟨some 170,0,5,6⟩
def WJ:k8:=⟨some 170,-1,5,6⟩
def WV:k8:=⟨some 172,-1,5,13⟩
def ua:List (Int × List k8):=[(1,[BM,⟨some 170,0,4,1⟩,WV]),(2,[BM,QH]),(3,[BM]),(4,[BM,QH,⟨some 172,0,3,5⟩]),
 (5,[BM,⟨some 170,0,3,5⟩,⟨some 172,-1,5,6⟩]),(6,[⟨some 169,0,5,7⟩,WJ,WV]),(7,[BM,⟨some 170,0,5,7⟩]),(8,[BM,WJ]),(9,[BM,QH]),(10,[BM,QH]),(11,[]),(12,[⟨some 169,0,200,12⟩])]
theorem ER:ld=some ua:=by kernel_rfl
def fh(o:e6)(d:k8):Int:=if d.part=some 169 then o.A else if d.part=some 170 then o.B else o.C
def pz(o:e6)(d:k8):Bool:=decide (fh o d<d.least)||decide (fh o d > d.most)
def rh(o:e6):List k8->Int ⊕ Unit
 | []=>.inr ()
 | d::ds=>if pz o d then .inl d.e else rh o ds
theorem CS(o:e6)(d:k8)(ds:List k8):rh o (d::ds)=if pz o d then .inl d.e else rh o ds:=rfl
def Gk(d:k8):Prop:=d.part=some 169\/d.part=some 170\/d.part=some 172
theorem UH(o:e6){d:k8}(h:Gk d):rj d.part o=some (fh o d):=by
 unfold fh;rcases h with h | h | h
 .rw[h];rfl
 .rw[h];rfl
 .rw[h];rfl
theorem Ua(o:e6)(ds:List k8)(hl:ds.length<=10)(hp:∀d∈ds,Gk d):lp (S:=Int) (E:=Int ⊕ Unit) (λ(s11:Int)=>
   if (decide (s11<(ds.length:Int))) then
    (ix ds s11).bind λv13=>
    (rj v13.part o).bind λv14=>
    if ((decide (v14<v13.least))||(decide (v14 > v13.most))) then
     some (.inr (.inl v13.e))
    else
    some (.inl (z6 (s11+1)))
   else
   some (.inr (.inr ()))) 0=some (rh o ds):=by
 refine eN (Di ds.length (λk=>rh o ds=rh o (ds.drop k)) (λe=>e=rh o ds) (by omega) rfl (λk hk hP=>?_) (λhP=>?_))
 .rw[zb (by simpa using hk),u9 hk,YK,UH o (hp _ (zl hk)),YK];rw[zbh hk,CS] at hP;by_cases c:pz o ds[k]=true
  .rw[zb (show ((decide (fh o ds[k]<ds[k].least))||(decide (fh o ds[k] > ds[k].most)))=true from c)];rw[zb c] at hP;exact .inr ⟨_,rfl,hP.symm⟩
  .rw[za (show ¬((decide (fh o ds[k]<ds[k].least))||(decide (fh o ds[k] > ds[k].most)))=true from c),o9];rw[za c] at hP;exact .inl ⟨rfl,hP⟩
 .rw[List.drop_length] at hP;exact⟨_,za (by simp),hP.symm⟩
theorem Pp:∀p∈ua,p.2.length<=10/\∀d∈p.2,Gk d:=by
 have:ua.all (λp=>decide (p.2.length<=10)&&p.2.all λd=>(d.part==some 169)||(d.part==some 170)||(d.part==some 172))=true:=by kernel_rfl
 intro p hp;have:=zd.1 this p hp;rw[zk,zK,zd] at this;refine⟨this.1,λd hd=>?_⟩;have:=this.2 d hd;simp only[zae,we] at this;unfold Gk;rcases this with (h | h) | h
 .exact .inl h
 .exact .inr (.inl h)
 .exact .inr (.inr h)
theorem Hk{m:List (Int × List k8)}{k:Int}{v:List k8}(h:z7 m k=some v):(k,v)∈m:=by
 induction m with
 | nil=>cases h
 | cons p m ih=>
  unfold z7 at h;split at h
  .rename_i c;have:k=p.1:=by simpa using c
   cases h;subst this;exact zh ..
  .exact zo _ (ih h)
def sD(o:e6)(ds:List k8):Int:=match rh o ds with
 | .inl e=>e
 | .inr _=>0
theorem Ro(o:e6):sD o []=0:=rfl
theorem sF(o:e6)(d:k8)(ds:List k8):sD o (d::ds)=if pz o d then d.e else sD o ds:=by
 unfold sD;rw[CS];cases pz o d <;> rfl
theorem Bg(o:e6)(d:k8):L7 (fh o d) d.least d.most d.e=if pz o d then d.e else 0:=by
 unfold L7 pz;by_cases h:fh o d<d.least\/fh o d > d.most
 .rw[zb h,zb (by simpa using h)]
 .rw[za h,za (by simpa using h)]
theorem Rl(o:e6)(d:k8):sD o [d]=L7 (fh o d) d.least d.most d.e:=by rw[sF,Ro,Bg]
theorem NB(o:e6)(d e:k8)(h1:d.e≠0):sD o [d,e]=az (L7 (fh o d) d.least d.most d.e) (L7 (fh o e) e.least e.most e.e) 0:=by
 rw[sF,Rl,Bg o d];unfold az;cases pz o d
 .simp only[zm,zZ,ne_eq,not_true_eq_false];split;·rfl
  .rename_i h;simpa using h
 .simp[h1]
theorem Rm(o:e6)(d e f:k8)(h1:d.e≠0)(h2:e.e≠0):sD o [d,e,f]=az (L7 (fh o d) d.least d.most d.e) (L7 (fh o e) e.least e.most e.e) (L7 (fh o f) f.least f.most f.e):=by
 rw[sF,sF,Rl,Bg o d,Bg o e];unfold az;cases pz o d <;> cases pz o e <;> simp[h1,h2]
theorem LA(o:e6):(match z7 ua o.Kind with
  | none=>14
  | some ds=>sD o ds)=B0 o.Kind o.A o.B o.C:=by
 obtain⟨k,a,b,c⟩:=o;dsimp only;by_cases h:1<=k/\k<=12
 .have:k=1\/k=2\/k=3\/k=4\/k=5\/k=6\/k=7\/k=8\/k=9\/k=10\/k=11\/k=12:=by omega
  rcases this with rfl | rfl | rfl | rfl | rfl | rfl | rfl | rfl | rfl | rfl | rfl | rfl
  .exact Rm _ _ _ _ (by decide) (by decide)
  .exact NB _ _ _ (by decide)
  .exact Rl _ _
  .exact Rm _ _ _ _ (by decide) (by decide)
  .exact Rm _ _ _ _ (by decide) (by decide)
  .exact Rm _ _ _ _ (by decide) (by decide)
  .exact NB _ _ _ (by decide)
  .exact NB _ _ _ (by decide)
  .exact NB _ _ _ (by decide)
  .exact NB _ _ _ (by decide)
  .rfl
  .exact Rl _ _
 .have e:z7 ua k=none:=by
   cases hm:z7 ua k with
   | none=>rfl
   | some v=>
    have:=Hk hm;simp only[ua,zL,Prod.mk.injEq,zbk,or_false] at this;omega
  rw[e];unfold B0;repeat rw[za (by omega)]
theorem nc(o:e6):U2 o=some (B0 o.Kind o.A o.B o.C):=by
 rw[<-LA];unfold U2;rw[ER,YK];cases h:z7 ua o.Kind with
 | none=>rfl
 | some ds=>
  obtain⟨h1,h2⟩:=Pp _ (Hk h);rw[za (by simp)];simp only[jn,zX];rw[Ua o ds h1 h2,YK];unfold sD;cases rh o ds <;> rfl
theorem PE(n l m e:Int):cc n l m e=some (L7 n l m e):=by
 unfold cc L7;by_cases h:n<l\/n > m
 .rw[zb h,zb (by simpa using h)]
 .rw[za h,za (by simpa using h)]
theorem La(a b c:Int):bf a b c=some (az a b c):=by
 unfold bf az;by_cases h:a=0
 .by_cases g:b=0
  .rw[za (by simpa using h),za (by simpa using g),za (by simpa using h),za (by simpa using g)]
  .rw[za (by simpa using h),zb (by simpa using g),za (by simpa using h),zb (by simpa using g)]
 .rw[zb (by simpa using h),zb (by simpa using h)]
theorem iJ(o:au):cE o=some (B0 o.Kind o.A o.B o.C):=by
 unfold cE B0;simp only[PE,La,YK,jn];by_cases h:1<=o.Kind/\o.Kind<=12
 .have:o.Kind=1\/o.Kind=2\/o.Kind=3\/o.Kind=4\/o.Kind=5\/o.Kind=6\/o.Kind=7\/o.Kind=8\/o.Kind=9\/o.Kind=10\/o.Kind=11\/o.Kind=12:=by omega
  rcases this with h | h | h | h | h | h | h | h | h | h | h | h <;> rw[h] <;> rfl
 .have n:∀j:Int,1<=j->j<=12->(o.Kind==j)=false:=λj h1 h2=>by
   rw[beq_eq_false_iff_ne];omega
  simp only[n 1 (by omega) (by omega),n 2 (by omega) (by omega),n 3 (by omega) (by omega),n 4 (by omega) (by omega),n 5 (by omega) (by omega),n 6 (by omega) (by omega),n 7 (by omega) (by omega),n 8 (by omega) (by omega),n 9 (by omega) (by omega),n 10 (by omega) (by omega),n 11 (by omega) (by omega),n 12 (by omega) (by omega),zm,zZ];repeat rw[za (by omega)]
theorem QN{x:Hp}(hx:O4 x){ds:List Int}:(x.Q.L++pA x.a8 ds).length<=30:=by
 have hS:=hx.sh;have c6:=hS.c6;have h24:(lv x.S).length<=24:=M7 (y6.2 hS.sr);have htd:(x.Q.L++pA x.a8 ds).Pairwise λa b=>¬(a.Kind=b.Kind/\a.At=b.At):=by
  rw[za8];refine⟨hS.td,yw ..,λa ha b hb q=>?_⟩;obtain⟨w,hw,rfl,hh,_⟩:=fX.1 hb;have hi:x.a8[w].Intact=true:=by
   unfold fV at hh;rw[zk,zk] at hh;exact hh.1.1
  have:=((hS.cl w hw).2.2.2.2 hi).2;rw[zbe] at this;exact this (jg.2 ⟨a,ha,q.1,q.2⟩)
 have:=xw (m:=lv x.S) htd λt ht=>by
  rcases zy.1 ht with q | q
  .rcases (hS.tk t q).2.2 with c | c
   .exact .inl ⟨c.1,c.2.1⟩
   .exact .inr c
  .obtain⟨w,hw,rfl,_,_⟩:=fX.1 q;exact .inr ⟨rfl,by dsimp only;omega,by dsimp only;omega⟩
 omega
section
variable{x:Hp}(hB:HB x)
include hB
end
structure CC (x y:Hp):Prop where
 lv:∀h∈lv y.S,h∈lv x.S
 R9:y.S.Serial=x.S.Serial
 len:y.S.S.a8.length=x.S.S.a8.length
 ob:∀h∈Sh.lv y.S,(ob y.S h).Serial=(ob x.S h).Serial/\(Sh.ob y.S h).Prog=(Sh.ob x.S h).Prog/\(Sh.ob y.S h).Fields=(Sh.ob x.S h).Fields/\((Sh.ob x.S h).Started=true->(Sh.ob y.S h).Started=true)
 rt:y.Roots=x.Roots
 cn:y.a8.length=x.a8.length
 cl:∀i (h:i<y.a8.length) (h':i<x.a8.length),y.a8[i]=⟨x.a8[i].Target,x.a8[i].Intact&&decide (x.a8[i].Target∈Sh.lv y.S),x.a8[i].Call⟩
 q:∃l,y.Q=⟨x.Q.L++l,x.Q.Cap⟩/\(∀t∈l,t.Kind=1->t.At∈Sh.lv x.S/\(Sh.ob x.S t.At).Started=false)/\∀h∈Sh.lv y.S,(Sh.ob y.S h).Started=true->(Sh.ob x.S h).Started=false->∃t∈l,t.Kind=1/\t.At=h
 rc:∀h,cK x.S x.T (pq x) h->cK y.S y.T (pq y) h
 has:∀k v,Has y.T k v->Has x.T k v
theorem CC.refl{x:Hp}(hx:mP x):CC x x:=by
 refine⟨λ_ h=>h,rfl,rfl,λh _=>⟨rfl,rfl,rfl,id⟩,rfl,rfl,λi h h'=>?_,⟨[],by simp,by simp,λh _ a b=>?_⟩,λ_ h=>h,λ_ _ h=>h⟩
 .have:=(hx.cl i h).2.2.2.2;cases hI:x.a8[i].Intact;·rw[zb8,<-hI]
  .rw[zA (this hI).1,Bool.and_self,<-hI]
 .rw[a] at b;cases b
theorem CC.trans{x y z:Hp}(a:CC x y)(b:CC y z):CC x z:=by
 obtain⟨l1,q1,q2,q3⟩:=a.q;obtain⟨l2,r1,r2,r3⟩:=b.q;refine⟨λh hh=>a.lv h (b.lv h hh),b.R9.trans a.R9,b.len.trans a.len,λh hh=>?_,b.rt.trans a.rt,b.cn.trans a.cn,λi h h'=>?_,⟨l1++l2,?_,λt ht hk=>?_,λh hh s1 s2=>?_⟩,λh hh=>b.rc h (a.rc h hh),λk v hh=>a.has k v (b.has k v hh)⟩
 .obtain⟨b1,b2,b3,b4⟩:=b.ob h hh;obtain⟨a1,a2,a3,a4⟩:=a.ob h (b.lv h hh);exact⟨b1.trans a1,b2.trans a2,b3.trans a3,λq=>b4 (a4 q)⟩
 .have hy:i<y.a8.length:=by rw[a.cn];exact h'
  rw[b.cl i h hy,a.cl i hy h'];dsimp only;congr 1;rw[Bool.and_assoc];congr 1;by_cases q:x.a8[i].Target∈Sh.lv z.S
  .rw[zA q,zA (b.lv _ q)];rfl
  .rw[zI q,Bool.and_false]
 .rw[r1,q1,p0]
 .rcases zy.1 ht with q | q
  .exact q2 t q hk
  .obtain⟨e1,e2⟩:=r2 t q hk;refine⟨a.lv _ e1,?_⟩;cases hs:(Sh.ob x.S t.At).Started;·rfl
   .rw[(a.ob _ e1).2.2.2 hs] at e2;cases e2
 .cases hs:(Sh.ob y.S h).Started
  .obtain⟨t,ht,e⟩:=r3 h hh s1 hs;exact⟨t,zaw _ ht,e⟩
  .obtain⟨t,ht,e⟩:=q3 h (b.lv h hh) hs s2;exact⟨t,m9 _ ht,e⟩
theorem HZ(s:a7)(h:Int)(o:p7):(cL s h o).S.a8.length=s.S.a8.length:=N8 ..
theorem QD{x:Hp}(hx:O4 x){z:Int}(hz:z∈lv x.S)(hs:(ob x.S z).Started=false):CC x (gT x z):=by
 have hR:=hx.sh.sr;obtain⟨k,e1,e2,e3,e4⟩:=lP hR hz;have l1:=BC hR hz;have hob:∀h∈lv x.S,(ob (gT x z).S h).Serial=(ob x.S h).Serial/\(ob (gT x z).S h).Prog=(ob x.S h).Prog/\(ob (gT x z).S h).Fields=(ob x.S h).Fields/\((ob (gT x z).S h).Started=true↔(ob x.S h).Started=true\/h=z):=λh hh=>by
  obtain⟨n,e⟩:=xb hR hz hh;rw[e];by_cases q:h=z
  .subst q;rw[zb rfl];exact⟨rfl,rfl,rfl,by simp⟩
  .rw[za q];exact⟨rfl,rfl,rfl,by simp[q]⟩
 have hot:∀h∈pq x,h∈pq (gT x z):=λh hh=>by
  unfold pq at hh |-;rw[e1,e4];rcases zy.1 hh with q | q
  .exact m9 _ q
  .refine zaw _ ?_;obtain⟨t,ht,a,b⟩:=rI.1 q;exact rI.2 ⟨t,m9 _ ht,a,b⟩
 have rf:=CC.refl hx.sh;refine⟨λh hh=>by rw[l1] at hh;exact hh,k.R9,k.len.trans (HZ ..),λh hh=>?_,e1,by rw[e2],λi h h'=>?_,⟨[um x z],by rw[e4],λt ht hk=>?_,λh hh s1 s2=>?_⟩,λh hh=>?_,λk v hh=>by rw[e3] at hh;exact hh⟩
 .rw[l1] at hh;obtain⟨a,b,c,d⟩:=hob h hh;exact⟨a,b,c,λq=>d.2 (.inl q)⟩
 .have e5:(gT x z).a8[i]=x.a8[i]:=by simp only[e2]
  rw[e5,l1];exact rf.cl i h' h'
 .rw[zJ] at ht;subst ht;exact⟨hz,hs⟩
 .rw[l1] at hh;rcases (hob h hh).2.2.2.1 s1 with q | q
  .rw[q] at s2;cases s2
  .exact⟨um x z,List.mem_singleton_self _,rfl,q.symm⟩
 .induction hh with
  | base h1 h2=>exact .base (hot _ h1) (by rw[l1];exact h2)
  | step h0 h1 h2 ih=>
   refine .step ih ?_ (by rw[l1];exact h2);unfold outs at h1 |-;rw[(hob _ h0.live).2.2.1];exact h1
  | pair h1 h0 h2 ih=>exact .pair (by rw[e3];exact h1) ih (by rw[l1];exact h2)
theorem Pd{x:Hp}(hx:O4 x){z:Int}(hz:z∈zr x):CC x (gk x [z]):=by
 have hR:=hx.sh.sr;have hzl:=(cg.1 hz).1;have h0:z≠0:=λe=>pn hR (e▸hzl);have hfree:=Cu hx hz;have hn:([z]:List Int).Nodup:=by simp
 have hm:∀d ∈ [z],d∈lv x.S:=by simpa using hzl
 have g:=db [z] hR hn hm;have k:=(hU ([z].flatMap (outs x.S)++(mA x.T [z]).2) (x:=iy x [z] (mA x.T [z]).1) g.sr).1;obtain⟨e1,e2,e3,e4⟩:=qP hR hn hm;obtain⟨_,w2,_,_,w5,w6⟩:=iv hx.sh.hr [z] (by simp);have l1:∀h,h∈lv (gk x [z]).S↔h∈lv x.S/\h≠z:=λh=>by
  rw[EH hR hn hm,zB,zK,zJ]
 have hob:∀h∈lv (gk x [z]).S,(ob (gk x [z]).S h).Serial=(ob x.S h).Serial/\(ob (gk x [z]).S h).Prog=(ob x.S h).Prog/\(ob (gk x [z]).S h).Fields=(ob x.S h).Fields/\(ob (gk x [z]).S h).Started=(ob x.S h).Started:=λh hh=>by
  obtain⟨a,b⟩:=(l1 h).1 hh;obtain⟨n,e⟩:=EI hR hn hm a (by simpa using b);rw[e];exact⟨rfl,rfl,rfl,rfl⟩
 refine⟨λh hh=>((l1 h).1 hh).1,k.R9.trans g.R9,k.len.trans g.len,λh hh=>?_,e1,by rw[e2];simp[tY],λi h h'=>?_,⟨pA x.a8 [z],by rw[e4],λt ht hk=>?_,λh hh s1 s2=>?_⟩,λh hh=>?_,λk v hh=>?_⟩
 .obtain⟨a,b,c,d⟩:=hob h hh;exact⟨a,b,c,λq=>d.trans q⟩
 .have e5:(gk x [z]).a8[i]=nf [z] x.a8[i]:=by
   simp only[e2];exact sm _
  rw[e5];have hc:=(hx.sh.cl i h').2.2.2.2;unfold nf fV;cases hI:x.a8[i].Intact;·rw[za (by simp),zb8,<-hI]
  .have ht:=(hc hI).1;have ht0:x.a8[i].Target≠0:=λe=>pn hR (e▸ht);by_cases q:x.a8[i].Target=z
   .rw[zb (by simp[q,h0]),zI (λr=>((l1 _).1 r).2 q)];rfl
   .rw[za (by simp[q]),zA ((l1 _).2 ⟨ht,q⟩),Bool.and_self,<-hI]
 .obtain⟨w,hw,rfl,_,_⟩:=fX.1 ht;simp at hk
 .rw[(hob h hh).2.2.2,s2] at s1;cases s1
 .unfold po at hfree;have key:cK (gk x [z]).S (gk x [z]).T (pq (gk x [z])) h/\h≠z:=by
   induction hh with
   | base h1 h2=>
    rename_i a;have hne:a≠z:=λe=>by
     subst e;exact Ee h0 (by omega:aE (pq x) a=0) h1
    refine⟨.base ?_ ((l1 _).2 ⟨h2,hne⟩),hne⟩;unfold pq at h1 |-;rw[e1,e4,wv _ _ _ λt ht=>by
     obtain⟨w,_,rfl,_⟩:=fX.1 ht;simp]
    exact h1
   | step q0 q1 q2 ih=>
    rename_i a b;have hne:b≠z:=λe=>by
     subst e;have:=Bi (y:=b) q0.live;have h1:=dD.2 ⟨h0,q1⟩;omega
    refine⟨.step ih.1 ?_ ((l1 _).2 ⟨q2,hne⟩),hne⟩;unfold outs at q1 |-;rw[(hob _ ((l1 _).2 ⟨q0.live,ih.2⟩)).2.2.1];exact q1
   | pair q1 q0 q2 ih=>
    rename_i a b;have hne:b≠z:=λe=>by
     subst e;have:=BA q1 h0;omega
    exact⟨.pair (by rw[e3];exact (w5 _ _).2 ⟨by simpa using ih.2,q1⟩) ih.1 ((l1 _).2 ⟨q2,hne⟩),hne⟩
  exact key.1
 .rw[e3] at hh;exact ((w5 _ _).1 hh).2
theorem QY{x:Hp}(hx:O4 x):CC x (Ii x):=by
 cases h:zr x with
 | nil=>rw[pa h];exact CC.refl hx.sh
 | cons z l=>
  have hz:z∈zr x:=by rw[h];exact zh ..
  rw[il h];split
  .rename_i q;unfold due at q;rw[zk,zK,za6] at q;exact QD hx (cg.1 hz).1 q.2
  .exact Pd hx hz
theorem QX{x:Hp}(hx:O4 x)(n:Nat):CC x (uO n x):=by
 induction n with
 | zero=>exact CC.refl hx.sh
 | succ n ih=>rw[dB];exact ih.trans (QY (bj hx n))
theorem nT{x:Hp}(hx:O4 x):CC x (dy x):=QX hx 100
section
variable{x:Hp}(hB:HB x)
include hB
end
structure Ks (s s':a7):Prop where
 sr:SR s'
 R9:s'.Serial=s.Serial
 lv:lv s'=lv s
 ob:∀h∈Sh.lv s,(ob s' h).Serial=(ob s h).Serial
theorem Ks.refl{s:a7}(hR:SR s):Ks s s:=⟨hR,rfl,rfl,λ_ _=>rfl⟩
theorem Ks.trans{a b c:a7}(h:Ks a b)(q:Ks b c):Ks a c:=⟨q.sr,q.R9.trans h.R9,q.lv.trans h.lv,λk hk=>(q.ob k (by rw[h.lv];exact hk)).trans (h.ob k hk)⟩
theorem uC.ks{s s':a7}(hR:SR s)(k:uC s s'):Ks s s':=⟨k.sr,k.R9,k.lv,λh hh=>by
 obtain⟨n,e⟩:=k.ob h (by have:=I3 hR hh;omega);rw[e]⟩
theorem Kn.ks{s s':a7}(k:Kn s s')(e:s'.Serial=s.Serial):Ks s s':=⟨k.sr,e,k.lv,λh hh=>by
 obtain⟨n,m,e⟩:=k.ob h hh;rw[e]⟩
theorem Vb{s:a7}(hR:SR s){h:Int}(hh:h∈lv s){o:p7}(hs:o.Serial=(ob s h).Serial)(ho:xQ s o):Ks s (cL s h o):=⟨bw hR hh hs ho,rfl,fH hR hh hs ho,λk hk=>by
 rw[eh hR hh hs ho (by have:=I3 hR hk;omega)];split;·rename_i e;subst e;exact hs
 .rfl⟩
theorem BV{x:Hp}(hR:SR x.S)(h:Int):Ks x.S (C7 x h).S:=(G3 hR h λc=>E0).ks hR
theorem BR{x:Hp}(hR:SR x.S)(h:Int):Ks x.S (R8 x h).S:=(G3 hR h λc=>P3).ks hR
theorem xk(x:Hp)(h:Int):(R8 x h).Roots=x.Roots/\(R8 x h).a8=x.a8/\(R8 x h).T=x.T/\(R8 x h).Q=x.Q:=xv x h jI
theorem dx{x:Hp}(hR:SR x.S)(r:Nat)(h:Int):Ks x.S (H7 x r h).S:=
 (BV hR h).trans (BR (x:=wR (C7 x h) (x.Roots.set r h)) (ig hR h) _)
theorem yA{x:Hp}(hR:SR x.S){h:Int}(hh:h∈lv x.S){n:Nat}(hn:n<(ob x.S h).Fields.length)(v:Int):Ks x.S (bS x h n v).S:=by
 have k1:=BV hR v;have hh1:h∈lv (C7 x v).S:=by rw[k1.lv];exact hh
 have hof:(ob (C7 x v).S h).Fields=(ob x.S h).Fields:=by
  obtain⟨n,e⟩:=(G3 hR v (f:=W5) λc=>E0).ob h (by have:=I3 hR hh;omega);show (ob (sz x v W5).S h).Fields=_;rw[e]
 have ho:xQ (C7 x v).S (oG (ob (C7 x v).S h) ((ob x.S h).Fields.set n v)):=by
  have:=J5 k1.sr hh1;refine⟨this.s1,this.s2,this.st,this.wk,this.p1,this.p2,?_⟩;have h4:=this.fl;rw[hof] at h4;simpa using h4
 have k2:=Vb (o:=oG (ob (C7 x v).S h) ((ob x.S h).Fields.set n v)) k1.sr hh1 rfl ho;exact (k1.trans k2).trans (BR (x:=wS (C7 x v) (cL (C7 x v).S h (oG (ob (C7 x v).S h) ((ob x.S h).Fields.set n v)))) k2.sr _)
theorem nn(x:Hp)(h:Int)(n:Nat)(v:Int):(bS x h n v).Roots=x.Roots/\(bS x h n v).a8=x.a8/\(bS x h n v).T=x.T/\(bS x h n v).Q=x.Q:=by
 obtain⟨a,b,c,d⟩:=xk (wS (C7 x v) (cL (C7 x v).S h (oG (ob (C7 x v).S h) ((ob x.S h).Fields.set n v)))) ((ob x.S h).Fields.getD n 0);obtain⟨a',b',c',d'⟩:=nN x v;exact⟨a.trans a',b.trans b',c.trans c',d.trans d'⟩
theorem Dv{x:Hp}(hR:SR x.S)(v:Int)(t:Tb)(old:Int):Ks x.S (jX x v t old).S:=
 (BV hR v).trans (BR (x:=wT (C7 x v) t) (ig hR v) old)
theorem qv(x:Hp)(v:Int)(t:Tb)(old:Int):(jX x v t old).Roots=x.Roots/\(jX x v t old).a8=x.a8/\(jX x v t old).T=t/\(jX x v t old).Q=x.Q:=by
 obtain⟨a,b,c,d⟩:=xk (wT (C7 x v) t) old;obtain⟨a',b',c',d'⟩:=nN x v;exact⟨a.trans a',b.trans b',c,d.trans d'⟩
theorem TJ{s:a7}(hR:SR s){i:Nat}(hi:i<s.S.a8.length)(h2:(ce s i).State=2):Ks s (yG s i):=⟨Bd hR hi,rfl,Bb hR hi h2,λh hh=>by rw[Bc hR hi h2 hh]⟩
theorem Uf{x:Hp}(hR:SR x.S)(h:Int){d:Int}(hd:Z6 x.S h (D4 h)->0<=(ce x.S (D4 h)).Val.Weak+d):Ks x.S (jV x h d).S:=by
 unfold jV;split
 .rename_i q;exact (lH hR q.1 q.2.1 (hd q)).ks rfl
 .exact Ks.refl hR
theorem LU(x:Hp)(h d:Int):(jV x h d).Roots=x.Roots/\(jV x h d).a8=x.a8/\(jV x h d).T=x.T/\(jV x h d).Q=x.Q:=by
 unfold jV;split <;> exact⟨rfl,rfl,rfl,rfl⟩
theorem JG(x:Hp)(h:Int):(od x h).Roots=x.Roots/\(od x h).a8=x.a8/\(od x h).T=x.T/\(od x h).Q=x.Q:=by
 unfold od;split;·split <;> exact⟨rfl,rfl,rfl,rfl⟩
 .exact⟨rfl,rfl,rfl,rfl⟩
theorem Im{x:Hp}(hR:SR x.S)(h:Int)(hd:Z6 x.S h (D4 h)->1<=(ce x.S (D4 h)).Val.Weak):Ks x.S (od x h).S:=by
 unfold od;split
 .rename_i q;have hd:=hd q;have kn:=lH (d:=-1) hR q.1 q.2.1 (by omega);split
  .rename_i c;have hi1:D4 h<(oM x.S (D4 h) (-1)).S.a8.length:=by rw[kn.len];exact q.1
   have hce:ce (oM x.S (D4 h) (-1)) (D4 h)=⟨(ce x.S (D4 h)).State,(ce x.S (D4 h)).Gen,VK (ce x.S (D4 h)).Val ((ce x.S (D4 h)).Val.Weak + -1)⟩:=by
    rw[fC hR q.1 q.2.1,zb rfl]
   have h2:(ce (oM x.S (D4 h) (-1)) (D4 h)).State=2:=by rw[hce];exact c.1
   exact (kn.ks rfl).trans (TJ kn.sr hi1 h2)
  .exact kn.ks rfl
 .exact Ks.refl hR
theorem Ek{x:Hp}(hx:O4 x){n:Nat}(hn:n<6)(h call:Int):Ks x.S (dP x n h call).S:=by
 have hR:=hx.sh.sr;have hnl:n<x.a8.length:=by have:=hx.sh.c6;omega
 have ok:∀k i,Z6 x.S k i->0<=(ce x.S i).Val.Weak:=λk i q=>(hR.ok i q.1 q.2.1).wk;have tw:∀i,Z6 x.S (sA x n) i->1<=(ce x.S i).Val.Weak:=λi q=>by
  have htg:sA x n=x.a8[n].Target:=by
   unfold sA;rw[zf,zc hnl];rfl
  have r:=q.MQ hR;have p:=rJ hnl (by rw[<-htg];omega);rw[<-htg,q.2.2] at p;have:=(hx.wk i q.1 q.2.1).1;omega
 unfold dP;have s1:Ks x.S (jV (wC x (x.a8.set n (jf h call))) h 1).S:=Uf (x:=wC x (x.a8.set n (jf h call))) hR h λq=>by
  have:=ok _ _ q;dsimp only;omega
 by_cases q:Z6 x.S h (D4 h)
 .have e:jV (wC x (x.a8.set n (jf h call))) h 1=wS (wC x (x.a8.set n (jf h call))) (oM x.S (D4 h) 1):=by
   unfold jV;rw[zb q]
  have hd:=ok _ _ q;have kn:=lH (d:=1) hR q.1 q.2.1 (by omega);rw[e] at s1 |-;refine s1.trans (Im (x:=wS (wC x (x.a8.set n (jf h call))) (oM x.S (D4 h) 1)) kn.sr _ λq2=>?_);dsimp only at q2 |-;have q3:=(kn.ad _ _).1 q2;have:=tw _ q3;rw[fC hR q.1 q.2.1];split
  .rename_i e2;rw[e2] at this;show 1<=(ce x.S (D4 h)).Val.Weak+1;omega
  .exact this
 .have e:jV (wC x (x.a8.set n (jf h call))) h 1=wC x (x.a8.set n (jf h call)):=by
   unfold jV;rw[za q]
  rw[e] at s1 |-;exact s1.trans (Im (x:=wC x (x.a8.set n (jf h call))) hR _ λq2=>tw _ q2)
theorem xG(x:Hp)(n:Nat)(h call:Int):(dP x n h call).Roots=x.Roots/\(dP x n h call).a8=x.a8.set n (jf h call)/\(dP x n h call).T=x.T/\(dP x n h call).Q=x.Q:=by
 obtain⟨a,b,c,d⟩:=JG (jV (wC x (x.a8.set n (jf h call))) h 1) (sA x n);obtain⟨a',b',c',d'⟩:=LU (wC x (x.a8.set n (jf h call))) h 1;exact⟨a.trans a',b.trans b',c.trans c',d.trans d'⟩
abbrev XC(s:a7)(n:Nat)(p:Int):p7:=⟨s.Serial+1,0,0,p,false,List.replicate n 0⟩
def eK(s:a7)(i n:Nat)(p:Int):a7:=⟨⟨s.S.a8.set i ⟨1,(ce s i).Gen,XC s n p⟩,s.S.Last⟩,s.Serial+1⟩
section
variable{s:a7}(hR:SR s){i:Nat}(hi:i<s.S.a8.length)(h0:(ce s i).State=0){n:Nat}(hn:n<=4){p:Int}(hp : -1<=p/\p<=5)
include hR hi h0 hn hp
theorem jy:(eK s i n p).S.a8.length=s.S.a8.length:=by simp[eK]
theorem mJ(j:Nat):ce (eK s i n p) j=if j=i then ⟨1,(ce s i).Gen,XC s n p⟩ else ce s j:=jL hi _ _ j
theorem Dm:SR (eK s i n p):=by
 have hser:=hR.R9;have hc:=hR.cell i hi;have hnt:¬Th (ce s i):=λh=>by
  rcases h with h | h <;> omega
 refine⟨by rw[jy hR hi h0 hn hp];exact hR.len,hR.l0,hR.l9,by show 0<=s.Serial+1;omega,λj hj=>?_,λj hj ht=>?_,λj hj ht=>?_,λj k hj hk a b e=>?_⟩
 .rw[jy hR hi h0 hn hp] at hj;rw[mJ hR hi h0 hn hp];split;·exact⟨show (0:Int)<=1 by decide,show (1:Int)<=3 by decide,hc.2.2.1,hc.2.2.2⟩
  .exact hR.cell j hj
 .rw[jy hR hi h0 hn hp] at hj;rw[mJ hR hi h0 hn hp] at ht |-;split at ht;·exact absurd (.inl rfl) ht
  .rename_i e;rw[za e];exact hR.no j hj ht
 .rw[jy hR hi h0 hn hp] at hj;rw[mJ hR hi h0 hn hp] at ht |-;split at ht
  .rename_i e;rw[zb e];exact⟨by show 1<=s.Serial+1;omega,n8 _,n8 0,n8 0,hp.1,hp.2,by simpa using hn⟩
  .rename_i e;rw[za e];have:=hR.ok j hj ht;exact⟨this.s1,by show _<=s.Serial+1;have:=this.s2;omega,this.st,this.wk,this.p1,this.p2,this.fl⟩
 .rw[jy hR hi h0 hn hp] at hj hk;rw[mJ hR hi h0 hn hp] at a e;rw[mJ hR hi h0 hn hp] at b e;have old:∀m,m<s.S.a8.length->Th (ce s m)->(ce s m).Val.Serial≠s.Serial+1:=λm hm t q=>by
   have:=(hR.ok m hm t).s2;omega
  by_cases ej:j=i <;> by_cases ek:k=i
  .rw[ej,ek]
  .rw[za ek] at b e;rw[zb ej] at e;exact absurd e.symm (old k hk b)
  .rw[za ej] at a e;rw[zb ek] at e;exact absurd e (old j hj a)
  .rw[za ej] at a e;rw[za ek] at b e;exact hR.dif j k hj hk a b e
theorem Ft{k:Int}{j:Nat}(q:Z6 s k j):j≠i:=λe=>by
 subst e;rcases q.2.1 with h | h <;> omega
theorem Ue{k:Int}{j:Nat}:Z6 (eK s i n p) k j↔Z6 s k j\/(j=i/\k=dF s i):=by
 unfold Z6;rw[jy hR hi h0 hn hp,mJ hR hi h0 hn hp];by_cases e:j=i
 .rw[zb e];subst e;constructor
  .rintro⟨a,b,c⟩;exact .inr ⟨rfl,c⟩
  .rintro (⟨a,b,c⟩ | ⟨_,c⟩);·exact absurd rfl (Ft hR hi h0 hn hp ⟨a,b,c⟩)
   .exact⟨hi,.inl rfl,c⟩
 .rw[za e];constructor;·exact .inl
  .rintro (h | ⟨h,_⟩);·exact h
   .exact absurd h e
theorem Hm:lv (eK s i n p)=lv s ++ [dF s i]:=by
 have e:=Fs (s:=s) (y6.2 hR) hi (by rw[<-F1 hi];exact h0) (XC s n p) rfl (df (y6.2 hR));unfold eK;rw[show (ce s i).Gen=s.S.a8[i].Gen by rw[F1 hi]];have e2:dF s i=1+(i:Int)+32*s.S.a8[i].Gen:=by unfold dF;rw[F1 hi]
 rw[e2];have:=df (y6.2 (by have:=Dm hR hi h0 hn hp;unfold eK at this;rw[show (ce s i).Gen=s.S.a8[i].Gen by rw[F1 hi]] at this;exact this));rw[e] at this;exact (rg this).symm
theorem LR:dF s i∉lv s:=λh=>by
 obtain⟨j,q⟩:=(fJ hR).1 h;have:i=j:=by
  have a:=q.2.2;have b:=q.1;unfold dF at a;have:=hR.len;omega
 subst this;have:=q.2.1;omega
theorem yU{k:Int}(hk:k∈lv s):ob (eK s i n p) k=ob s k:=by
 obtain⟨j,q⟩:=(fJ hR).1 hk;have hj:=Ft hR hi h0 hn hp q.d;have q2:At (eK s i n p) k j:=by
  refine⟨by rw[jy hR hi h0 hn hp];exact q.1,?_,?_⟩ <;> rw[mJ hR hi h0 hn hp,za hj]
  .exact q.2.1
  .exact q.2.2
 rw[Q2 (Dm hR hi h0 hn hp) q2,Q2 hR q,mJ hR hi h0 hn hp,za hj]
theorem tu:ob (eK s i n p) (dF s i)=XC s n p:=by
 have q2:At (eK s i n p) (dF s i) i:=by
  refine⟨by rw[jy hR hi h0 hn hp];exact hi,?_,?_⟩ <;> rw[mJ hR hi h0 hn hp,zb rfl]
  rfl
 rw[Q2 (Dm hR hi h0 hn hp) q2,mJ hR hi h0 hn hp,zb rfl]
end
theorem Ik{l:List Int}{h:Int}(e:h∉l):aE l h=0:=Nat.eq_zero_of_not_pos λq=>e (dD.1 q).2
theorem LS{x:Hp}(hx:O4 x){i:Nat}(hi:i<x.S.S.a8.length)(h0:(ce x.S i).State=0){n:Nat}(hn:n<=4){p:Int}(hp : -1<=p/\p<=5):O4 (wS x (eK x.S i n p)):=by
 have hR:=hx.sh.sr;have hS:=Dm hR hi h0 hn hp;have hl:=Hm hR hi h0 hn hp;have hnew:=LR hR hi h0 hn hp;have mem:∀ {k},k∈lv x.S->k∈lv (eK x.S i n p):=λhk=>by rw[hl];exact m9 _ hk
 have mem0:∀ {k},k=0\/k∈lv x.S->k=0\/k∈lv (eK x.S i n p):=λhk=>hk.imp id mem;have hpos:=vf hR hi;have split:∀ {k},k∈lv (eK x.S i n p)->k∈lv x.S\/k=dF x.S i:=λhk=>by
  rw[hl] at hk;rcases zy.1 hk with q | q
  .exact .inl q
  .exact .inr (zJ.1 q)
 have rep:∀v∈List.replicate n (0:Int),v=0:=λv hv=>(zbl.1 hv).2;have ntgt:∀j (hj:j<x.a8.length),x.a8[j].Target≠dF x.S i:=λj hj e=>by
  obtain⟨q,hq⟩:=(hx.sh.cl j hj).2.2.2.1 (by rw[e];omega);rw[e] at hq;have:q=i:=by
   have a:=hq.2.2;have b:=hq.1;unfold dF at a;have:=hR.len;omega
  exact Ft hR hi h0 hn hp hq this
 refine⟨⟨hS,hx.sh.hr,hx.sh.r6,hx.sh.c6,hx.sh.cap,hx.sh.q30,λt ht=>?_,hx.sh.td,λh hh=>mem0 (hx.sh.rt h hh),λh hh v hv=>?_,λk v hk=>?_,λj hj=>?_⟩,λj hj ht=>?_,λh hh hs=>?_⟩
 .obtain⟨a,b,c⟩:=hx.sh.tk t ht;refine⟨a,b,c.imp (λ⟨d,e,f⟩=>⟨d,mem e,?_⟩) id⟩;show (ob (eK x.S i n p) t.At).Started=true;rw[yU hR hi h0 hn hp e];exact f
 .rcases split hh with q | q
  .have hv':v∈(ob (eK x.S i n p) h).Fields:=hv;rw[yU hR hi h0 hn hp q] at hv';exact mem0 (hx.sh.fl h q v hv')
  .subst q;have hv':v∈(ob (eK x.S i n p) (dF x.S i)).Fields:=hv;rw[tu hR hi h0 hn hp] at hv';exact .inl (rep v hv')
 .obtain⟨a,b⟩:=hx.sh.pr k v hk;exact⟨mem a,mem b⟩
 .obtain⟨a,b,c,d,e⟩:=hx.sh.cl j hj;refine⟨a,b,c,λq=>?_,λq=>⟨mem (e q).1,(e q).2⟩⟩;obtain⟨m,hm⟩:=d q;exact⟨m,(Ue hR hi h0 hn hp).2 (.inl hm)⟩
 .have hj':j<x.S.S.a8.length:=by have:j<(eK x.S i n p).S.a8.length:=hj;rwa [jy hR hi h0 hn hp] at this
  show (ce (eK x.S i n p) j).Val.Weak=(Cy x.a8 (1+(j:Int)+32*(ce (eK x.S i n p) j).Gen):Int)/\_;have ht':Th (ce (eK x.S i n p) j):=ht;rw[mJ hR hi h0 hn hp] at ht' |-;by_cases e:j=i
  .subst e;rw[zb rfl];refine⟨?_,λq=>absurd (show (1:Int)=2 from q) (by decide)⟩;show (0:Int)=(Cy x.a8 (dF x.S j):Int);have:Cy x.a8 (dF x.S j)=0:=by
    unfold Cy;rw[List.countP_eq_zero];intro c hc;obtain⟨m,hm,rfl⟩:=zbg hc;have:=ntgt m hm;simp[this]
   rw[this];rfl
  .rw[za e] at ht' |-;exact hx.wk j hj' ht'
 .have hinn:∀y,jw (eK x.S i n p) y=jw x.S y:=λy=>by
   unfold jw;rw[hl,zaf,List.sum_append];have e1:(lv x.S).map (λk=>aE (outs (eK x.S i n p) k) y)=(lv x.S).map λk=>aE (outs x.S k) y:=zO λk hk=>by
    unfold outs;rw[yU hR hi h0 hn hp hk]
   rw[e1];have e2:outs (eK x.S i n p) (dF x.S i) = []:=by
    refine za4.2 λv hv=>?_;have h1:=lK.1 hv;rw[tu hR hi h0 hn hp] at h1;exact h1.2 (rep v h1.1)
   simp[e2,R5]
  have hnm:∀y,po (wS x (eK x.S i n p)) y=po x y:=λy=>by
   unfold po;show jw (eK x.S i n p) y+own x.T y+aE (pq x) y=_;rw[hinn]
  rw[hnm];have hs':(ob (eK x.S i n p) h).Strong<12:=hs;show (ob (eK x.S i n p) h).Strong=_;rcases split hh with q | q
  .rw[yU hR hi h0 hn hp q] at hs' |-;exact hx.fair h q hs'
  .subst q;rw[tu hR hi h0 hn hp];have h1:po x (dF x.S i)=0:=by
    unfold po;have a1:jw x.S (dF x.S i)=0:=by
     unfold jw;have:=Gb (λk=>aE (outs x.S k) (dF x.S i)) 0 (lv x.S) λk hk=>Nat.le_of_eq<|Ik λq=>by
      have q2:=lK.1 q;rcases hx.sh.fl k hk _ q2.1 with e | e
      .exact q2.2 e
      .exact hnew e
     omega
    have a2:own x.T (dF x.S i)=0:=by
     unfold own;rw[List.countP_eq_zero];intro c hc;have:=(hx.sh.pr _ _ (iW.1 hc)).2;have hne:c.Val≠dF x.S i:=λe=>hnew (e▸this);simp[hne]
    have a3:aE (pq x) (dF x.S i)=0:=Ik λq=>by
     unfold pq at q;rcases zy.1 q with q | q
     .have q2:=lK.1 q;rcases hx.sh.rt _ q2.1 with e | e
      .exact q2.2 e
      .exact hnew e
     .obtain⟨t,ht,k1,k2⟩:=rI.1 q;rcases (hx.sh.tk t ht).2.2 with ⟨_,b,_⟩ | ⟨b,_⟩;·exact hnew (k2▸b)
      .omega
    omega
   rw[h1,R5];rfl
structure Ev (x y:Hp):Prop where
 lv:∀h∈lv y.S,(h∈Sh.lv x.S/\(ob y.S h).Serial=(ob x.S h).Serial)\/(h∉Sh.lv x.S/\(ob y.S h).Serial=x.S.Serial+1)
 s1:x.S.Serial<=y.S.Serial
 s2:y.S.Serial<=x.S.Serial+1
theorem Ev.refl(x:Hp):Ev x x:=⟨λh hh=>.inl ⟨hh,rfl⟩,by omega,by omega⟩
theorem Ks.ev{x y:Hp}(k:Ks x.S y.S):Ev x y:=⟨λh hh=>by
 rw[k.lv] at hh;exact .inl ⟨hh,k.ob h hh⟩,by rw[k.R9];omega,by rw[k.R9];omega⟩
theorem Ev.ks{x y z:Hp}(e:Ev x y)(k:Ks y.S z.S):Ev x z:=⟨λh hh=>by
 rw[k.lv] at hh;rw[k.ob h hh];exact e.lv h hh,by rw[k.R9];exact e.s1,by rw[k.R9];exact e.s2⟩
theorem Ev.YJ{x y z:Hp}(e:Ev x y)(s:CC y z):Ev x z:=⟨λh hh=>by
 rw[(s.ob h hh).1];exact e.lv h (s.lv h hh),by rw[s.R9];exact e.s1,by rw[s.R9];exact e.s2⟩
theorem WC{x:Hp}(hx:O4 x){i:Nat}(hi:i<x.S.S.a8.length)(h0:(ce x.S i).State=0){n:Nat}(hn:n<=4){p:Int}(hp : -1<=p/\p<=5):Ev x (wS x (eK x.S i n p)):=⟨λh hh=>by
 have hR:=hx.sh.sr;have hh':h∈lv (eK x.S i n p):=hh;show (_/\(ob (eK x.S i n p) h).Serial=_)\/_/\(ob (eK x.S i n p) h).Serial=_;rw[Hm hR hi h0 hn hp] at hh';rcases zy.1 hh' with q | q
 .exact .inl ⟨q,by rw[yU hR hi h0 hn hp q]⟩
 .rw[zJ.1 q];exact .inr ⟨LR hR hi h0 hn hp,by rw[tu hR hi h0 hn hp]⟩,by show _<=x.S.Serial+1;omega,n8 _⟩
def Cw(x y:Hp)(w:Int):Prop:=∀i:Nat,(i:Int)≠w->(y.a8.getD i cz).Target=(x.a8.getD i cz).Target/\((y.a8.getD i cz).Intact=true->(x.a8.getD i cz).Intact=true)
theorem Cw.refl(x:Hp)(w:Int):Cw x x w:=λi _=>⟨rfl,id⟩
theorem Cw.same{x y:Hp}(h:y.a8=x.a8)(w:Int):Cw x y w:=λi _=>by rw[h];exact⟨rfl,id⟩
theorem Cw.trans{x y z:Hp}{w:Int}(a:Cw x y w)(b:Cw y z w):Cw x z w:=λi hi=>⟨(b i hi).1.trans (a i hi).1,λq=>(a i hi).2 ((b i hi).2 q)⟩
theorem CC.cw{x y:Hp}(s:CC x y)(w:Int):Cw x y w:=λi _=>by
 by_cases h:i<x.a8.length
 .have h':i<y.a8.length:=by rw[s.cn];exact h
  rw[GW h,GW h',s.cl i h' h];exact⟨rfl,λq=>(zk _ _▸q).1⟩
 .have h':¬i<y.a8.length:=by rw[s.cn];exact h
  rw[zf,zf,qr (by omega),qr (by omega)];exact⟨rfl,id⟩
theorem Cw.set{x y:Hp}{w:Nat}{c:j5}(h:y.a8=x.a8.set w c):Cw x y w:=λi hi=>by
 rw[h,zf,zf,zbz (by omega)];exact⟨rfl,id⟩
def VN(s:a7)(i:Nat):Prop:=i<s.S.a8.length/\(ce s i).State=0/\∀j,j<i->(ce s j).State≠0
theorem Wy{s:a7}(hR:SR s)(hb:s.Serial<9223372036854775807)(a p:Int) :
  (¬(0<=a/\a<=4)/\O2 s a p=some (s,0,1)) \/
  ((0<=a/\a<=4)/\¬(-1<=p/\p<=5)/\O2 s a p=some (s,0,13)) \/
  ((0<=a/\a<=4)/\(-1<=p/\p<=5)/\(∀i,i<s.S.a8.length->(ce s i).State≠0)/\O2 s a p=some (s,0,4)) \/
  ((0<=a/\a<=4)/\(-1<=p/\p<=5)/\∃i,VN s i/\O2 s a p=some (eK s i a.toNat p,dF s i,0)):=by
 have hs':=hR.R9;have hR':=y6.2 hR;unfold O2 sH;by_cases ha:0<=a/\a<=4
 .right;obtain⟨ha1,ha2⟩:=ha;obtain⟨n,rfl⟩:∃n:Nat,a=n:=⟨a.toNat,by omega⟩;rw[za (by simp;omega),jU (by omega) (by omega)];simp only[YK];by_cases hp : -1<=p/\p<=5
  .right;unfold T9;simp only[YK];have e1:(decide (p >= -1)&&decide (p<6))=true:=by simp;omega
   rw[e1];have hl:Yv s.S:=⟨jA hR',hR'.l0,hR'.l9,λi hi=>BT hR' i hi⟩;rcases Cg hl ⟨s.Serial+1,0,0,p,false,List.replicate n 0⟩ with ⟨i,hi,h0,hf,e⟩ | ⟨hf,e⟩
   .right;refine⟨⟨ha1,ha2⟩,hp,i,⟨hi,by rw[F1 hi];exact h0,λj hj=>by rw[F1 (by omega)];exact hf j hj⟩,?_⟩;simp only[za0,zm,zZ,Bool.not_true];rw[show z6 (s.Serial+1)=s.Serial+1 from F9 (by omega) (by omega),e];unfold eK dF;rw[F1 hi];simp
   .left;refine⟨⟨ha1,ha2⟩,hp,λi hi=>by rw[F1 hi];exact hf i hi,?_⟩;simp only[za0,zm,zZ,Bool.not_true];rw[show z6 (s.Serial+1)=s.Serial+1 from F9 (by omega) (by omega),e];simp
  .left;refine⟨⟨ha1,ha2⟩,hp,?_⟩;unfold T9;simp only[YK];have e1:(decide (p >= -1)&&decide (p<6))=false:=by rw[zbe];simp;omega
   rw[e1];simp
 .left;refine⟨ha,?_⟩;rw[zb (by simp;omega)];simp
def sd(x:Hp)(r:Int):Int:=if r<0 then 0 else x.Roots.getD r.toNat 0
def uZ(x:Hp)(r:Int):Int × Int:=if sd x r=0 then (0,2) else (sd x r,0)
def R9(x:Hp)(h:Int):Int:=(ob x.S h).Serial
theorem yH{n l m e:Int}(he:e≠0)(h:L7 n l m e=0):l<=n/\n<=m:=by
 unfold L7 at h;split at h;·exact absurd h he
 .omega
theorem EZ{a b c:Int}(h:az a b c=0):a=0/\b=0/\c=0:=by
 unfold az at h;split at h;·contradiction
 .split at h;·contradiction
  .omega
theorem Bl{k a b c:Int}(h:B0 k a b c=0):1<=k/\k<=12:=by
 refine Decidable.byContradiction λq=>?_;have:B0 k a b c=14:=by
  unfold B0;repeat rw[za (by omega)]
 omega
theorem XK{a b c:Int}(h:B0 1 a b c=0):(0<=a/\a<=5)/\(0<=b/\b<=4) /\ -1<=c/\c<=5:=by
 obtain⟨h1,h2,h3⟩:=EZ (show az (L7 a 0 5 6) (L7 b 0 4 1) (L7 c (-1) 5 13)=0 from h);exact⟨yH (by decide) h1,yH (by decide) h2,yH (by decide) h3⟩
theorem Tg{a b c:Int}(h:B0 2 a b c=0):(0<=a/\a<=5)/\(0<=b/\b<=5):=by
 obtain⟨h1,h2,_⟩:=EZ (show az (L7 a 0 5 6) (L7 b 0 5 6) 0=0 from h);exact⟨yH (by decide) h1,yH (by decide) h2⟩
theorem XL{a b c:Int}(h:B0 3 a b c=0):0<=a/\a<=5:=yH (by decide) (show L7 a 0 5 6=0 from h)
theorem XM{a b c:Int}(h:B0 4 a b c=0):(0<=a/\a<=5)/\(0<=b/\b<=5)/\0<=c/\c<=3:=by
 obtain⟨h1,h2,h3⟩:=EZ (show az (L7 a 0 5 6) (L7 b 0 5 6) (L7 c 0 3 5)=0 from h);exact⟨yH (by decide) h1,yH (by decide) h2,yH (by decide) h3⟩
theorem XN{a b c:Int}(h:B0 5 a b c=0):(0<=a/\a<=5)/\(0<=b/\b<=3) /\ -1<=c/\c<=5:=by
 obtain⟨h1,h2,h3⟩:=EZ (show az (L7 a 0 5 6) (L7 b 0 3 5) (L7 c (-1) 5 6)=0 from h);exact⟨yH (by decide) h1,yH (by decide) h2,yH (by decide) h3⟩
theorem XO{a b c:Int}(h:B0 6 a b c=0):(0<=a/\a<=5)/\(-1<=b/\b<=5) /\ -1<=c/\c<=5:=by
 obtain⟨h1,h2,h3⟩:=EZ (show az (L7 a 0 5 7) (L7 b (-1) 5 6) (L7 c (-1) 5 13)=0 from h);exact⟨yH (by decide) h1,yH (by decide) h2,yH (by decide) h3⟩
theorem XP{a b c:Int}(h:B0 7 a b c=0):(0<=a/\a<=5)/\(0<=b/\b<=5):=by
 obtain⟨h1,h2,_⟩:=EZ (show az (L7 a 0 5 6) (L7 b 0 5 7) 0=0 from h);exact⟨yH (by decide) h1,yH (by decide) h2⟩
theorem XQ{a b c:Int}(h:B0 8 a b c=0):(0<=a/\a<=5)/\(-1<=b/\b<=5):=by
 obtain⟨h1,h2,_⟩:=EZ (show az (L7 a 0 5 6) (L7 b (-1) 5 6) 0=0 from h);exact⟨yH (by decide) h1,yH (by decide) h2⟩
theorem XR{a b c:Int}(h:B0 9 a b c=0):(0<=a/\a<=5)/\(0<=b/\b<=5):=Tg (show B0 2 a b c=0 from h)
theorem VX{a b c:Int}(h:B0 10 a b c=0):(0<=a/\a<=5)/\(0<=b/\b<=5):=Tg (show B0 2 a b c=0 from h)
section
variable{x:Hp}(hx:mP x)
include hx
theorem uw{r:Int}(h:0<=r/\r<=5):ix x.Roots r=some (sd x r):=by
 have:=hx.r6;obtain⟨n,rfl⟩:∃n:Nat,r=n:=⟨r.toNat,by omega⟩;have hn:n<x.Roots.length:=by omega
 rw[u9 hn];unfold sd;rw[za (by omega),zU,zf,zc hn];rfl
theorem xp{r:Int}(h:¬(0<=r/\r<=5)):sd x r=0:=by
 have:=hx.r6;unfold sd;split;·rfl
 .rw[zf,qr (by omega)];rfl
theorem pW(r:Int):sd x r=0\/sd x r∈lv x.S:=by
 by_cases h:0<=r/\r<=5
 .have e:=uw hx h;unfold ix at e;rw[zb h.1] at e;exact hx.rt _ (zg e)
 .exact .inl (xp hx h)
theorem ux(r:Int):sd x r<=9223372036854775807:=by
 rcases pW hx r with h | h
 .omega
 .have:=I3 hx.sr h;omega
theorem mf(r:Int):L9 x r=some (sd x r):=by
 have h6:=hx.r6;unfold L9;by_cases h:0<=r/\r<=5
 .rw[za (by simp;omega),uw hx h];rfl
 .rw[zb (by simp;omega),xp hx h]
theorem Nc{r:Int}(h:r<=5):kh (hO x) r=some (sd x r):=by
 unfold kh;by_cases q:r<0
 .rw[zb (by simpa using q),xp hx (by omega)]
 .rw[za (by simpa using q),show (hO x).Roots=x.Roots from rfl,uw hx (by omega)];rfl
theorem jW(r:Int):M8 x r=some (uZ x r):=by
 unfold M8 uZ;rw[mf hx,YK];by_cases h:sd x r=0
 .rw[zb (by simpa using h),zb h]
 .rw[za (by simpa using h),za h]
theorem qM{r:Int}(h:0<=r/\r<=5):ae (hO x) r=some (uZ x r):=by
 unfold ae uZ;rw[show (hO x).Roots=x.Roots from rfl,uw hx h,YK];by_cases h:sd x r=0
 .rw[zb (by simpa using h),zb h]
 .rw[za (by simpa using h),za h]
theorem Nh{h:Int}(hh:h<=9223372036854775807):aM x h=some (R9 x h):=by
 obtain⟨e,h1,_⟩:=aI (y6.2 hx.sr) hh;unfold aM;rw[h1];rfl
theorem Si{h:Int}(hh:h<=9223372036854775807):gX (hO x) h=some (R9 x h):=by
 obtain⟨e,h1,_⟩:=aI (y6.2 hx.sr) hh;unfold gX;rw[show (hO x).S=sO x.S from rfl,rk x.S (by have:=hx.sr.len;omega) hh,h1];rfl
theorem CG(r:Int):aL x r=some (R9 x (sd x r)):=by
 unfold aL;rw[mf hx,YK,Nh hx (ux hx r)];rfl
theorem DQ:R9 x 0=0:=by
 unfold R9;rw[pQ (y6.2 hx.sr) (by omega) (pn hx.sr)]
theorem VW(r:Int):tJ (hO x) r=some (R9 x (sd x r)):=by
 unfold tJ;by_cases h:0<=r/\r<=5
 .rw[za (by simp;omega),show (hO x).Roots=x.Roots from rfl,uw hx h,YK,Si hx (ux hx r)];rfl
 .rw[zb (by simp;omega),xp hx h,DQ hx]
end
theorem Vd{x z:Hp}(hx:mP x)(k:Ks x.S z.S){h:Int}(hh:h=0\/h∈lv x.S):R9 z h=R9 x h:=by
 rcases hh with e | e
 .subst e;unfold R9;rw[pQ (y6.2 hx.sr) (by omega) (pn hx.sr),pQ (y6.2 k.sr) (by omega) (pn k.sr)]
 .exact k.ob h e
theorem QT{x z:Hp}(h:z.Roots=x.Roots)(r:Int):sd z r=sd x r:=by unfold sd;rw[h]
noncomputable def xU(x:Hp)(o:e6)(v:Hp × Int):Option (Hp × Int × Int):=
 if (v.2 != 0) then some (x,0,v.2) else (P8 v.1).bind λv5=>(W6 v.1 v5 o).bind λv6=>some (v5,v6,0)
theorem pG{x:Hp}{o:e6}{n:Option Nat}(hc:B0 o.Kind o.A o.B o.C=0)(hk:∃l,eI=some l/\z7 l o.Kind=some n):y2 x o=(ve n ⟨x,o⟩).bind (xU x o):=by
 obtain⟨l,h1,h2⟩:=hk;unfold y2;rw[nc,hc,YK,za (by simp),h1,YK,h2,za (by simp)];rfl
theorem ES{x:Hp}{o:e6}(hc:B0 o.Kind o.A o.B o.C≠0):y2 x o=some (x,0,B0 o.Kind o.A o.B o.C)/\E1 (hO x) ⟨o.Kind,o.A,o.B,o.C⟩=some (hO x,0,B0 o.Kind o.A o.B o.C):=by
 constructor
 .unfold y2;rw[nc,YK,zb (by simpa using hc)]
 .unfold E1;rw[iJ,YK,zb (by simpa using hc)]
section
variable{x:Hp}{a b c:Int}
theorem XV(hc:B0 1 a b c=0):y2 x ⟨1,a,b,c⟩=(V2 ⟨x,⟨1,a,b,c⟩⟩).bind (xU x ⟨1,a,b,c⟩):=pG (o:=⟨1,a,b,c⟩) (n:=some 97) hc ⟨_,rfl,rfl⟩
theorem XW(hc:B0 2 a b c=0):y2 x ⟨2,a,b,c⟩=(I4 ⟨x,⟨2,a,b,c⟩⟩).bind (xU x ⟨2,a,b,c⟩):=pG (o:=⟨2,a,b,c⟩) (n:=some 98) hc ⟨_,rfl,rfl⟩
theorem XX(hc:B0 3 a b c=0):y2 x ⟨3,a,b,c⟩=(aA ⟨x,⟨3,a,b,c⟩⟩).bind (xU x ⟨3,a,b,c⟩):=pG (o:=⟨3,a,b,c⟩) (n:=some 99) hc ⟨_,rfl,rfl⟩
theorem XY(hc:B0 4 a b c=0):y2 x ⟨4,a,b,c⟩=(aB ⟨x,⟨4,a,b,c⟩⟩).bind (xU x ⟨4,a,b,c⟩):=pG (o:=⟨4,a,b,c⟩) (n:=some 100) hc ⟨_,rfl,rfl⟩
theorem XZ(hc:B0 5 a b c=0):y2 x ⟨5,a,b,c⟩=(Y3 ⟨x,⟨5,a,b,c⟩⟩).bind (xU x ⟨5,a,b,c⟩):=pG (o:=⟨5,a,b,c⟩) (n:=some 101) hc ⟨_,rfl,rfl⟩
theorem Ya(hc:B0 6 a b c=0):y2 x ⟨6,a,b,c⟩=(V3 ⟨x,⟨6,a,b,c⟩⟩).bind (xU x ⟨6,a,b,c⟩):=pG (o:=⟨6,a,b,c⟩) (n:=some 102) hc ⟨_,rfl,rfl⟩
theorem Yb(hc:B0 7 a b c=0):y2 x ⟨7,a,b,c⟩=(Z3 ⟨x,⟨7,a,b,c⟩⟩).bind (xU x ⟨7,a,b,c⟩):=pG (o:=⟨7,a,b,c⟩) (n:=some 103) hc ⟨_,rfl,rfl⟩
theorem Yc(hc:B0 8 a b c=0):y2 x ⟨8,a,b,c⟩=(aC ⟨x,⟨8,a,b,c⟩⟩).bind (xU x ⟨8,a,b,c⟩):=pG (o:=⟨8,a,b,c⟩) (n:=some 104) hc ⟨_,rfl,rfl⟩
theorem Yd(hc:B0 9 a b c=0):y2 x ⟨9,a,b,c⟩=(bc ⟨x,⟨9,a,b,c⟩⟩).bind (xU x ⟨9,a,b,c⟩):=pG (o:=⟨9,a,b,c⟩) (n:=some 105) hc ⟨_,rfl,rfl⟩
theorem Wb(hc:B0 10 a b c=0):y2 x ⟨10,a,b,c⟩=(Q7 ⟨x,⟨10,a,b,c⟩⟩).bind (xU x ⟨10,a,b,c⟩):=pG (o:=⟨10,a,b,c⟩) (n:=some 106) hc ⟨_,rfl,rfl⟩
theorem sV{k:Int}(hk:k=11\/k=12)(hc:B0 k a b c=0):y2 x ⟨k,a,b,c⟩=some (x,0,14)/\E1 (hO x) ⟨k,a,b,c⟩=some (hO x,0,14):=by
 constructor
 .unfold y2;rw[nc,hc,YK,za (by simp)];rcases hk with rfl | rfl <;> rfl
 .unfold E1 ab;rw[iJ,hc,YK,za (by simp)];rcases hk with rfl | rfl <;> rfl
variable{y:o6}
def rT(y:o6)(a:Int)(v:Int × Int):Option (o6 × Int × Int):=
 if (v.2 != 0) then some (y,0,v.2) else (gU y a v.1).bind λv15=>(aN v15.1).bind λv16=>(tJ v16 a).bind λv17=>some (v16,v17,0)
def rO(y:o6)(v:o6 × Int × Int):Option (o6 × Int × Int):=
 if (v.2.2 != 0) then some (y,0,v.2.2) else (aN v.1).bind λv8=>(gX y v.2.1).bind λv9=>some (v8,v9,0)
theorem HO{k:Int}(hk:k=2\/k=3\/k=4\/k=7\/k=9)(hc:B0 k a b c=0):E1 y ⟨k,a,b,c⟩=(ed y ⟨k,a,b,c⟩).bind (rT y a):=by
 unfold E1 ab;rw[iJ,hc,YK,za (by simp)];rcases hk with rfl | rfl | rfl | rfl | rfl <;> rfl
theorem HN{k:Int}(hk:k=5\/k=6\/k=8)(hc:B0 k a b c=0):E1 y ⟨k,a,b,c⟩=(cG y ⟨k,a,b,c⟩).bind (rO y):=by
 unfold E1 ab;rw[iJ,hc,YK,za (by simp)];rcases hk with rfl | rfl | rfl <;> rfl
theorem Xc(hc:B0 1 a b c=0):E1 y ⟨1,a,b,c⟩=(fi y.S b c).bind λv10=>if (v10.2.2 != 0) then some (y,0,v10.2.2) else (gU ⟨v10.1,y.Roots,y.a8,y.T,y.Q⟩ a v10.2.1).bind λv11=>(aN v11.1).bind λv12=>(tJ v12 a).bind λv13=>some (v12,v13,0):=by
 unfold E1 ab;rw[iJ,hc,YK,za (by simp)];rfl
theorem UU(hc:B0 10 a b c=0):E1 y ⟨10,a,b,c⟩=(ix y.Roots a).bind λv3=>(ix y.Roots b).bind λv4=>if (v3==v4) then some (y,1,0) else some (y,0,0):=by
 unfold E1 ab;rw[iJ,hc,YK,za (by simp)];rfl
end
section
variable{s:a7}(hR:SR s){i:Nat}(hi:i<s.S.a8.length)
include hR hi
theorem Vr(st g:Int):bZ (sO s) ⟨(pl (sO s)).a8.set i ⟨st,g,0⟩,(pl (sO s)).Last⟩=some ⟨(sO s).a8.set i ⟨st,g,oo (ce s i).Val⟩,s.S.Last,s.Serial⟩:=by
 have hlen:=hR.len;have S9:i<(pl (sO s)).a8.length:=by rw[bX,C2];exact hi
 rw[xA _ _ (by rw[C2];omega) (by simp[bX])];congr 1;congr 1;refine zbn (by simp) λk h1 h2=>?_;have hk:k<s.S.a8.length:=by simpa[C2] using h1
 have hk2:k<(sO s).a8.length:=by rw[C2];exact hk
 have hk3:k<(pl (sO s)).a8.length:=by rw[bX];exact hk2
 simp only[sm,List.getElem_range,zb7];have e1:(sO s).a8.getD k ⟨0,0,oo z0⟩=cO (ce s k):=by
  rw[zf,zc hk2,F1 hk];simp[sO]
 have e2:((pl (sO s)).a8.set i ⟨st,g,0⟩).getD k ⟨0,0,0⟩=if k=i then ⟨st,g,0⟩ else yb k (cO (ce s k)):=by
  rw[jL S9];split;·rfl
  .rw[zf,zc hk3,F1 hk];simp[pl,sO]
 rw[e1,e2];by_cases e:k=i
 .subst e;rw[zb rfl,zb rfl];rfl
 .rw[za e,za (zar e)];rw[F1 hk];simp[sO,yb,cO]
theorem Vt(st g:Int)(o:R4):fk ⟨(sO s).a8.set i ⟨st,g,oo (ce s i).Val⟩,s.S.Last,s.Serial⟩ (i:Int) o=some ⟨(sO s).a8.set i ⟨st,g,o⟩,s.S.Last,s.Serial⟩:=by
 have hlen:=hR.len;unfold fk;have hi2:i<((sO s).a8.set i ⟨st,g,oo (ce s i).Val⟩).length:=by simp[C2];exact hi
 rw[V0 (by omega) (by simp[C2];omega),YK,u9 hi2,YK];simp[zch]
theorem MC:∃h:i<(pl (sO s)).a8.length,(pl (sO s)).a8[i]=⟨(ce s i).State,(ce s i).Gen,(i:Int)⟩:=by
 have S9:i<(pl (sO s)).a8.length:=by rw[bX,C2];exact hi
 refine⟨S9,?_⟩;rw[F1 hi];simp[pl,sO,yb,cO]
end
theorem Vn{s:a7}(hR:SR s):(∀i,i<s.S.a8.length->(ce s i).State≠0)->nF (pl (sO s)) 0=some (pl (sO s),0,4):=λhf=>by
 have hlen:=hR.len;have el:(pl (sO s)).a8.length=s.S.a8.length:=by rw[bX,C2]
 unfold nF;simp only[jn];refine dX (pl (sO s)).a8.length (λk=>True) (by omega) trivial (λk hk _=>?_) (λhP=>⟨.inr (),by simp,rfl⟩);refine .inl ⟨?_,trivial⟩;obtain⟨h1,h2⟩:=MC hR (show k<s.S.a8.length by omega);have:=hf k (by omega);simp only[zQ,hk,zW,zR,u9 hk,YK];rw[h2,za (by simpa using this),o9]
theorem Ra{s:a7}(hR:SR s){i:Nat}(hF:VN s i):nF (pl (sO s)) 0=some (⟨(pl (sO s)).a8.set i ⟨1,(ce s i).Gen,0⟩,(pl (sO s)).Last⟩,dF s i,0):=by
 have hlen:=hR.len;have el:(pl (sO s)).a8.length=s.S.a8.length:=by rw[bX,C2]
 obtain⟨hi,h0,hmin⟩:=hF;have hc:=hR.cell i hi;have l9:=hR.l9;unfold nF;simp only[jn];refine dX (pl (sO s)).a8.length (λk=>k<=i) (by omega) (by omega) (λk hk hP=>?_) (λhP=>by omega);obtain⟨h1,h2⟩:=MC hR (show k<s.S.a8.length by omega);rcases zD k i with g | g
 .refine .inl ⟨?_,g⟩;have:=hmin k g;simp only[zQ,hk,zW,zR,u9 hk,YK];rw[h2,za (by simpa using this),o9]
 .have:k=i:=by omega
  subst this;refine .inr ⟨.inl _,?_,rfl⟩;simp only[zQ,hk,zW,zR,u9 hk,YK];rw[h2,zb (by simpa using h0)];have w3:∀c:O8,bF (pl (sO s)) (k:Int) c=some ⟨(pl (sO s)).a8.set k c,(pl (sO s)).Last⟩:=λc=>by
   unfold bF;rw[V0 (by omega) (by omega),YK,u9 hk,YK,zU]
  rw[w3,YK,nC,zb (by dsimp only;omega),YK];rfl
theorem Wz{s:a7}(hR:SR s)(hb:s.Serial<9223372036854775807)(a p:Int) :
  (∃e,e≠0/\O2 s a p=some (s,0,e)/\fi (sO s) a p=some (sO s,0,e)) \/
  ((0<=a/\a<=4)/\(-1<=p/\p<=5)/\∃i,VN s i/\O2 s a p=some (eK s i a.toNat p,dF s i,0)/\fi (sO s) a p=some (sO (eK s i a.toNat p),dF s i,0)):=by
 have hser:=hR.R9;have hlen:=hR.len;have r1:∀n:Nat,n<=4->vr (n:Int)=some (List.replicate n 0,0):=λn hn=>by
  unfold vr;rw[za (by simp;omega),jU (by omega) (by omega)];rfl
 rcases Wy hR hb a p with ⟨h1,e⟩ | ⟨h1,h2,e⟩ | ⟨h1,h2,h3,e⟩ | ⟨h1,h2,i,h3,e⟩
 .refine .inl ⟨1,by decide,e,?_⟩;unfold fi vr;rw[zb (by simp;omega)];rfl
 .refine .inl ⟨13,by decide,e,?_⟩;obtain⟨n,rfl⟩:∃n:Nat,a=n:=⟨a.toNat,by omega⟩;unfold fi;rw[r1 n (by omega),YK,za (by simp),zb (by simp;omega)]
 .refine .inl ⟨4,by decide,e,?_⟩;obtain⟨n,rfl⟩:∃n:Nat,a=n:=⟨a.toNat,by omega⟩;unfold fi;rw[r1 n (by omega),YK,za (by simp),za (by simp;omega),iY _ (by rw[C2];omega),YK,Vn hR h3,YK,zb (by simp)]
 .refine .inr ⟨h1,h2,i,h3,e,?_⟩;obtain⟨n,rfl⟩:∃n:Nat,a=n:=⟨a.toNat,by omega⟩;have hi:=h3.1;have hc:=hR.cell i hi;have l9:=hR.l9;unfold fi;rw[r1 n (by omega),YK,za (by simp),za (by simp;omega),iY _ (by rw[C2];omega),YK,Ra hR h3,YK,za (by simp),Vr hR hi,YK,nE,zb (by unfold py dF;dsimp only;omega),YK,
   show (dF s i-1) % 32=(i:Int) by unfold dF;omega,Vt hR hi,YK,F9 (by show _<=s.Serial+1;omega) (by show s.Serial+1<=_;omega)]
  unfold eK;rw[zU];simp only[sO,zb3];rfl
abbrev Sc(o:e6):au:=⟨o.Kind,o.A,o.B,o.C⟩
structure Dn (x:Hp) (o:e6) (z:Hp) (v:Int):Prop where
 rt:O4 z
 sl:SL z
 ev:Ev x z
 cw:Cw x z (if o.Kind=6 then o.A else -1)
 mc:y2 x o=some (dy z,v,0)
 rf:E1 (hO x) (Sc o)=some (hO (dy z),v,0)
def Er(x:Hp)(o:e6)(e:Int):Prop:=e≠0/\y2 x o=some (x,0,e)/\E1 (hO x) (Sc o)=some (hO x,0,e)
theorem WD{x:Hp}(hx:O4 x)(hS:SL x){i:Nat}(hi:i<x.S.S.a8.length)(h0:(ce x.S i).State=0){n:Nat}(hn:n<=4){p:Int}(hp : -1<=p/\p<=5):SL (wS x (eK x.S i n p)):=λk hk=>by
 have hR:=hx.sh.sr;have hk':k∈lv (eK x.S i n p):=hk;show (ob (eK x.S i n p) k).Strong<=_;rw[Hm hR hi h0 hn hp] at hk';rcases zy.1 hk' with q | q
 .rw[yU hR hi h0 hn hp q];exact hS k q
 .rw[zJ.1 q,tu hR hi h0 hn hp];show (0:Int)<=_;decide
theorem oV{y:Hp}(hy:O4 y){a:Int}(ha:0<=a/\a<=5){h:Int}(hh:h=0\/h∈lv y.S):sd (dy (H7 y a.toNat h)) a=h/\R9 (dy (H7 y a.toNat h)) h=R9 y h:=by
 have hz:=cH hy (r:=a.toNat) (by omega) hh;have st:=nT hz;have w:=en hz;have e1:(dy (H7 y a.toNat h)).Roots=y.Roots.set a.toNat h:=st.rt.trans (ic y a.toNat h).1;have h6:=hy.sh.r6;have e2:sd (dy (H7 y a.toNat h)) a=h:=by
  unfold sd;rw[za (by omega),e1,zf,m8 (by omega)];rfl
 refine⟨e2,?_⟩;have k:=dx hy.sh.sr a.toNat h;rcases pW w.sh a with q | q
 .rw[e2] at q;subst q;rw[DQ w.sh,DQ hy.sh]
 .rw[e2] at q;have h1:=(st.ob h q).1;have h2:=st.lv h q;rw[k.lv] at h2;exact h1.trans (k.ob h h2)
section
variable{x:Hp}{a b c:Int}
theorem mE{o:e6}{y:Hp}{e:Int}(he:e≠0):xU x o (y,e)=some (x,0,e):=by
 unfold xU;rw[zb (by simpa using he)]
theorem RB{z:Hp}(hz:O4 z)(hS:SL z){k:Int}(hk:k≠5/\k≠6/\k≠8/\k≠10):xU x ⟨k,a,b,c⟩ (z,0)=some (dy z,R9 (dy z) (sd (dy z) a),0):=by
 unfold xU W6;rw[za (by simp),gv hz hS,YK];simp only[jn];rw[za (by simp;omega),za (by simp;omega)];have:(k==8)=false:=by simp;omega
 rw[this,za (by simp),za (by simp;omega),CG (en hz).sh];rfl
theorem Gd{o:e6}{v e:Int}(he:e≠0):B7 ⟨x,o⟩ v e=some (x,e):=by
 unfold B7;rw[zb (by simpa using he)]
theorem MI{y:o6}{v e:Int}(he:e≠0):rT y a (v,e)=some (y,0,e):=by
 unfold rT;rw[zb (by simpa using he)]
theorem Jn{y z:o6}{v e:Int}(he:e≠0):rO y (z,v,e)=some (y,0,e):=by
 unfold rO;rw[zb (by simpa using he)]
variable(hx:O4 x)(hS:SL x)
include hx hS
theorem pb{k:Int}(ha:0<=a/\a<=5){h:Int}(hh:h=0\/h∈lv x.S):B7 ⟨x,⟨k,a,b,c⟩⟩ h 0=some (H7 x a.toNat h,0):=by
 unfold B7;rw[za (by simp),HU hx hS a (rD hx hS hh),za (by omega),zb hh];rfl
theorem Xa(ha:0<=a/\a<=5){h:Int}(hh:h=0\/h∈lv x.S):rT (hO x) a (h,0)=some (hO (dy (H7 x a.toNat h)),R9 x h,0):=by
 have hz:=cH hx (r:=a.toNat) (by omega) hh;have zS:=km hx.sh.sr hS a.toNat h;obtain⟨e1,e2⟩:=oV hx ha hh;unfold rT;rw[za (by simp),MR hx hS a (rD hx hS hh),za (by omega),zb hh,YK,xr hz zS,YK,VW (en hz).sh,e1,e2];rfl
theorem kB{k:Int}(hk:k=2\/k=3\/k=4\/k=7\/k=9)(hc:B0 k a b c=0)(ha:0<=a/\a<=5){h:Int}(hh:h=0\/h∈lv x.S)
  (h1:y2 x ⟨k,a,b,c⟩=xU x ⟨k,a,b,c⟩ (H7 x a.toNat h,0))(h2:ed (hO x) ⟨k,a,b,c⟩=some (h,0)):Dn x ⟨k,a,b,c⟩ (H7 x a.toNat h) (R9 x h):=by
 have hz:=cH hx (r:=a.toNat) (by omega) hh;have zS:=km hx.sh.sr hS a.toNat h;obtain⟨e1,e2⟩:=oV hx ha hh;refine⟨hz,zS,(dx hx.sh.sr a.toNat h).ev,Cw.same (ic x a.toNat h).2.1 _,?_,?_⟩;·rw[h1,RB hz zS (by omega),e1,e2]
 .show E1 (hO x) ⟨k,a,b,c⟩=_;rw[HO hk hc,h2,YK,Xa hx hS ha hh]
theorem d2(hc:B0 2 a b c=0):Dn x ⟨2,a,b,c⟩ (H7 x a.toNat (sd x b)) (R9 x (sd x b)):=by
 obtain⟨ha,hb⟩:=Tg hc;refine kB hx hS (.inl rfl) hc ha (pW hx.sh b) ?_ ?_
 .rw[XW hc];unfold I4;rw[mf hx.sh,YK,pb hx hS ha (pW hx.sh b)];rfl
 .unfold ed;rw[zb (by rfl),show (hO x).Roots=x.Roots from rfl,uw hx.sh hb];rfl
theorem d3(hc:B0 3 a b c=0):Dn x ⟨3,a,b,c⟩ (H7 x a.toNat 0) 0:=by
 have ha:=XL hc;have:=kB (b:=b) (c:=c) hx hS (.inr (.inl rfl)) hc ha (h:=0) (.inl rfl) ?_ ?_;·rwa [DQ hx.sh] at this
 .rw[XX hc];unfold aA;rw[pb hx hS ha (.inl rfl)];rfl
 .rfl
theorem d4(hc:B0 4 a b c=0):(sd x b=0/\Er x ⟨4,a,b,c⟩ 2)\/(∃e,T8 x.S (sd x b) c=some (0,e)/\Er x ⟨4,a,b,c⟩ e) \/
  (sd x b∈lv x.S/\∃n:Nat,c=n/\∃hn:n<(ob x.S (sd x b)).Fields.length,Dn x ⟨4,a,b,c⟩ (H7 x a.toNat (ob x.S (sd x b)).Fields[n]) (R9 x (ob x.S (sd x b)).Fields[n])):=by
 obtain⟨ha,hb,_⟩:=XM hc;have hm:y2 x ⟨4,a,b,c⟩=_:=XY hc;unfold aB at hm;rw[jW hx.sh,YK] at hm;have hr:E1 (hO x) ⟨4,a,b,c⟩=_:=HO (by omega) hc;have hnm:ed (hO x) ⟨4,a,b,c⟩=(ae (hO x) b).bind λv2=>if (v2.2 != 0) then some (0,v2.2) else (gq (hO x).S v2.1 c).bind λv3=>some (v3.1,v3.2):=rfl
 rw[qM hx.sh hb,YK] at hnm;by_cases h0:sd x b=0
 .refine .inl ⟨h0,by decide,?_,?_⟩
  .rw[hm];unfold uZ;rw[zb h0,zb (by simp),YK,mE (by decide)]
  .show E1 (hO x) ⟨4,a,b,c⟩=_;rw[hr,hnm];unfold uZ;rw[zb h0,zb (by simp),YK,MI (by decide)]
 .have has:uZ x b=(sd x b,0):=by unfold uZ;rw[za h0]
  rw[has,za (by simp)] at hm hnm;right;rcases uc hx hS (sd x b) c (ux hx.sh b) with ⟨e,he,f1,f2⟩ | ⟨hl,n,hn0,hn,f1,f2⟩
  .refine .inl ⟨e,f1,he,?_,?_⟩
   .rw[hm];dsimp only;rw[f1,YK,Gd he,YK,YK,mE he]
   .show E1 (hO x) ⟨4,a,b,c⟩=_;rw[hr,hnm];dsimp only;rw[show (hO x).S=sO x.S from rfl,f2,YK,YK,MI he]
  .refine .inr ⟨hl,n,hn0,hn,?_⟩;have hv:=hx.sh.fl _ hl _ (zl hn);refine kB hx hS (by omega) hc ha hv ?_ ?_
   .rw[hm];dsimp only;rw[f1,YK,pb hx hS ha hv];rfl
   .rw[hnm];dsimp only;rw[show (hO x).S=sO x.S from rfl,f2];rfl
theorem PK{n:Nat}(hn:n<6):∃h:n<x.a8.length,kI x.a8 n=some (if x.a8[n].Target=0\/x.a8[n].Intact=false then (0,9) else (x.a8[n].Target,0))/\rU (hO x).a8 n=some (if x.a8[n].Target=0\/x.a8[n].Intact=false then (0,9) else (x.a8[n].Target,0)):=by
 have c6:=hx.sh.c6;have hl:n<x.a8.length:=by omega
 have hl2:n<(x.a8.map qG).length:=by simp;exact hl
 refine⟨hl,?_,?_⟩
 .unfold kI kJ;have:(decide ((n:Int)>=0)&&decide ((n:Int)<(x.a8.length:Int)))=true:=by simp;omega
  rw[this,YK,za (by simp),u9 hl,YK];by_cases q:x.a8[n].Target=0\/x.a8[n].Intact=false
  .rw[zb q,zb (by rcases q with q | q <;> simp[q])]
  .rw[za q,za (by simpa using q)]
 .unfold rU;show (if _ then _ else (ix (x.a8.map qG) (n:Int)).bind _)=_;rw[za (by simp[hO];omega),u9 hl2,YK,sm];by_cases q:x.a8[n].Target=0\/x.a8[n].Intact=false
  .rw[zb q,zb (by rcases q with q | q <;> simp[qG,q])]
  .rw[za q,za (by simpa[qG] using q)];rfl
theorem d7(hc:B0 7 a b c=0):∃h:b.toNat<x.a8.length,((x.a8[b.toNat].Intact=false/\Er x ⟨7,a,b,c⟩ 9) \/
  (x.a8[b.toNat].Intact=true/\Dn x ⟨7,a,b,c⟩ (H7 x a.toNat x.a8[b.toNat].Target) (R9 x x.a8[b.toNat].Target))):=by
 obtain⟨ha,hb⟩:=XP hc;obtain⟨n,rfl⟩:∃n:Nat,b=n:=⟨b.toNat,by omega⟩;obtain⟨hl,l1,l2⟩:=PK hx hS (n:=n) (by omega);rw[zU];refine⟨hl,?_⟩;have hm:y2 x ⟨7,a,n,c⟩=_:=Yb hc;unfold Z3 at hm;rw[show kI (u7.mk x ⟨7,a,n,c⟩).x.a8 (u7.mk x ⟨7,a,n,c⟩).o.B=_ from l1,YK] at hm;have hr:E1 (hO x) ⟨7,a,n,c⟩=_:=HO (by omega) hc;have hnm:ed (hO x) ⟨7,a,n,c⟩=(rU (hO x).a8 n).bind λv4=>some (v4.1,v4.2):=rfl;rw[l2,YK] at hnm;have cl:=hx.sh.cl n hl;cases hI:x.a8[n].Intact
 .left;rw[zb (.inr hI)] at hm hnm;refine⟨rfl,by decide,?_,?_⟩
  .rw[hm];dsimp only;rw[Gd (by decide),YK,YK];exact mE (e:=9) (by decide)
  .show E1 (hO x) ⟨7,a,n,c⟩=_;rw[hr,hnm,YK,MI (by decide)]
 .right;have ht:=(cl.2.2.2.2 hI).1;have ht0:x.a8[n].Target≠0:=λe=>pn hx.sh.sr (e▸ht);rw[za (by simp[ht0,hI])] at hm hnm;refine⟨rfl,kB hx hS (by omega) hc ha (.inr ht) ?_ hnm⟩;rw[hm];dsimp only;rw[pb hx hS ha (.inr ht)];rfl
theorem d9(hc:B0 9 a b c=0):(sd x b=0/\Er x ⟨9,a,b,c⟩ 2)\/(sd x b∈lv x.S/\(∀v,¬Has x.T (sd x b) v)/\Er x ⟨9,a,b,c⟩ 9) \/
  (sd x b∈lv x.S/\∃v,Has x.T (sd x b) v/\Dn x ⟨9,a,b,c⟩ (H7 x a.toNat v) (R9 x v)):=by
 obtain⟨ha,hb⟩:=XR hc;have hT:=hx.sh.hr;have hm:y2 x ⟨9,a,b,c⟩=_:=Yd hc;unfold bc at hm;rw[jW hx.sh,YK] at hm;have hr:E1 (hO x) ⟨9,a,b,c⟩=_:=HO (by omega) hc;have hnm:ed (hO x) ⟨9,a,b,c⟩=(ae (hO x) b).bind λv2=>if (v2.2 != 0) then some (0,v2.2) else (vu (hO x).T v2.1).bind λv3=>some (v3.1,v3.2):=rfl
 rw[qM hx.sh hb,YK] at hnm;by_cases h0:sd x b=0
 .refine .inl ⟨h0,by decide,?_,?_⟩
  .rw[hm];unfold uZ;rw[zb h0,zb (by simp),YK,mE (by decide)]
  .show E1 (hO x) ⟨9,a,b,c⟩=_;rw[hr,hnm];unfold uZ;rw[zb h0,zb (by simp),YK,MI (by decide)]
 .have has:uZ x b=(sd x b,0):=by unfold uZ;rw[za h0]
  have hl:=(pW hx.sh b).resolve_left h0;rw[has,za (by simp)] at hm hnm;dsimp only at hm hnm;have g2:vu (hO x).T (sd x b)=(M6 x.T (sd x b)).bind λv=>some (v.1,v.2):=by
   unfold vu;rw[show (hO x).T=x.T.map S9 from rfl,Sf hT]
  unfold sW at hm;rw[g2] at hnm;right;by_cases hv:∃v,Has x.T (sd x b) v
  .obtain⟨v,hv⟩:=hv;rw[GY hT hv] at hm hnm;refine .inr ⟨hl,v,hv,kB hx hS (by omega) hc ha (.inr (hx.sh.pr _ _ hv).2) ?_ hnm⟩;rw[hm,YK,YK];dsimp only;rw[pb hx hS ha (.inr (hx.sh.pr _ _ hv).2)];rfl
  .have hv':∀v,¬Has x.T (sd x b) v:=λv q=>hv ⟨v,q⟩;rw[IW hT hv'] at hm hnm;refine .inl ⟨hl,hv',by decide,?_,?_⟩
   .rw[hm,YK,YK];dsimp only;rw[Gd (by decide),YK,YK];exact mE (e:=9) (by decide)
   .show E1 (hO x) ⟨9,a,b,c⟩=_;rw[hr,hnm,YK,YK,YK];exact MI (e:=9) (by decide)
end
section
variable{x:Hp}{a b c:Int}
theorem Wa{z:Hp}(hz:O4 z)(hS:SL z){k:Int}{r:Int}(hk:k=5/\r=c\/(k=6\/k=8)/\r=b):xU x ⟨k,a,b,c⟩ (z,0)=some (dy z,R9 z (sd z r),0):=by
 unfold xU W6;rw[za (by simp),gv hz hS,YK];simp only[jn];rcases hk with ⟨rfl,rfl⟩ | ⟨rfl | rfl,rfl⟩
 .rw[zb (by rfl),CG hz.sh];rfl
 .rw[za (by decide),zb (by rfl),zb (by rfl),CG hz.sh];rfl
 .rw[za (by decide),za (by decide),zb (by rfl),CG hz.sh];rfl
variable(hx:O4 x)(hS:SL x)
include hx hS
theorem WZ{z:Hp}(hz:O4 z)(zS:SL z){h:Int}(hh:h=0\/h∈lv x.S):rO (hO x) (hO z,h,0)=some (hO (dy z),R9 x h,0):=by
 unfold rO;rw[za (by simp),xr hz zS,YK,Si hx.sh (rD hx hS hh)];rfl
theorem qu{z:Hp}(hz:O4 z)(zS:SL z)(k:Ks x.S z.S)(er:z.Roots=x.Roots){kd r:Int}(hk:kd=5/\r=c\/(kd=6\/kd=8)/\r=b)(hc:B0 kd a b c=0)(cw:Cw x z (if kd=6 then a else -1))
  (h1:y2 x ⟨kd,a,b,c⟩=xU x ⟨kd,a,b,c⟩ (z,0))(h2:cG (hO x) ⟨kd,a,b,c⟩=some (hO z,sd x r,0)):Dn x ⟨kd,a,b,c⟩ z (R9 x (sd x r)):=by
 refine⟨hz,zS,k.ev,cw,?_,?_⟩;·rw[h1,Wa hz zS hk,QT er,Vd hx.sh k (pW hx.sh r)]
 .show E1 (hO x) ⟨kd,a,b,c⟩=_;rw[HN (by omega) hc,h2,YK,WZ hx hS hz zS (pW hx.sh r)]
theorem d5(hc:B0 5 a b c=0):(sd x a=0/\Er x ⟨5,a,b,c⟩ 2)\/(∃e,aJ x (sd x a) b (sd x c)=some (x,e)/\Er x ⟨5,a,b,c⟩ e) \/
  (sd x a∈lv x.S/\∃n:Nat,b=n/\n<(ob x.S (sd x a)).Fields.length/\Dn x ⟨5,a,b,c⟩ (bS x (sd x a) n (sd x c)) (R9 x (sd x c))):=by
 obtain⟨ha,hb,hcc⟩:=XN hc;have hm:y2 x ⟨5,a,b,c⟩=_:=XZ hc;unfold Y3 at hm;rw[jW hx.sh,YK] at hm;have hr:E1 (hO x) ⟨5,a,b,c⟩=_:=HN (by omega) hc;have hnm:cG (hO x) ⟨5,a,b,c⟩=(ae (hO x) a).bind λv4=>if (v4.2 != 0) then some (hO x,0,v4.2) else (kh (hO x) c).bind λv5=>(kg (hO x) v4.1 b v5).bind λv6=>some (v6.1,v5,v6.2):=rfl
 rw[qM hx.sh ha,YK,Nc hx.sh (by omega)] at hnm;by_cases h0:sd x a=0
 .have has:uZ x a=(0,2):=by unfold uZ;rw[zb h0]
  rw[has,zb (by simp)] at hm hnm;refine .inl ⟨h0,by decide,?_,?_⟩
  .rw[hm,YK];exact mE (e:=2) (by decide)
  .show E1 (hO x) ⟨5,a,b,c⟩=_;rw[hr,hnm,YK];exact Jn (e:=2) (by decide)
 .have has:uZ x a=(sd x a,0):=by unfold uZ;rw[za h0]
  rw[has,za (by simp)] at hm hnm;dsimp only at hm hnm;rw[mf hx.sh,YK] at hm;rw[YK] at hnm;right;rcases KR hx hS (sd x a) b (sd x c) (ux hx.sh a) (ux hx.sh c) with ⟨e,he,f1,f2⟩ | ⟨hl,hv,n,hn0,hn,f1,f2⟩
  .refine .inl ⟨e,f1,he,?_,?_⟩;·rw[hm,f1,YK,YK,mE he]
   .show E1 (hO x) ⟨5,a,b,c⟩=_;rw[hr,hnm,f2,YK,YK,Jn he]
  .refine .inr ⟨hl,n,hn0,hn,qu hx hS (AT hx hl hn hv) (IN hx.sh.sr hS hl _ _) (yA hx.sh.sr hl hn _) (nn _ _ _ _).1 (.inl ⟨rfl,rfl⟩) hc (Cw.same (nn _ _ _ _).2.1 _) ?_ ?_⟩
   .rw[hm,f1];rfl
   .rw[hnm,f2];rfl
theorem d6(hc:B0 6 a b c=0):(sd x b=0/\Er x ⟨6,a,b,c⟩ 2)\/(∃e,W2 x a (sd x b) c=some (x,e)/\Er x ⟨6,a,b,c⟩ e) \/
  (JL x.Q a=false/\Dn x ⟨6,a,b,c⟩ (dP x a.toNat (sd x b) c) (R9 x (sd x b))):=by
 obtain⟨ha,hb,hcc⟩:=XO hc;have hm:y2 x ⟨6,a,b,c⟩=_:=Ya hc;unfold V3 at hm;have hr:E1 (hO x) ⟨6,a,b,c⟩=_:=HN (by omega) hc;have key:(y2 x ⟨6,a,b,c⟩=(((W2 x a (sd x b) c).bind λv1=>some (v1.1,v1.2)).bind (xU x ⟨6,a,b,c⟩))/\cG (hO x) ⟨6,a,b,c⟩=(gV (hO x) a (sd x b) c).bind λv1=>some (v1.1,sd x b,v1.2))\/(sd x b=0/\Er x ⟨6,a,b,c⟩ 2):=by
  by_cases h1:b = -1
  .subst h1;left;rw[xp hx.sh (r:=-1) (by omega)];refine⟨?_,rfl⟩;rw[hm,zb (by rfl)]
  .rw[za (by simpa using h1),jW hx.sh,YK] at hm;have hnm:cG (hO x) ⟨6,a,b,c⟩=(ae (hO x) b).bind λv4=>if (v4.2 != 0) then some (hO x,0,v4.2) else (gV (hO x) a v4.1 c).bind λv7=>some (v7.1,v4.1,v7.2):=by
    unfold cG;rw[za (by simp;omega)];rfl
   rw[qM hx.sh (by omega),YK] at hnm;by_cases h0:sd x b=0
   .have has:uZ x b=(0,2):=by unfold uZ;rw[zb h0]
    rw[has,zb (by simp)] at hm hnm;refine .inr ⟨h0,by decide,?_,?_⟩
    .rw[hm,YK];exact mE (e:=2) (by decide)
    .show E1 (hO x) ⟨6,a,b,c⟩=_;rw[hr,hnm,YK];exact Jn (e:=2) (by decide)
   .have has:uZ x b=(sd x b,0):=by unfold uZ;rw[za h0]
    rw[has,za (by simp)] at hm hnm;exact .inl ⟨hm,hnm⟩
 rcases key with ⟨hm,hnm⟩ | key
 .right;rcases Rp hx a (sd x b) c (ux hx.sh b) hcc with ⟨e,he,f1,f2⟩ | ⟨hh,n,rfl,hn,hw,f1,f2⟩
  .refine .inl ⟨e,f1,he,?_,?_⟩;·rw[hm,f1,YK,YK,mE he]
   .show E1 (hO x) ⟨6,a,b,c⟩=_;rw[hr,hnm,f2,YK,YK,Jn he]
  .rw[zU];obtain⟨r1,r2,_,_⟩:=xG x n (sd x b) c;refine .inr ⟨hw,qu hx hS (El hx hn hh hcc hw) (NF hx hS hn _ _) (Ek hx hn _ _) r1 (.inr ⟨.inl rfl,rfl⟩) hc (by rw[zb rfl];exact Cw.set r2) ?_ ?_⟩
   .rw[hm,f1];rfl
   .rw[hnm,f2];rfl
 .exact .inl key
theorem d8(hc:B0 8 a b c=0):(sd x a=0/\Er x ⟨8,a,b,c⟩ 2)\/(sd x a∈lv x.S/\∃e,cv x (sd x a) (sd x b)=some (x,e)/\Er x ⟨8,a,b,c⟩ e) \/
  (sd x a∈lv x.S/\∃r,P9 x.T (sd x a) (sd x b)=some r/\r.2.2=0/\Dn x ⟨8,a,b,c⟩ (jX x (sd x b) r.1 r.2.1) (R9 x (sd x b))):=by
 obtain⟨ha,hb⟩:=XQ hc;have hm:y2 x ⟨8,a,b,c⟩=_:=Yc hc;unfold aC at hm;rw[jW hx.sh,YK] at hm;have hr:E1 (hO x) ⟨8,a,b,c⟩=_:=HN (by omega) hc;have hnm:cG (hO x) ⟨8,a,b,c⟩=(ae (hO x) a).bind λv4=>if (v4.2 != 0) then some (hO x,0,v4.2) else (kh (hO x) b).bind λv8=>(nH (hO x) v4.1 v8).bind λv9=>some (v9.1,v8,v9.2):=rfl
 rw[qM hx.sh ha,YK,Nc hx.sh (by omega)] at hnm;by_cases h0:sd x a=0
 .have has:uZ x a=(0,2):=by unfold uZ;rw[zb h0]
  rw[has,zb (by simp)] at hm hnm;refine .inl ⟨h0,by decide,?_,?_⟩
  .rw[hm,YK];exact mE (e:=2) (by decide)
  .show E1 (hO x) ⟨8,a,b,c⟩=_;rw[hr,hnm,YK];exact Jn (e:=2) (by decide)
 .have has:uZ x a=(sd x a,0):=by unfold uZ;rw[za h0]
  have hl:=(pW hx.sh a).resolve_left h0;rw[has,za (by simp)] at hm hnm;dsimp only at hm hnm;rw[mf hx.sh,YK] at hm;rw[YK] at hnm;right;rcases Qu hx hS (sd x a) (sd x b) (ux hx.sh a) (ux hx.sh b) with ⟨e,he,f1,f2⟩ | ⟨hl,hv,r,r1,r2,f1,f2⟩
  .refine .inl ⟨hl,e,f1,he,?_,?_⟩;·rw[hm,f1,YK,YK,mE he]
   .show E1 (hO x) ⟨8,a,b,c⟩=_;rw[hr,hnm,f2,YK,YK,Jn he]
  .refine .inr ⟨hl,r,r1,r2,qu hx hS (Dw hx hl hv r1 r2) (Mu hx.sh.sr hS _ _ _) (Dv hx.sh.sr _ _ _) (qv _ _ _ _).1 (.inr ⟨.inr rfl,rfl⟩) hc (Cw.same (qv _ _ _ _).2.1 _) ?_ ?_⟩
   .rw[hm,f1];rfl
   .rw[hnm,f2];rfl
theorem d10(hz:zr x = [])(hc:B0 10 a b c=0):Dn x ⟨10,a,b,c⟩ x (if sd x a=sd x b then 1 else 0):=by
 obtain⟨ha,hb⟩:=VX hc;refine⟨hx,hS,Ev.refl x,Cw.refl x _,?_,?_⟩
 .rw[Wb hc];unfold Q7 xU W6;rw[YK,za (by simp),gv hx hS,YK];simp only[jn];rw[za (by decide),za (by decide),za (by decide),zb (by rfl),mf hx.sh,YK,mf hx.sh,YK];by_cases q:sd x a=sd x b
  .rw[zb (by simpa using q),zb q];rfl
  .rw[za (by simpa using q),za q];rfl
 .show E1 (hO x) ⟨10,a,b,c⟩=_;rw[UU hc,show (hO x).Roots=x.Roots from rfl,uw hx.sh ha,YK,uw hx.sh hb,YK,DU hz];by_cases q:sd x a=sd x b
  .rw[zb (by simpa using q),zb q]
  .rw[za (by simpa using q),za q]
theorem d1(hb:x.S.Serial<9223372036854775807)(hc:B0 1 a b c=0):(∃e,O2 x.S b c=some (x.S,0,e)/\Er x ⟨1,a,b,c⟩ e) \/
  (b.toNat<=4/\(-1<=c/\c<=5)/\∃i,VN x.S i/\Dn x ⟨1,a,b,c⟩ (H7 (wS x (eK x.S i b.toNat c)) a.toNat (dF x.S i)) (x.S.Serial+1)):=by
 obtain⟨ha,hbb,hcc⟩:=XK hc;have hR:=hx.sh.sr;have hm:y2 x ⟨1,a,b,c⟩=_:=XV hc;unfold V2 at hm;dsimp only at hm;have hr:E1 (hO x) ⟨1,a,b,c⟩=_:=Xc hc;rw[show (hO x).S=sO x.S from rfl] at hr;rcases Wz hR hb b c with ⟨e,he,f1,f2⟩ | ⟨_,_,i,hF,f1,f2⟩
 .refine .inl ⟨e,f1,he,?_,?_⟩;·rw[hm,f1,YK,zb (by simpa using he),YK,mE he]
  .show E1 (hO x) ⟨1,a,b,c⟩=_;rw[hr,f2,YK,zb (by simpa using he)]
 .refine .inr ⟨by omega,hcc,i,hF,?_⟩;obtain⟨hi,h0,_⟩:=hF;have hn:b.toNat<=4:=by omega
  have hy:=LS hx hi h0 hn hcc;have yS:=WD hx hS hi h0 hn hcc;have hh:dF x.S i=0\/dF x.S i∈lv (wS x (eK x.S i b.toNat c)).S:=.inr (by
   show _∈lv (eK x.S i b.toNat c);rw[Hm hR hi h0 hn hcc];exact zaw _ (zJ.2 rfl))
  have hz:=cH hy (r:=a.toNat) (by omega) hh;have zS:=km hy.sh.sr yS a.toNat (dF x.S i);obtain⟨e1,e2⟩:=oV hy ha hh;have e3:R9 (wS x (eK x.S i b.toNat c)) (dF x.S i)=x.S.Serial+1:=by
   show (ob (eK x.S i b.toNat c) (dF x.S i)).Serial=_;rw[tu hR hi h0 hn hcc]
  refine⟨hz,zS,(WC hx hi h0 hn hcc).ks (dx hy.sh.sr a.toNat _),Cw.same (ic (wS x (eK x.S i b.toNat c)) a.toNat _).2.1 _,?_,?_⟩
  .rw[hm,f1,YK,za (by simp)];dsimp only;rw[show B7 ⟨⟨eK x.S i b.toNat c,x.Roots,x.a8,x.T,x.Q⟩,⟨1,a,b,c⟩⟩ (dF x.S i) 0=_ from pb hy yS ha hh,YK,YK,RB hz zS (by omega),e1,e2,e3]
  .show E1 (hO x) ⟨1,a,b,c⟩=_;rw[hr,f2,YK,za (by simp)];dsimp only;rw[show gU ⟨sO (eK x.S i b.toNat c),(hO x).Roots,(hO x).a8,(hO x).T,(hO x).Q⟩ a (dF x.S i)=_ from MR hy yS a (rD hy yS hh),za (by omega),zb hh,YK,xr hz zS,YK,VW (en hz).sh,e1,e2,e3];rfl
end
theorem To{x:Hp}(hx:O4 x)(hS:SL x)(hz:zr x = [])(hb:x.S.Serial<9223372036854775807)(o:e6):(∃e,Er x o e)\/∃z v,Dn x o z v:=by
 obtain⟨k,a,b,c⟩:=o;by_cases hc:B0 k a b c=0
 .have:=Bl hc;have hk:k=1\/k=2\/k=3\/k=4\/k=5\/k=6\/k=7\/k=8\/k=9\/k=10\/k=11\/k=12:=by omega
  rcases hk with rfl | rfl | rfl | rfl | rfl | rfl | rfl | rfl | rfl | rfl | rfl | rfl
  .rcases d1 hx hS hb hc with ⟨e,_,h⟩ | ⟨_,_,i,_,h⟩;·exact .inl ⟨e,h⟩
   .exact .inr ⟨_,_,h⟩
  .exact .inr ⟨_,_,d2 hx hS hc⟩
  .exact .inr ⟨_,_,d3 hx hS hc⟩
  .rcases d4 hx hS hc with ⟨_,h⟩ | ⟨e,_,h⟩ | ⟨_,n,_,_,h⟩;·exact .inl ⟨_,h⟩
   .exact .inl ⟨_,h⟩
   .exact .inr ⟨_,_,h⟩
  .rcases d5 hx hS hc with ⟨_,h⟩ | ⟨e,_,h⟩ | ⟨_,n,_,_,h⟩;·exact .inl ⟨_,h⟩
   .exact .inl ⟨_,h⟩
   .exact .inr ⟨_,_,h⟩
  .rcases d6 hx hS hc with ⟨_,h⟩ | ⟨e,_,h⟩ | ⟨_,h⟩;·exact .inl ⟨_,h⟩
   .exact .inl ⟨_,h⟩
   .exact .inr ⟨_,_,h⟩
  .obtain⟨_,⟨_,h⟩ | ⟨_,h⟩⟩:=d7 hx hS hc;·exact .inl ⟨_,h⟩
   .exact .inr ⟨_,_,h⟩
  .rcases d8 hx hS hc with ⟨_,h⟩ | ⟨_,e,_,h⟩ | ⟨_,r,_,_,h⟩;·exact .inl ⟨_,h⟩
   .exact .inl ⟨_,h⟩
   .exact .inr ⟨_,_,h⟩
  .rcases d9 hx hS hc with ⟨_,h⟩ | ⟨_,_,h⟩ | ⟨_,v,_,h⟩;·exact .inl ⟨_,h⟩
   .exact .inl ⟨_,h⟩
   .exact .inr ⟨_,_,h⟩
  .exact .inr ⟨_,_,d10 hx hS hz hc⟩
  .obtain⟨h1,h2⟩:=sV (x:=x) (a:=a) (b:=b) (c:=c) (.inl rfl) hc;exact .inl ⟨14,by decide,h1,h2⟩
  .obtain⟨h1,h2⟩:=sV (x:=x) (a:=a) (b:=b) (c:=c) (.inr rfl) hc;exact .inl ⟨14,by decide,h1,h2⟩
 .obtain⟨h1,h2⟩:=ES (x:=x) (o:=⟨k,a,b,c⟩) hc;exact .inl ⟨_,hc,h1,h2⟩
noncomputable def ub(x:Hp)(o:e6):Hp × Int × Int:=(y2 x o).getD (x,0,0)
structure VE (x:Hp) (o:e6) (y:Hp) (v e:Int):Prop where
 rt:O4 y
 sl:SL y
 zr:zr y = []
 ev:Ev x y
 cw:Cw x y (if o.Kind=6 then o.A else -1)
 er:e≠0->y=x/\v=0
 mc:y2 x o=some (y,v,e)
 rf:E1 (hO x) (Sc o)=some (hO y,v,e)
theorem Dn.YF{x z:Hp}{o:e6}{v:Int}(d:Dn x o z v):VE x o (dy z) v 0:=by
 have st:=nT d.rt;exact⟨en d.rt,Ib d.rt d.sl,Ah d.rt,d.ev.YJ st,d.cw.trans (st.cw _),λh=>absurd rfl h,d.mc,d.rf⟩
theorem Qe{x:Hp}(hx:O4 x)(hS:SL x)(hz:zr x = [])(hb:x.S.Serial<9223372036854775807)(o:e6):∃y v e,VE x o y v e:=by
 rcases To hx hS hz hb o with ⟨e,h1,h2,h3⟩ | ⟨z,v,d⟩;·exact⟨x,0,e,hx,hS,hz,Ev.refl x,Cw.refl x _,λ_=>⟨rfl,rfl⟩,h2,h3⟩
 .exact⟨_,_,_,d.YF⟩
theorem oN{x:Hp}(hx:O4 x)(hS:SL x)(hz:zr x = [])(hb:x.S.Serial<9223372036854775807)(o:e6):VE x o (ub x o).1 (ub x o).2.1 (ub x o).2.2:=by
 obtain⟨y,v,e,h⟩:=Qe hx hS hz hb o;have:ub x o=(y,v,e):=by unfold ub;rw[h.mc];rfl
 rw[this];exact h
noncomputable def runs(x:Hp)(l:List e6):Hp × List Int:=l.foldl (λp o=>((ub p.1 o).1,p.2 ++ [(ub p.1 o).2.1])) (x,[])
theorem oX(x:Hp)(l:List e6)(o:e6):runs x (l ++ [o])=((ub (runs x l).1 o).1,(runs x l).2 ++ [(ub (runs x l).1 o).2.1]):=by
 unfold runs;rw[za5];rfl
theorem DO{x:Hp}(hx:O4 x)(hS:SL x)(hz:zr x = [])(l:List e6)(hb:x.S.Serial+l.length<9223372036854775807)(P:Hp->Prop)(h0:P x)
  (hs:∀(y:Hp) (o:e6),o∈l->O4 y->VE y o (ub y o).1 (ub y o).2.1 (ub y o).2.2->P y->P (ub y o).1):∀k,k<=l.length ->
  O4 (runs x (l.take k)).1/\SL (runs x (l.take k)).1/\zr (runs x (l.take k)).1 = []/\(runs x (l.take k)).1.S.Serial<=x.S.Serial+k/\(runs x (l.take k)).2.length=k/\P (runs x (l.take k)).1
 | 0,_=>⟨hx,hS,hz,by show x.S.Serial<=_;omega,rfl,h0⟩
 | k+1,hk=>by
  obtain⟨a1,a2,a3,a4,a5,a6⟩:=DO hx hS hz l hb P h0 hs k (by omega);have hk':k<l.length:=by omega
  have n:=oN a1 a2 a3 (by omega) l[k];rw[T0 hk',oX];exact⟨n.rt,n.sl,n.zr,by have:=n.ev.s2;show (ub _ _).1.S.Serial<=_;omega,by simp[a5],hs _ _ (zl hk') a1 n a6⟩
theorem run_eq{x:Hp}(hx:O4 x)(hS:SL x)(hz:zr x = [])(l:List e6)(hl:l.length<=1000)(hb:x.S.Serial+l.length<9223372036854775807) :
  eY x l=some (runs x l)/\HI (hO x) (l.map Sc)=some (hO (runs x l).1,(runs x l).2):=by
 have all:=DO hx hS hz l hb (λ_=>True) trivial (λ_ _ _ _ _ _=>trivial);constructor
 .unfold eY;simp only[jn];refine Y2 (T:=Hp × List Int) l.length (λk acc=>acc=runs x (l.take k)) (by omega) rfl (λk acc hk hP=>?_) (λacc hP=>?_)
  .subst hP;obtain⟨a1,a2,a3,a4,a5,_⟩:=all k (by omega);have n:=oN a1 a2 a3 (by omega) l[k];refine .inl ⟨_,?_,rfl⟩;rw[T0 hk,oX];show (if _ then _ else _)=_;rw[zb (by simpa using hk),u9 hk,YK,n.mc,YK,C4 (by omega) (by rw[a5];simp;omega),YK,o9]
  .subst hP;refine⟨runs x (l.take l.length),?_,?_⟩
   .show (if _ then _ else _)=_;rw[za (by simp)]
   .rw[zY]
 .unfold HI;simp only[jn];refine Y2 (T:=o6 × List Int) (l.map Sc).length (λk acc=>acc=(hO (runs x (l.take k)).1,(runs x (l.take k)).2)) (by simp;omega) rfl (λk acc hk hP=>?_) (λacc hP=>?_)
  .subst hP;have hk':k<l.length:=by simpa using hk
   obtain⟨a1,a2,a3,a4,a5,_⟩:=all k (by omega);have n:=oN a1 a2 a3 (by omega) l[k];refine .inl ⟨_,?_,rfl⟩;rw[T0 hk',oX];show (if _ then _ else _)=_;rw[zb (by simpa using hk'),u9 hk,YK,sm];dsimp only;rw[n.rf,YK,C4 (by omega) (by rw[a5];simp;omega),YK,o9]
  .subst hP;refine⟨(hO (runs x (l.take (l.map Sc).length)).1,(runs x (l.take (l.map Sc).length)).2),?_,?_⟩
   .show (if _ then _ else _)=_;rw[za (by simp)]
   .rw[t7,zY]
section
variable{x:Hp}(hB:HB x)
include hB
end
def wM(k:Nat)(l:Int)(p:Nat):Hp:=⟨⟨⟨List.replicate k ⟨0,0,z0⟩,l⟩,0⟩,List.replicate 6 0,List.replicate 6 ⟨0,false,-1⟩,List.replicate p ⟨0,0,0⟩,⟨[],30⟩⟩
theorem Lk{k p:Nat}{l:Int}(hk:1<=k/\k<=24)(hl:0<=l/\l<=9)(hp:1<=p/\p<=8) :
  jP k l p=some (wM k l p)/\rV k l p=some (hO (wM k l p))/\O4 (wM k l p)/\SL (wM k l p)/\zr (wM k l p) = []:=by
 have e1:gw k l=some (wM k l p).S:=by
  unfold gw Y6;rw[za (by simp;omega),jU (by omega) (by omega)];rfl
 obtain⟨a,h1,h2,h3,_⟩:=WL k l;rw[e1] at h1;have ha:=rg h1;subst ha;have hR:SR (wM k l p).S:=y6.1 h3;have hce:∀i,ce (wM k l p).S i=⟨0,0,z0⟩:=λi=>by
  unfold ce wM;dsimp only;rw[zf,List.getElem?_replicate];split <;> rfl
 have hlv:lv (wM k l p).S = []:=za4.2 λh hh=>by
  obtain⟨i,q⟩:=(fJ hR).1 hh;have:=q.2.1;rw[hce] at this;cases this
 refine⟨?_,?_,⟨⟨hR,(Vq (V:=Int) (λ_ _=>True) hp.1 hp.2).1,rfl,rfl,rfl,ut _,(λt ht=>nomatch ht),List.Pairwise.nil,(λh hh=>.inl (zbl.1 hh).2),λh hh=>?_,λa v hv=>?_,λi hi=>?_⟩,λi hi ht=>?_,λh hh=>?_⟩,λh hh=>?_,?_⟩
 .unfold jP;rw[za (by simp;omega),e1,YK,show mk 8 6 (0:Int)=some (List.replicate 6 0) from rfl,YK];refine Cv (a:=List.replicate 6 ⟨0,false,-1⟩) (by kernel_rfl) ?_;rw[Ui hp.1 hp.2,YK];refine Cv (a:=⟨[],30⟩) (by kernel_rfl) ?_;rfl
 .unfold rV;rw[za (by simp;omega),h2,YK,show mk 8 6 (0:Int)=some (List.replicate 6 0) from rfl,YK];refine Cv (a:=List.replicate 6 ⟨0,false,-1⟩) (by kernel_rfl) ?_;unfold HH;rw[za (by simp;omega),jU (by omega) (by omega),YK,YK];refine Cv (a:=⟨[],30⟩) (by kernel_rfl) ?_;unfold hO wM;dsimp only;rw[List.map_replicate,List.map_replicate];rfl
 .rw[hlv] at hh;cases hh
 .obtain⟨i,hi,_⟩:=hv;have:=hi.2.1;rw[show (wM k l p).T=List.replicate p ⟨0,0,0⟩ from rfl,wV] at this;cases this
 .have:(wM k l p).a8[i]=⟨0,false,-1⟩:=List.getElem_replicate ..;rw[this];exact⟨by decide,by decide,λ_=>rfl,λh=>absurd rfl h,λh=>by cases h⟩
 .rw[hce] at ht;rcases ht with h | h <;> cases h
 .rw[hlv] at hh;cases hh
 .rw[hlv] at hh;cases hh
 .unfold zr;rw[hlv];rfl
section
variable{x:Hp}(hB:HB x)
include hB
end
def DH(o:e6):au:=⟨o.Kind,o.A,o.B,o.C⟩
abbrev AG(o:e6):Int:=B0 o.Kind o.A o.B o.C
theorem AN(k a b c:Int):X6 [k,a,b,c]=some (if B0 k a b c≠0 then (⟨0,0,0,0⟩,B0 k a b c) else (⟨k,a,b,c⟩,0)):=by
 unfold X6;rw[za (by simp)];show (U2 ⟨k,a,b,c⟩).bind _=_;rw[nc,YK];by_cases h:B0 k a b c=0
 .rw[za (by simpa using h),za (by simpa using h)]
 .rw[zb (by simpa using h),zb h]
theorem KH(k a b c:Int):gW [k,a,b,c]=some (if B0 k a b c≠0 then (⟨0,0,0,0⟩,B0 k a b c) else (⟨k,a,b,c⟩,0)):=by
 unfold gW;rw[za (by simp)];show (cE ⟨k,a,b,c⟩).bind _=_;rw[iJ,YK];by_cases h:B0 k a b c=0
 .rw[za (by simpa using h),za (by simpa using h)]
 .rw[zb (by simpa using h),zb h]
theorem four(l:List Int):(∃k a b c,l = [k,a,b,c])\/l.length≠4:=by
 match l with
 | []=>exact .inr (by simp)
 | [_]=>exact .inr (by simp)
 | [_,_]=>exact .inr (by simp)
 | [_,_,_]=>exact .inr (by simp)
 | [k,a,b,c]=>exact .inl ⟨k,a,b,c,rfl⟩
 | _::_::_::_::_::l=>exact .inr (by simp)
theorem vd{l:List Int}(h:l.length≠4):X6 l=some (⟨0,0,0,0⟩,14)/\gW l=some (⟨0,0,0,0⟩,14):=by
 unfold X6 gW;have:(((l.length:Int) != 4))=true:=by simp;omega
 rw[zb this,zb this];exact⟨rfl,rfl⟩
def cm(l:List Int):e6 × Int:=(X6 l).getD (⟨0,0,0,0⟩,0)
theorem KF(l:List Int):X6 l=some (cm l)/\gW l=some (DH (cm l).1,(cm l).2):=by
 unfold cm;rcases four l with ⟨k,a,b,c,rfl⟩ | h
 .rw[AN,KH];refine⟨rfl,?_⟩;rw[zX];by_cases h:B0 k a b c≠0
  .rw[zb h,zb h];rfl
  .rw[za h,za h];rfl
 .rw[(vd h).1,(vd h).2];exact⟨rfl,rfl⟩
def rL(o:e6):Bool:=((decide (o.Kind>=1))&&(decide (o.Kind<=10)))&&(AG o==0)
def uj(p:List e6):Bool:=decide (p.length<=6)&&p.all rL
def bY(l:List (List e6)):Bool:=decide (l.length<=6)&&l.all uj
section
variable{l:List (List e6)}(hl:l.length<=12)(hp:∀p∈l,p.length<=1000)
include hl hp
theorem DB:dS l=some (bY l):=by
 unfold dS bY;by_cases h6:l.length > 6
 .rw[zb (by simp;omega),zI (by omega)];rfl
 .rw[za (by simp;omega),zA (by omega),zap];simp only[jn];have key:=Bm (f:=λ(s23:Int)=>
   if (decide (s23<(l.length:Int))) then
     (ix l s23).bind λv34=>
     if (decide ((v34.length:Int) > 6)) then
      some (.inr (.inl false))
     else
     (lp (S:=Int) (E:=Bool ⊕ Unit) (λ(s36:Int)=>
      if (decide (s36<(v34.length:Int))) then
       (ix v34 s36).bind λv38=>
       (dR v38).bind λv39=>
       (z8 ((!v39)==false) 0 (U2 v38)).bind λv40=>
       if ((!v39)||(v40 != 0)) then
        some (.inr (.inl false))
       else
       some (.inl (z6 (s36+1)))
      else
      some (.inr (.inr ()))) 0).bind λe35=>
     match e35 with
     | .inl w=>some (.inr (.inl w))
     | .inr w=>some (Sum.inl (z6 (s23+1)))
   else
   some (.inr (.inr ()))) l uj (.inr ()) (Sum.inl (β:=Unit) false) (by omega) (λk hk=>?_) (by simp)
  .refine Cv key ?_;cases l.all uj <;> rfl
  .rw[zb (by simpa using hk),u9 hk,YK];unfold uj;have hm:=hp _ (zl hk);generalize l[k]=p at hm |-;by_cases hq:p.length > 6
   .rw[zb (by simp;omega),zI (by omega)];rfl
   .rw[za (by simp;omega),zA (by omega),zap];have k2:=Bm (f:=λ(s36:Int)=>
      if (decide (s36<(p.length:Int))) then
       (ix p s36).bind λv38=>
       (dR v38).bind λv39=>
       (z8 ((!v39)==false) 0 (U2 v38)).bind λv40=>
       if ((!v39)||(v40 != 0)) then
        some (.inr (.inl false))
       else
       some (Sum.inl (z6 (s36+1)))
      else
      some (.inr (.inr ()))) p rL (.inr ()) (Sum.inl (β:=Unit) false) (by omega) (λj hj=>?_) (by simp)
    .refine zcj (Cv k2 (r:=if p.all rL=true then some (.inl (z6 ((k:Int)+1))) else some (.inr (.inl false))) ?_) ?_;·cases p.all rL <;> rfl
     .rw[o9]
    .rw[zb (by simpa using hj),u9 hj,YK,nc];unfold rL dR;rw[YK,o9];cases ((decide (p[j].Kind>=1))&&(decide (p[j].Kind<=10)));·rfl
     .by_cases h:AG p[j]=0
      .have e:B0 p[j].Kind p[j].A p[j].B p[j].C=0:=h;rw[e,h];rfl
      .have e1:(B0 p[j].Kind p[j].A p[j].B p[j].C != 0)=true:=by simpa using h
       have e2:(AG p[j]==0)=false:=by simpa using h
       rw[e2];refine Cv (a:=AG p[j]) rfl ?_;rw[show (AG p[j] != 0)=true from e1];rfl
theorem FJ:oT (l.map (List.map DH))=some (bY l):=by
 unfold oT bY;rw[t7];by_cases h6:l.length > 6
 .rw[zb (by simp;omega),zI (by omega)];rfl
 .rw[za (by simp;omega),zA (by omega),zap];simp only[jn];have key:=Bm (f:=λ(s23:Int)=>
   if (decide (s23<(l.length:Int))) then
     (ix (l.map (List.map DH)) s23).bind λv34=>
     if (decide ((v34.length:Int) > 6)) then
      some (.inr (.inl false))
     else
     (lp (S:=Int) (E:=Bool ⊕ Unit) (λ(s36:Int)=>
      if (decide (s36<(v34.length:Int))) then
       (ix v34 s36).bind λv38=>
       (ab v38).bind λv39=>
       (z8 ((!v39)==false) 0 (cE v38)).bind λv40=>
       if ((!v39)||(v40 != 0)) then
        some (.inr (.inl false))
       else
       some (.inl (z6 (s36+1)))
      else
      some (.inr (.inr ()))) 0).bind λe35=>
     match e35 with
     | .inl w=>some (.inr (.inl w))
     | .inr w=>some (Sum.inl (z6 (s23+1)))
   else
   some (.inr (.inr ()))) l uj (.inr ()) (Sum.inl (β:=Unit) false) (by omega) (λk hk=>?_) (by simp)
  .refine Cv key ?_;cases l.all uj <;> rfl
  .rw[zb (by simpa using hk),fW,u9 hk,wl,YK,t7];unfold uj;have hm:=hp _ (zl hk);generalize l[k]=p at hm |-;by_cases hq:p.length > 6
   .rw[zb (by simp;omega),zI (by omega)];rfl
   .rw[za (by simp;omega),zA (by omega),zap];have k2:=Bm (f:=λ(s36:Int)=>
      if (decide (s36<(p.length:Int))) then
       (ix (p.map DH) s36).bind λv38=>
       (ab v38).bind λv39=>
       (z8 ((!v39)==false) 0 (cE v38)).bind λv40=>
       if ((!v39)||(v40 != 0)) then
        some (.inr (.inl false))
       else
       some (Sum.inl (z6 (s36+1)))
      else
      some (.inr (.inr ()))) p rL (.inr ()) (Sum.inl (β:=Unit) false) (by omega) (λj hj=>?_) (by simp)
    .refine zcj (Cv k2 (r:=if p.all rL=true then some (.inl (z6 ((k:Int)+1))) else some (.inr (.inl false))) ?_) ?_;·cases p.all rL <;> rfl
     .rw[o9]
    .rw[zb (by simpa using hj),fW,u9 hj,wl,YK,iJ];unfold rL ab;rw[YK,o9];rw[show (DH p[j]).Kind=p[j].Kind from rfl];cases ((decide (p[j].Kind>=1))&&(decide (p[j].Kind<=10)));·rfl
     .by_cases h:AG p[j]=0
      .have e:B0 p[j].Kind (DH p[j]).A (DH p[j]).B (DH p[j]).C=0:=h;rw[e,h];rfl
      .have e1:(B0 p[j].Kind p[j].A p[j].B p[j].C != 0)=true:=by simpa using h
       have e2:(AG p[j]==0)=false:=by simpa using h
       rw[e2];refine Cv (a:=AG p[j]) rfl ?_;rw[show (AG p[j] != 0)=true from e1];rfl
end
noncomputable def NV(x:Hp):List Int:=TP x.S x.T
noncomputable def eE(x:Hp):List Int:=Wj x.S x.T (NV x)
theorem aY{x:Hp}{h:Int}:h∈eE x↔h∈lv x.S/\¬cK x.S x.T (NV x) h:=by
 classical
 unfold eE Wj;rw[zB,zK]
section
variable{x:Hp}(hx:O4 x)
include hx
theorem gI:(eE x).Nodup:=zb2 _ (rE (y6.2 hx.sh.sr))
theorem gH:∀d∈eE x,d∈lv x.S:=λd hd=>(aY.1 hd).1
theorem HV{h:Int}(hl:h∈lv x.S)(hs:(ob x.S h).Strong<12):Jw x.S x.T h=(aE (pq x) h:Int):=KN.2 hx.fair h hl hs
theorem Ha{h:Int}(hl:h∈lv x.S)(ho:h∈pq x):h∈NV x:=by
 refine vg.2 ⟨hl,?_⟩;by_cases hs:(ob x.S h).Strong<12
 .left;rw[HV hx hl hs];have:=dD.2 ⟨λe=>pn hx.sh.sr (e▸hl),ho⟩;omega
 .exact .inr (by omega)
theorem Lj{h:Int}(hh:h∈NV x):h∈lv x.S/\(h∈pq x\/12<=(ob x.S h).Strong):=by
 obtain⟨hl,hs⟩:=vg.1 hh;refine⟨hl,?_⟩;by_cases q:(ob x.S h).Strong<12
 .rcases hs with hs | hs
  .rw[HV hx hl q] at hs;exact .inl (dD.1 (by omega)).2
  .omega
 .exact .inr (by omega)
theorem Pu:∀d∈eE x,d∉pq x:=λd hd q=>by
 obtain⟨a,b⟩:=aY.1 hd;exact b (.base (Ha hx a q) a)
theorem Pt:∀h∈lv x.S,h∉eE x->∀v∈(ob x.S h).Fields,v∉eE x:=λh hh hn v hv q=>by
 obtain⟨a,b⟩:=aY.1 q;have hr:cK x.S x.T (NV x) h:=or λr=>hn (aY.2 ⟨hh,r⟩);exact b (.step hr (lK.2 ⟨hv,λe=>pn hx.sh.sr (e▸a)⟩) a)
theorem Px:∀k v,Has x.T k v->k∉eE x->v∉eE x:=λk v hk hn q=>by
 obtain⟨a,b⟩:=aY.1 q;have hr:cK x.S x.T (NV x) k:=or λr=>hn (aY.2 ⟨(hx.sh.pr k v hk).1,r⟩);exact b (.pair hk hr a)
theorem dW:O4 (gk x (eE x)):=yu hx (gI hx) (gH hx) (Pu hx) (Pt hx) (Px hx)
end
theorem xj:∀(l:List Int) {x:Hp} (hR:SR x.S) {h:Int} (hh:h∈lv x.S) (hs:12<=(ob x.S h).Strong),12<=(ob (l.foldl R8 x).S h).Strong
 | [],_,_,_,_,hs=>hs
 | v::l,x,hR,h,hh,hs=>by
  have k1:=G3 hR v (f:=jI) λc=>P3;refine xj l (x:=R8 x v) k1.sr (by
   show h∈lv (sz x v jI).S;rw[k1.lv];exact hh) ?_
  show 12<=(ob (sz x v jI).S h).Strong;rw[tU (x:=x) hR (h:=v) (f:=jI) (λc=>P3) hh];split
  .unfold jI;rw[zb hs];omega
  .exact hs
section
variable{x:Hp}(hx:O4 x)
include hx
theorem wo{h:Int}:h∈lv (gk x (eE x)).S↔cK x.S x.T (NV x) h:=by
 rw[EH hx.sh.sr (gI hx) (gH hx),zB,zK,aY];constructor
 .rintro⟨a,b⟩;exact or λr=>b ⟨a,r⟩
 .intro r;exact⟨r.live,λq=>q.2 r⟩
theorem Wm{h:Int}(hh:h∈lv (gk x (eE x)).S):(ob (gk x (eE x)).S h).Serial=(ob x.S h).Serial/\(ob (gk x (eE x)).S h).Prog=(ob x.S h).Prog/\(ob (gk x (eE x)).S h).Fields=(ob x.S h).Fields/\(ob (gk x (eE x)).S h).Started=(ob x.S h).Started:=by
 have r:=(wo hx).1 hh;obtain⟨n,e⟩:=EI hx.sh.sr (gI hx) (gH hx) r.live (λq=>(aY.1 q).2 r);rw[e];exact⟨rfl,rfl,rfl,rfl⟩
theorem Ld{h:Int}(hh:h∈lv (gk x (eE x)).S)(hs:12<=(ob x.S h).Strong):12<=(ob (gk x (eE x)).S h).Strong:=by
 have r:=(wo hx).1 hh;have g:=db (eE x) hx.sh.sr (gI hx) (gH hx);have hn:h∉eE x:=λq=>(aY.1 q).2 r;refine xj _ (x:=iy x (eE x) (mA x.T (eE x)).1) g.sr ?_ ?_
 .show h∈lv (ly x.S (eE x));rw[g.lv,zB];exact⟨r.live,by simpa using hn⟩
 .show 12<=(ob (ly x.S (eE x)) h).Strong;rw[g.ob h r.live hn];exact hs
theorem TD:pq (gk x (eE x))=pq x:=by
 obtain⟨e1,_,_,e4⟩:=qP hx.sh.sr (gI hx) (gH hx);unfold pq;rw[e1,e4,wv _ _ _ λt ht=>by
  obtain⟨w,_,rfl,_⟩:=fX.1 ht;simp]
theorem Ps{h:Int}(hh:cK x.S x.T (NV x) h):cK (gk x (eE x)).S (gk x (eE x)).T (NV (gk x (eE x))) h:=by
 have w:=dW hx;obtain⟨_,_,e3,_⟩:=qP hx.sh.sr (gI hx) (gH hx);have hlen:(eE x).length<=1000:=by
  have:=gQ (gI hx) (gH hx);have:=M7 (y6.2 hx.sh.sr);omega
 obtain⟨_,_,_,_,w5,_⟩:=iv hx.sh.hr (eE x) hlen;induction hh with
 | base h1 h2=>
  have hl:=(wo hx).2 (.base h1 h2);refine .base ?_ hl;rcases (Lj hx h1).2 with q | q
  .exact Ha w hl (by rw[TD hx];exact q)
  .exact vg.2 ⟨hl,.inr (Ld hx hl q)⟩
 | step q0 q1 q2 ih=>
  refine .step ih ?_ ((wo hx).2 (.step q0 q1 q2));unfold outs at q1 |-;rw[(Wm hx ((wo hx).2 q0)).2.2.1];exact q1
 | pair q1 q0 q2 ih=>
  refine .pair ?_ ih ((wo hx).2 (.pair q1 q0 q2));rw[e3];exact (w5 _ _).2 ⟨λq=>(aY.1 q).2 q0,q1⟩
theorem CT:eE (gk x (eE x)) = []:=za4.2 λh hh=>by
 obtain⟨a,b⟩:=aY.1 hh;exact b (Ps hx ((wo hx).1 a))
end
theorem CJ{x:Hp}(hx:O4 x)(hg:eE x = []):zr x = []:=za4.2 λh hh=>by
 have hl:=(cg.1 hh).1;have hs:=(cg.1 hh).2;have hf:=Cu hx hh;have h0:h≠0:=λe=>pn hx.sh.sr (e▸hl);have r:cK x.S x.T (NV x) h:=or λr=>by
  have:h∈eE x:=aY.2 ⟨hl,r⟩;rw[hg] at this;cases this
 unfold po at hf;cases r with
 | base h1 h2=>
  rcases (Lj hx h1).2 with q | q
  .have:=dD.2 ⟨h0,q⟩;omega
  .omega
 | step q0 q1 q2=>
  have:=Bi (y:=h) q0.live;have h1:=dD.2 ⟨h0,q1⟩;omega
 | pair q1 q0 q2=>
  have:=BA q1 h0;omega
theorem Fg{x:Hp}(hx:O4 x):dy (gk x (eE x))=gk x (eE x):=DU (CJ (dW hx) (CT hx))
end Go.Sh
