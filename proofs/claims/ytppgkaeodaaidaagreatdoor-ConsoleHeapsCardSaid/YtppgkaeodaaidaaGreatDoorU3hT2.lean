/- A part. -/
import Derived.Test.YtppgkaeodaaidaaGreatDoorU3hT
set_option linter.unusedVariables false
set_option linter.unusedSimpArgs false
set_option linter.unusedSectionVars false
namespace Go.Sh
theorem nJ(x:Hp)(h:Int):(C5 x h).Roots=x.Roots/\(C5 x h).a8=x.a8/\(C5 x h).T=x.T/\(C5 x h).Q=x.Q:=by
 rw[tH];exact⟨rfl,rfl,rfl,rfl⟩
theorem hZ{x:Hp}(hR:SR x.S)(h:Int):SR (C5 x h).S:=(G3 hR h λc=>D7).sr
section
variable{x:Hp}(hx:O2 x)(hS:∀k∈lv x.S,(ob x.S k).Strong<=9223372036854775807)
include hx hS
theorem rq{h:Int}(hh:h=0\/h∈lv x.S):h<=9223372036854775807:=by
 rcases hh with q | q
 .omega
 .have:=I1 hx.sh.sr q;omega
theorem HL(k:Int){h:Int}(hh:h<=9223372036854775807):bc x k h=some (if k<0\/5<k then (x,6) else if h=0\/h∈lv x.S then (H5 x k.toNat h,0) else (x,3)):=by
 have hR:=hx.sh.sr;have r6:=hx.sh.r6;unfold bc;by_cases hk:k<0\/5<k
 .rw[zb hk,zb (by rw[r6];simp;omega)]
 .rw[za hk,za (by rw[r6];simp;omega),dY hR hh,Yx];by_cases hn:h=0\/h∈lv x.S
  .rw[zb hn,zA hn,za (by simp)];obtain⟨n,rfl⟩:∃n:Nat,k=n:=⟨k.toNat,by omega⟩;have hn6:n<6:=by omega
   have hnl:n<x.Roots.length:=by omega
   have old:x.Roots[n]<=9223372036854775807:=rq hx hS (hx.sh.rt _ (zj hnl));have e1:=nJ x h;have hn2:n<(C5 x h).Roots.length:=by rw[e1.1];exact hnl
   rw[u6 hnl,Yx];unfold F2 Q3 M8;rw[ke hR hh hS,Yx];dsimp only;rw[U9 (by omega) (by rw[e1.1];omega),Yx,u6 hn2,Yx,Yx];have hrel:=ee (x:=wR (C5 x h) (x.Roots.set n h)) (hZ hR h) old;rw[zX,e1.1,show C8 ⟨(C5 x h).S,x.Roots.set n h,(C5 x h).a8,(C5 x h).T,(C5 x h).Q⟩ x.Roots[n]=_ from hrel];unfold H5;rw[zf,zc hnl];rfl
  .rw[za hn,zK hn,zb (by simp)]
theorem MO(k:Int){h:Int}(hh:h<=9223372036854775807):gS (hO x) k h=some (if k<0\/5<k then (hO x,6) else if h=0\/h∈lv x.S then (hO (H5 x k.toNat h),0) else (hO x,3)):=by
 have hR:=hx.sh.sr;have r6:=hx.sh.r6;unfold gS;by_cases hk:k<0\/5<k
 .rw[zb hk,zb (by simp;omega)]
 .rw[za hk,za (by simp;omega),vd hR hh,Yx];by_cases hn:h=0\/h∈lv x.S
  .rw[zb hn,zA hn,za (by simp)];obtain⟨n,rfl⟩:∃n:Nat,k=n:=⟨k.toNat,by omega⟩;have hnl:n<x.Roots.length:=by omega
   have hnl':n<(hO x).Roots.length:=hnl;have old:x.Roots[n]<=9223372036854775807:=rq hx hS (hx.sh.rt _ (zj hnl));have e1:=nJ x h;have r6':(hO x).Roots.length=6:=r6;rw[u6 hnl',Yx,rU hR hh hS,Yx,U9 (by omega) (by rw[r6'];omega),Yx,u6 hnl',Yx];have hrel:=oP (x:=wR (C5 x h) (x.Roots.set n h)) (hZ hR h) old;rw[zX];rw[show J1 ⟨(hO (C5 x h)).S,(hO x).Roots.set n h,(hO (C5 x h)).a8,(hO (C5 x h)).T,(hO (C5 x h)).Q⟩ (hO x).Roots[n]=_ from hrel];unfold H5;rw[zf,zc hnl];rfl
  .rw[za hn,zK hn,zb (by simp)]
omit hx hS in
theorem VJ {l:List Int} {n:Nat} (hn:n<l.length):nZ l n=some (l[n],0)/\wX l n=some (l[n],0):=by
 constructor
 .unfold nZ mh;rw[Yx,za (by simp;omega),u6 hn,Yx]
 .unfold wX;rw[za (by simp;omega),u6 hn,Yx]
omit hx hS in
theorem Rq {l:List Int} {k:Int} (hk:¬(0<=k/\k<l.length)):nZ l k=some (0,5)/\wX l k=some (0,5):=by
 constructor
 .unfold nZ mh;rw[Yx,zb (by simp;omega)]
 .unfold wX;rw[zb (by simp;omega)]
theorem tW(h k:Int)(hh:h<=9223372036854775807):(∃e,e≠0/\T8 x.S h k=some (0,e)/\gl (sO x.S) h k=some (0,e)) \/
  (h∈lv x.S/\∃n:Nat,k=n/\∃hn:n<(ob x.S h).Fields.length,T8 x.S h k=some ((ob x.S h).Fields[n],0)/\gl (sO x.S) h k=some ((ob x.S h).Fields[n],0)):=by
 have hR:=hx.sh.sr;obtain⟨e,h1,h2⟩:=aI (y4.2 hR) hh;have hg:M0 (sO x.S) h=some (oo (ob x.S h),e):=by
  rw[qX x.S (by have:=hR.len;omega) hh,h1];rfl
 unfold T8 gl;rw[h1,Yx,hg,Yx];by_cases q:h∈lv x.S
 .have:=h2.2 q;subst this;rw[za (by simp),za (by simp),show (oo (ob x.S h),(0:Int)).1.Fields=(ob x.S h).Fields from rfl];by_cases hk:0<=k/\k<(ob x.S h).Fields.length
  .right;obtain⟨n,rfl⟩:∃n:Nat,k=n:=⟨k.toNat,by omega⟩;have hn:n<(ob x.S h).Fields.length:=by omega
   refine⟨q,n,rfl,hn,?_,?_⟩
   .rw[(VJ hn).1];rfl
   .rw[(VJ hn).2];rfl
  .left;refine⟨5,by decide,?_,?_⟩
   .rw[(Rq hk).1];rfl
   .rw[(Rq hk).2];rfl
 .left;have he:(e != 0)=true:=by simpa using λc=>q (h2.1 c)
  refine⟨e,by simpa using he,?_,?_⟩;·simp only[he,zU]
  .simp only[he,zU]
theorem My{s:a7}(hR:SR s){h:Int}(hh:h∈lv s){n:Nat}(hn:n<(ob s h).Fields.length)(v:Int) :
  oX s h n v=some (cK s h (oB (ob s h) ((ob s h).Fields.set n v)),0)/\BA (sO s) h n v=some (sO (cK s h (oB (ob s h) ((ob s h).Fields.set n v))),0):=by
 have ok:=J3 hR hh;have hf:=ok.fl;have hle:=I1 hR hh;have ho:xK s (oB (ob s h) ((ob s h).Fields.set n v)):=⟨ok.s1,ok.s2,ok.st,ok.wk,ok.p1,ok.p2,by simpa using hf⟩;have h1:=rZ (o:=oB (ob s h) ((ob s h).Fields.set n v)) hR hh rfl ho;have h2:=sa (o:=oB (ob s h) ((ob s h).Fields.set n v)) hR hh rfl ho;constructor
 .unfold oX;rw[wz (y4.2 hR) hh,Yx,za (by simp)];unfold xy mh;dsimp only;rw[Yx,za (by simp;omega),jO (by omega) (by omega),Yx];have e:uB (List.replicate (ob s h).Fields.length (0:Int)) (ob s h).Fields=some (ob s h).Fields:=by
   unfold uB;rw[zb (by simp)];simp
  rw[e,Yx,u6 hn,Yx,Yx,za (by simp),zX];dsimp only;rw[show K6 s h ⟨(ob s h).Serial,(ob s h).Strong,(ob s h).Weak,(ob s h).Prog,(ob s h).Started,(ob s h).Fields.set n v⟩=_ from h1];rfl
 .unfold BA;rw[qX s (by have:=hR.len;omega) (by omega),wz (y4.2 hR) hh,wd,Yx,za (by simp)];unfold Dz;have hn':n<(oo (ob s h)).Fields.length:=hn;have hf':(oo (ob s h)).Fields.length<=4:=hf;dsimp only;rw[za (by simp;omega),U9 (by omega) (by omega),Yx,u6 hn',Yx,Yx,za (by simp),zX];dsimp only;rw[show P3 (sO s) h ⟨(oo (ob s h)).Serial,(oo (ob s h)).Strong,(oo (ob s h)).Weak,(oo (ob s h)).Prog,(oo (ob s h)).Started,(oo (ob s h)).Fields.set n v⟩=_ from h2];rfl
theorem KM(h k v:Int)(hh:h<=9223372036854775807)(hv:v<=9223372036854775807) :
  (∃e,e≠0/\aJ x h k v=some (x,e)/\jY (hO x) h k v=some (hO x,e)) \/
  (h∈lv x.S/\(v=0\/v∈lv x.S)/\∃n:Nat,k=n/\n<(ob x.S h).Fields.length/\aJ x h k v=some (bS x h n v,0)/\jY (hO x) h k v=some (hO (bS x h n v),0)):=by
 have hR:=hx.sh.sr;unfold aJ jY;rcases tW hx hS h k hh with ⟨e,he,f1,f2⟩ | ⟨hl,n,rfl,hn,f1,f2⟩
 .left;have he':(e != 0)=true:=by simpa using he
  refine⟨e,he,?_,?_⟩;·rw[f1,Yx,zb he']
  .rw[show (hO x).S=sO x.S from rfl,f2,Yx,zb he']
 .rw[f1,Yx,za (by simp),show (hO x).S=sO x.S from rfl,f2,Yx,za (by simp),dY hR hv,Yx,vd hR hv,Yx];by_cases hn2:v=0\/v∈lv x.S
  .right;refine⟨hl,hn2,n,rfl,hn,?_⟩;rw[zA hn2,za (by simp),za (by simp)];have xV:=G3 hR v (f:=W5) λc=>D7;have hR1:SR (C5 x v).S:=xV.sr;have hl1:h∈lv (C5 x v).S:=by rw[show lv (C5 x v).S=lv x.S from xV.lv];exact hl
   have hof:(ob (C5 x v).S h).Fields=(ob x.S h).Fields:=by
    obtain⟨m,e⟩:=xV.ob h hh;show (ob (sf x v W5).S h).Fields=_;rw[e]
   have hn1:n<(ob (C5 x v).S h).Fields.length:=by rw[hof];exact hn
   have old:(ob x.S h).Fields[n]<=9223372036854775807:=rq hx hS (hx.sh.fl h hl _ (zj hn));have ok:=J3 hR1 hl1;have sr2:SR (cK (C5 x v).S h (oB (ob (C5 x v).S h) ((ob (C5 x v).S h).Fields.set n v))):=bx (o:=oB (ob (C5 x v).S h) ((ob (C5 x v).S h).Fields.set n v)) hR1 hl1 rfl ⟨ok.s1,ok.s2,ok.st,ok.wk,ok.p1,ok.p2,by simpa using ok.fl⟩;obtain⟨p1,p2⟩:=My hx hS hR1 hl1 hn1 v;have hd:(ob x.S h).Fields.getD n 0=(ob x.S h).Fields[n]:=by
    rw[zf,zc hn];rfl
   constructor
   .unfold I0 bq;rw[ke hR hv hS,Yx];dsimp only;rw[p1,Yx,Yx];have hrel:=ee (x:=wS (C5 x v) (cK (C5 x v).S h (oB (ob (C5 x v).S h) ((ob (C5 x v).S h).Fields.set n v)))) sr2 old;rw[show C8 ⟨cK (C5 x v).S h (oB (ob (C5 x v).S h) ((ob (C5 x v).S h).Fields.set n v)),(C5 x v).Roots,(C5 x v).a8,(C5 x v).T,(C5 x v).Q⟩ (ob x.S h).Fields[n]=_ from hrel];unfold bS;rw[hd,hof];rfl
   .rw[rU hR hv hS,Yx,show (hO (C5 x v)).S=sO (C5 x v).S from rfl,p2,Yx];have hrel:=oP (x:=wS (C5 x v) (cK (C5 x v).S h (oB (ob (C5 x v).S h) ((ob (C5 x v).S h).Fields.set n v)))) sr2 old;dsimp only;rw[show J1 ⟨sO (cK (C5 x v).S h (oB (ob (C5 x v).S h) ((ob (C5 x v).S h).Fields.set n v))),(hO (C5 x v)).Roots,(hO (C5 x v)).a8,(hO (C5 x v)).T,(hO (C5 x v)).Q⟩ (ob x.S h).Fields[n]=_ from hrel];unfold bS;rw[hd,hof];rfl
  .left;refine⟨3,by decide,?_,?_⟩;·rw[zK hn2,zb (by simp)]
   .rw[zK hn2,zb (by simp)]
theorem Qk(k v:Int)(hk:k<=9223372036854775807)(hv:v<=9223372036854775807) :
  (∃e,e≠0/\cu x k v=some (x,e)/\nD (hO x) k v=some (hO x,e)) \/
  (k∈lv x.S/\(v=0\/v∈lv x.S)/\∃r,P7 x.T k v=some r/\r.2.2=0/\cu x k v=some (jS x v r.1 r.2.1,0)/\nD (hO x) k v=some (hO (jS x v r.1 r.2.1),0)):=by
 have hR:=hx.sh.sr;unfold cu nD;by_cases k0:k=0
 .left;subst k0;exact⟨2,by decide,by simp,by simp⟩
 .rw[za (by simpa using k0),za (by simpa using k0),dY hR hk,Yx,vc hR hk,Yx,dY hR hv,vd hR hv];have hkk:(k=0\/k∈lv x.S)↔k∈lv x.S:=by simp[k0]
  by_cases hl:k∈lv x.S/\(v=0\/v∈lv x.S)
  .obtain⟨hl,hn⟩:=hl;rw[zA (hkk.2 hl),zA hl,zA hn];simp only[Bool.not_true,md,jR,Yx,Bool.or_self,zm,zY];obtain⟨r,r1,r2,r3,r4,r5⟩:=Jt hx.sh.hr k v;rw[r1,Yx,show (hO x).T=x.T.map R8 from rfl,r4,Yx];by_cases h0:r.2.2=0
   .right;refine⟨hl,hn,r,rfl,h0,?_⟩;have e1:(r.2.2 != 0)=false:=by simpa using h0
    have old:r.2.1<=9223372036854775807:=by
     rcases r5 with ⟨_,rfl⟩ | ⟨_,_,⟨i,hi,rfl⟩ | ⟨_,rfl⟩⟩ | ⟨_,_,⟨i,hi,rfl⟩ | ⟨d,_,_,_,_,rfl⟩ | ⟨_,_,rfl⟩⟩;·simp
     .exact rq hx hS (.inr (hx.sh.pr k _ ⟨i,hi,rfl⟩).2)
     .simp
     .exact rq hx hS (.inr (hx.sh.pr k _ ⟨i,hi,rfl⟩).2)
     .simp
     .simp
    constructor
    .rw[e1];simp only[zm,zY];unfold J2 Y0;rw[ke hR hv hS,Yx,Yx];dsimp only;have hrel:=ee (x:=wT (C5 x v) r.1) (hZ hR v) old;rw[show C8 ⟨(C5 x v).S,(C5 x v).Roots,(C5 x v).a8,r.1,(C5 x v).Q⟩ r.2.1=_ from hrel];rfl
    .dsimp only;rw[e1];simp only[zm,zY];rw[rU hR hv hS,Yx];have hrel:=oP (x:=wT (C5 x v) r.1) (hZ hR v) old;rw[show J1 ⟨(hO (C5 x v)).S,(hO (C5 x v)).Roots,(hO (C5 x v)).a8,r.1.map R8,(hO (C5 x v)).Q⟩ r.2.1=_ from hrel];rfl
   .left;have e1:(r.2.2 != 0)=true:=by simpa using h0
    refine⟨r.2.2,h0,by rw[zb e1],by dsimp only;rw[zb e1]⟩
  .left;refine⟨3,by decide,?_,?_⟩
   .by_cases hl2:k∈lv x.S
    .have:¬(v=0\/v∈lv x.S):=λq=>hl ⟨hl2,q⟩;rw[zA (hkk.2 hl2),zK this];rfl
    .rw[zK λq=>hl2 (hkk.1 q)];rfl
   .by_cases hl2:k∈lv x.S
    .have:¬(v=0\/v∈lv x.S):=λq=>hl ⟨hl2,q⟩;rw[zA hl2,zK this];rfl
    .rw[zK hl2];rfl
end
theorem GU{s:a7}(hR:SR s){h:Int}{i:Nat}(q:Z7 s h i):O7 s.S h=some ((yC s i).S,0):=by
 have hi:=q.1;have hc:=hR.cell i hi;have l9:=hR.l9;unfold O7 yC;rw[kQ hR q,Yx,za (by simp),CV hi,Yx];by_cases g:(ce s i).Gen=s.S.Last
 .rw[zb (by simpa using g),zb g,kE rfl hi hR.len];rfl
 .rw[za (by simpa using g),za g,kE rfl hi hR.len,F7 (by omega) (by omega)];rfl
theorem RA{s:a7}{i:Nat}(hi:i<s.S.a8.length):ix (sO s).a8 (i:Int)=some (cO (ce s i)):=by
 rw[HO,CV hi];rfl
theorem HP(s:a7)(i:Nat)(c:b7):sO (G5 s i c)=⟨(sO s).a8.set i (cO c),s.S.Last,s.Serial⟩:=by
 unfold sO G5;rw[zbw]
theorem xv(t:y8)(p:H2)(hl:t.a8.length<=1000)(hp:p.a8.length=t.a8.length):bY t p=some ⟨(List.range t.a8.length).map λk=>⟨(p.a8.getD k ⟨0,0,0⟩).State,(p.a8.getD k ⟨0,0,0⟩).Gen,(t.a8.getD k ⟨0,0,oo z0⟩).Val⟩,t.Last,t.Serial⟩:=by
 unfold bY;simp only[jn];rw[LC (b:=80) t.a8.length (λk=>⟨(p.a8.getD k ⟨0,0,0⟩).State,(p.a8.getD k ⟨0,0,0⟩).Gen,(t.a8.getD k ⟨0,0,oo z0⟩).Val⟩) (by omega) (by omega) (λk acc hk=>?_) (λacc=>by simp)];·rfl
 .have hk2:k<p.a8.length:=by omega
  simp only[zQ,hk,zV,zU,u6 hk,u6 hk2,Yx];rw[zf,zc hk2,zf,zc hk];rfl
theorem La{s:a7}(hR:SR s){h:Int}{i:Nat}(q:Z7 s h i):rH (sO s) h=some (sO (yC s i)):=by
 have hi:=q.1;have hc:=hR.cell i hi;have l9:=hR.l9;have hlen:=hR.len;have hr:=q.MN hR;have hH:pv h:=((qi hR).2 q).2.1;have hsl:(h-1) % 32=i:=((qi hR).2 q).2.2.1;have R8:i<(pl (sO s)).a8.length:=by rw[bX,C0];exact hi
 have key:∀st g,(st:Int)=st->bY (sO s) ⟨(pl (sO s)).a8.set i ⟨st,g,0⟩,(pl (sO s)).Last⟩=some ⟨(sO s).a8.set i ⟨st,g,oo (ce s i).Val⟩,s.S.Last,s.Serial⟩:=λst g _=>by
  rw[xv _ _ (by rw[C0];omega) (by simp[bX])];congr 1;congr 1;refine zbi (by simp) λk h1 h2=>?_;have hk:k<s.S.a8.length:=by simpa[C0] using h1
  have hk2:k<(sO s).a8.length:=by rw[C0];exact hk
  have hk3:k<(pl (sO s)).a8.length:=by rw[bX];exact hk2
  simp only[ut,List.getElem_range,zb2];have e1:(sO s).a8.getD k ⟨0,0,oo z0⟩=cO (ce s k):=by
   rw[zf,zc hk2,E9 hk];simp[sO]
  have e2:((pl (sO s)).a8.set i ⟨st,g,0⟩).getD k ⟨0,0,0⟩=if k=i then ⟨st,g,0⟩ else xY k (cO (ce s k)):=by
   rw[jF R8];split;·rfl
   .rw[zf,zc hk3,E9 hk];simp[pl,sO]
  rw[e1,e2];by_cases e:k=i
  .subst e;rw[zb rfl,zb rfl];rfl
  .rw[za e,za (zam e)];rw[E9 hk];simp[sO,xY,cO]
 have fin:∀st g,(fh ⟨(sO s).a8.set i ⟨st,g,oo (ce s i).Val⟩,s.S.Last,s.Serial⟩ (i:Int) ⟨0,0,0,0,false,[]⟩)=some (sO (G5 s i ⟨st,g,z0⟩)):=λst g=>by
  unfold fh;have hi2:i<((sO s).a8.set i ⟨st,g,oo (ce s i).Val⟩).length:=by simp[C0];exact hi
  rw[U9 (by omega) (by simp[C0];omega),Yx,u6 hi2,Yx,HP];simp[cO,oo,zce]
 unfold rH Dx yC;rw[iW _ (by rw[C0];omega),Yx,sS s (by omega),kQ hR q,Yx,za (by simp)];rw[Ds (by rw[C0];exact hi),Yx];have hgen:(xY i ((sO s).a8[i]'(by rw[C0];exact hi))).Gen=(ce s i).Gen:=by
  rw[E9 hi];simp[xY,sO,cO]
 have hlast:(pl (sO s)).Last=s.S.Last:=rfl;have w3:∀c:O6,bF (pl (sO s)) (i:Int) c=some ⟨(pl (sO s)).a8.set i c,(pl (sO s)).Last⟩:=λc=>by
  unfold bF;rw[U9 (by omega) (by rw[bX,C0];omega),Yx,u6 R8,Yx,zX]
 rw[hgen,hlast,nA,zb hH,hsl];by_cases g:(ce s i).Gen=s.S.Last
 .rw[zb (by simp[g]),zb g,w3,Yx,Yx,za (by simp),key _ _ rfl,Yx,Yx,fin];rfl
 .rw[za (by simp;omega),za g,w3,Yx,Yx,za (by simp),key _ _ rfl,Yx,Yx,F7 (by omega) (by omega),fin];rfl
section
variable{x:Hp}(hR:SR x.S)
include hR
theorem yK{h d:Int}(hh:h<=9223372036854775807)(hw:Z7 x.S h (D3 h) -> -1000<=(ce x.S (D3 h)).Val.Weak+d/\(ce x.S (D3 h)).Val.Weak+d<=1000):cv x h d=some (jP x h d):=by
 unfold cv jP;by_cases q:Z7 x.S h (D3 h)
 .have:=hw q;rw[zb q,kQ hR q,Yx];simp only[md,zU];rw[CV q.1,Yx,F7 (by omega) (by omega),BS hR q,Yx];rfl
 .have hno:∀i,¬Z7 x.S h i:=λi hi=>q (by rw[hi.D3 hR];exact hi);rw[za q,pV hR hh hno,Yx];have:((if h=0 then 2 else 3:Int)==0)=false:=by simpa using eU h
  simp only[this,zm,zY]
theorem Ea{h:Int}(hh:h<=9223372036854775807)(hw:Z7 x.S h (D3 h)->1<=(ce x.S (D3 h)).Val.Weak/\(ce x.S (D3 h)).Val.Weak<=1000):eG x h=some (nY x h):=by
 unfold eG;rw[yK hR hh (λq=>by have:=hw q;omega),Yx];unfold jP nY;by_cases q:Z7 x.S h (D3 h)
 .have hw:=hw q;rw[zb q,zb q];have RY:=wB hR q.1 q.2.1 (d:=-1) (by omega);have q1:Z7 (oH x.S (D3 h) (-1)) h (D3 h):=(uU q.1 _).2 q;dsimp only;rw[kQ RY q1,Yx,za (by simp),CV q1.1,Yx,fz hR q.1 q.2.1,zb rfl];dsimp only;by_cases c:(ce x.S (D3 h)).State=2/\(ce x.S (D3 h)).Val.Weak=1
  .rw[zb c,zb (by simp[c.1,c.2]),GU RY q1,Yx];rfl
  .rw[za c,za (by simp only[zk,wf];omega)]
 .have hno:∀i,¬Z7 x.S h i:=λi hi=>q (by rw[hi.D3 hR];exact hi);rw[za q,za q,pV hR hh hno,Yx];have:((if h=0 then 2 else 3:Int) != 0)=true:=by simpa using eU h
  simp only[this,zU]
theorem JC{h:Int}(hh:h<=9223372036854775807)(hw:Z7 x.S h (D3 h)->1<=(ce x.S (D3 h)).Val.Weak/\(ce x.S (D3 h)).Val.Weak<=1000):cC (hO x) h=some (hO (nY x h)):=by
 have hl:=hR.len;unfold cC;rw[show (hO x).S=sO x.S from rfl,iW _ (by rw[C0];omega),Yx,sS x.S hh];unfold nY;by_cases q:Z7 x.S h (D3 h)
 .have hw:=hw q;have hr:=q.MN hR;rw[zb q,kQ hR q,Yx,za (by simp),RA q.1,Yx];have RY:=wB hR q.1 q.2.1 (d:=-1) (by omega);have q1:Z7 (oH x.S (D3 h) (-1)) h (D3 h):=(uU q.1 _).2 q;have hs:P3 (sO x.S) h (oo (Vz (ce x.S (D3 h)).Val ((ce x.S (D3 h)).Val.Weak + -1)))=some (sO (oH x.S (D3 h) (-1)),0):=by
   rw[Nd x.S hl hh,BS hR q];rfl
  have hw64:z8 ((cO (ce x.S (D3 h))).Val.Weak-1)=(ce x.S (D3 h)).Val.Weak + -1:=by
   show z8 ((ce x.S (D3 h)).Val.Weak-1)=_;rw[F7 (by omega) (by omega)];omega
  rw[hw64];rw[show P3 (sO x.S) h ⟨(cO (ce x.S (D3 h))).Val.Serial,(cO (ce x.S (D3 h))).Val.Strong,(ce x.S (D3 h)).Val.Weak + -1,(cO (ce x.S (D3 h))).Val.Prog,(cO (ce x.S (D3 h))).Val.Started,(cO (ce x.S (D3 h))).Val.Fields⟩=_ from hs,Yx,RA q1.1,Yx,fz hR q.1 q.2.1,zb rfl];by_cases c:(ce x.S (D3 h)).State=2/\(ce x.S (D3 h)).Val.Weak=1
  .rw[zb c,zb (by simp[cO,c.1,c.2]),La RY q1,Yx];rfl
  .rw[za c,za (by simp only[cO,zk,wf,t6];omega)];rfl
 .have hno:∀i,¬Z7 x.S h i:=λi hi=>q (by rw[hi.D3 hR];exact hi);rw[za q,pV hR hh hno,Yx];have:((if h=0 then 2 else 3:Int) != 0)=true:=by simpa using eU h
  simp only[this,zU]
end
theorem NB{l:List j5}(hl:l.length<=1000){n:Nat}(hn:n<l.length)(h call:Int):sz l n h call=some (l.set n (jd h call),l[n].Target,0):=by
 unfold sz kD aV;simp only[Yx];rw[za (by simp;omega),jO (by omega) (by omega),Yx];have e:uB (List.replicate l.length (⟨0,false,0⟩:j5)) l=some l:=by
  unfold uB;rw[zb (by simp)];simp
 rw[e,Yx,Yx,u6 hn,Yx,Yx,zX]
theorem Ga{l:List j5}(hl:l.length<=1000){n:Nat}(hn:n<l.length)(h call:Int):BC (l.map qz) n h call=some ((l.set n (jd h call)).map qz,l[n].Target,0):=by
 unfold BC;have hn':n<(l.map qz).length:=by simpa using hn
 rw[za (by simp;omega),U9 (by omega) (by simp;omega),Yx,u6 hn',Yx,Yx,zX,zbw];simp[qz]
theorem Ub(l:List j5)(h:Int):Cr l h<=l.length:=zbf
theorem Ri{x:Hp}(hx:O2 x)(k h call:Int)(hh:h<=9223372036854775807)(hc : -1<=call/\call<=5) :
  (∃e,e≠0/\W2 x k h call=some (x,e)/\gT (hO x) k h call=some (hO x,e)) \/
  ((h=0\/h∈lv x.S)/\∃n:Nat,k=n/\n<6/\JG x.Q n=false/\W2 x k h call=some (dP x n h call,0)/\gT (hO x) k h call=some (hO (dP x n h call),0)):=by
 have hR:=hx.sh.sr;have c6:=hx.sh.c6;have q30:=hx.sh.q30;unfold W2 gT;by_cases hk:k<0\/5<k
 .left;have e1:((decide (k<0))||(decide (k>=(x.a8.length:Int))))=true:=by rw[c6];simp;omega
  have e2:((decide (k<0))||(decide (k > 5)))=true:=by simp;omega
  refine⟨7,by decide,?_,?_⟩;·rw[e1];rfl
  .rw[e2];rfl
 .obtain⟨n,rfl⟩:∃n:Nat,k=n:=⟨k.toNat,by omega⟩;have hn6:n<6:=by omega
  have e1:((decide ((n:Int)<0))||(decide ((n:Int)>=(x.a8.length:Int))))=false:=by rw[c6];simp;omega
  have e2:((decide ((n:Int)<0))||(decide ((n:Int) > 5)))=false:=by simp;omega
  rw[e1,e2];simp only[md,jR,zb6];have hwq:il x.Q n=some (JG x.Q n):=QS (by omega);have hwr:oN (hO x).Q n=some (JG x.Q n):=Qy (by omega);rw[hwq,Yx,hwr,Yx,dY hR hh,Yx,vd hR hh,Yx];by_cases hw:JG x.Q n=true
  .left;rw[zb hw,zb hw];exact⟨7,by decide,rfl,rfl⟩
  .have hw:JG x.Q n=false:=by simpa using hw
   rw[hw,za (show ¬(false=true) by decide),za (show ¬(false=true) by decide)];by_cases hl:h=0\/h∈lv x.S
   .right;refine⟨hl,n,rfl,hn6,hw,?_⟩;have hnl:n<x.a8.length:=by omega
    rw[zA hl,za (by simp),za (by simp),NB (by omega) hnl,Yx,show (hO x).a8=x.a8.map qz from rfl,Ga (by omega) hnl,Yx];have htg:sj x n=x.a8[n].Target:=by
     unfold sj;rw[zf,zc hnl];rfl
    have wkb:∀i,i<x.S.S.a8.length->Th (ce x.S i)->0<=(ce x.S i).Val.Weak/\(ce x.S i).Val.Weak<=6:=λi hi ht=>by
     have:=(hx.wk i hi ht).1;have:=Ub x.a8 (1+(i:Int)+32*(ce x.S i).Gen);omega
    have mk1:∃s2,jP (wC x (x.a8.set n (jd h call))) h 1=wS (wC x (x.a8.set n (jd h call))) s2/\SR s2/\(∀k i,Z7 s2 k i↔Z7 x.S k i)/\(∀i,i<x.S.S.a8.length->Th (ce x.S i)->(ce x.S i).Val.Weak<=(ce s2 i).Val.Weak/\(ce s2 i).Val.Weak<=(ce x.S i).Val.Weak+1) /\
      (h≠0->M0 (sO x.S) h=some (oo (ce x.S (D3 h)).Val,0)/\P3 (sO x.S) h (oo (Vz (ce x.S (D3 h)).Val ((ce x.S (D3 h)).Val.Weak+1)))=some (sO s2,0))/\(h=0->s2=x.S):=by
     unfold jP;by_cases h0:h=0
     .have hno:¬Z7 x.S h (D3 h):=λq=>by have:=q.MN hR;omega
      rw[za hno];exact⟨x.S,rfl,hR,λ_ _=>Iff.rfl,λi _ _=>by omega,λq=>absurd h0 q,λ_=>rfl⟩
     .have hll:=hl.resolve_left h0;have hp:=A0 hR hll;have hb:=wkb _ hp.1 (.inl hp.2.1);rw[zb hp.d];have kn:=lz hR hp.1 (.inl hp.2.1) (d:=1) (by omega);refine⟨_,rfl,kn.sr,kn.ad,λi hi ht=>?_,λ_=>⟨?_,?_⟩,λq=>absurd q h0⟩
      .rw[fz hR hp.1 (.inl hp.2.1)];split;·rename_i e;subst e;dsimp only;omega
       .omega
      .rw[qX x.S (by have:=hR.len;omega) hh,SP hR hp];rfl
      .rw[Nd x.S hR.len hh,BS hR hp.d];rfl
    obtain⟨s2,m1,m2,m3,m4,m5,m6⟩:=mk1;have hold:sj x n<=9223372036854775807:=by
     by_cases q:sj x n=0
     .omega
     .obtain⟨p,hp⟩:=(hx.sh.cl n hnl).2.2.2.1 (by rw[<-htg];exact q);have:=hp.MN hR;rw[htg];omega
    have hun:Z7 s2 (sj x n) (D3 (sj x n))->1<=(ce s2 (D3 (sj x n))).Val.Weak/\(ce s2 (D3 (sj x n))).Val.Weak<=1000:=λq=>by
     have q':=(m3 _ _).1 q;have r:=q'.MN hR;have:=(hx.wk _ q'.1 q'.2.1).1;have hp:0<Cr x.a8 x.a8[n].Target:=rA hnl (by rw[<-htg];omega);rw[<-htg,q'.2.2] at hp;have:=m4 _ q'.1 q'.2.1;have:=wkb _ q'.1 q'.2.1;omega
    have u1:=Ea (x:=wS (wC x (x.a8.set n (jd h call))) s2) m2 hold hun;have u2:=JC (x:=wS (wC x (x.a8.set n (jd h call))) s2) m2 hold hun;have hwb:Z7 x.S h (D3 h) -> -1000<=(ce x.S (D3 h)).Val.Weak+1/\(ce x.S (D3 h)).Val.Weak+1<=1000:=λq=>by
     have:=wkb _ q.1 q.2.1;omega
    have mm:=yK (x:=wC x (x.a8.set n (jd h call))) (d:=1) hR hh hwb;constructor
    .dsimp only;rw[show cv ⟨x.S,x.Roots,x.a8.set n (jd h call),x.T,x.Q⟩ h 1=_ from mm,Yx,m1,<-htg,u1,Yx];unfold dP;rw[m1]
    .unfold dP;rw[m1];dsimp only;by_cases h0:h=0
     .rw[za (by simpa using h0),<-htg];rw[m6 h0] at u2 |-;rw[show cC ⟨(hO x).S,(hO x).Roots,(x.a8.set n (jd h call)).map qz,(hO x).T,(hO x).Q⟩ (sj x n)=_ from u2,Yx]
     .obtain⟨g1,g2⟩:=m5 h0;have hp:=A0 hR (hl.resolve_left h0);have hb:=wkb _ hp.1 (.inl hp.2.1);rw[zb (by simpa using h0),show (hO x).S=sO x.S from rfl,g1,Yx];have e:z8 ((oo (ce x.S (D3 h)).Val).Weak+1)=(ce x.S (D3 h)).Val.Weak+1:=by
       show z8 ((ce x.S (D3 h)).Val.Weak+1)=_;rw[F7 (by omega) (by omega)]
      dsimp only;rw[e];rw[show P3 (sO x.S) h ⟨(oo (ce x.S (D3 h)).Val).Serial,(oo (ce x.S (D3 h)).Val).Strong,(ce x.S (D3 h)).Val.Weak+1,(oo (ce x.S (D3 h)).Val).Prog,(oo (ce x.S (D3 h)).Val).Started,(oo (ce x.S (D3 h)).Val).Fields⟩=_ from g2,Yx,<-htg];dsimp only;rw[show cC ⟨sO s2,(hO x).Roots,(x.a8.set n (jd h call)).map qz,(hO x).T,(hO x).Q⟩ (sj x n)=_ from u2,Yx]
   .left;rw[zK hl];refine⟨3,by decide,?_,?_⟩ <;> rw[zb (by rfl)]
section
variable{x:Hp}(hx:O2 x)(hS:∀k∈lv x.S,(ob x.S k).Strong<=9223372036854775807)
include hx hS
end
theorem GQ{α:Type}{l:List α}{i:Nat}(h:i<l.length)(d:α):l.getD i d=l[i]:=by
 rw[zf,zc h];rfl
def Yl(a b:l7):Prop:=a.Kind=b.Kind/\a.At=b.At
instance(a b:l7):Decidable (Yl a b):=by unfold Yl;infer_instance
section
variable{x:Hp}(hR:SR x.S)
include hR
omit hR in
theorem KI:Rn x.S x.T (pk x)↔cg x []:=by
 constructor
 .intro h k hk hlt;have:=h k hk hlt;unfold Jr inr at this;rw[zb hk] at this;rw[R3];unfold pj;omega
 .intro h k hk hlt;have:=h k hk hlt;rw[R3] at this;unfold pj at this;unfold Jr inr;rw[zb hk];omega
end
section
variable{x:Hp}(hx:O2 x)(hB:HB x)
include hx hB
end
def SL(x:Hp):Prop:=∀k∈lv x.S,(ob x.S k).Strong<=9223372036854775807
theorem SB.sl{x:Hp}(hR:SR x.S)(h:SB x.S):SL x:=λk hk=>JA hR h k hk
theorem We{x:Hp}(hx:O2 x)(hS:SL x):HB x:=by
 have hR:=hx.sh.sr;have bd:∀v,v=0\/v∈lv x.S->v<=9223372036854775807:=λv q=>by
  rcases q with q | q
  .omega
  .have:=I1 hR q;omega
 refine⟨WX.2 λi hi=>?_,VY.2 λi hi v hv=>?_,λv hv=>bd v (hx.sh.rt v hv),λc hc=>?_,λp hp=>?_,λt ht=>?_⟩
 .by_cases t:Th (ce x.S i)
  .rcases t with t | t
   .have q:At x.S (1+(i:Int)+32*(ce x.S i).Gen) i:=⟨hi,t,rfl⟩;have:=hS _ ((fF hR).2 ⟨i,q⟩);rwa [Q0 hR q] at this
   .have:=((hx.wk i hi (.inr t)).2 t).2.2;omega
  .have:=(hR.no i hi t).2.1;simp only[oo] at this;omega
 .by_cases t:Th (ce x.S i)
  .rcases t with t | t
   .have q:At x.S (1+(i:Int)+32*(ce x.S i).Gen) i:=⟨hi,t,rfl⟩;have hm:=(fF hR).2 ⟨i,q⟩;exact bd v (hx.sh.fl _ hm v (by rw[Q0 hR q];exact hv))
   .rw[((hx.wk i hi (.inr t)).2 t).2.1] at hv;cases hv
  .have:=(hR.no i hi t).2.2.2.2.2;simp only[oo] at this;rw[zG this] at hv;cases hv
 .obtain⟨i,hi,rfl⟩:=zbd hc;by_cases e:x.a8[i].Target=0
  .omega
  .obtain⟨p,hp⟩:=(hx.sh.cl i hi).2.2.2.1 e;have:=hp.MN hR;omega
 .obtain⟨i,hi,rfl⟩:=zbd hp;have e:pt x.T i=x.T[i]:=by
   unfold pt;rw[zf,zc hi];rfl
  by_cases s1:(pt x.T i).State=1
  .obtain⟨a,b⟩:=hx.sh.pr (pt x.T i).Key (pt x.T i).Val ⟨i,⟨hi,s1,rfl⟩,rfl⟩;rw[e] at a b;exact⟨bd _ (.inr a),bd _ (.inr b)⟩
  .obtain⟨a,b⟩:=(hx.sh.hr.st i hi).2 s1;rw[e] at a b;omega
 .obtain⟨_,_,q | q⟩:=hx.sh.tk t ht;·exact bd _ (.inr q.2.1)
  .omega
theorem Pu(c:Int):W5 c<=12:=by unfold W5;split <;> (try split) <;> omega
theorem Pf{c:Int}(h:c<=9223372036854775807):jE c<=9223372036854775807:=by unfold jE;split <;> (try split) <;> omega
theorem SL.of{x y:Hp}(h:SL x)(hl:lv y.S=lv x.S)(hs:∀k∈lv x.S,(ob y.S k).Strong=(ob x.S k).Strong):SL y:=λk hk=>by
 rw[hl] at hk;rw[hs k hk];exact h k hk
theorem SL.st{x:Hp}(h:SL x)(hR:SR x.S)(v:Int){f:Int->Int}(hf:∀c,0<=c->0<=f c)(hb:∀c,c<=9223372036854775807->f c<=9223372036854775807):SL (sf x v f):=λk hk=>by
 rw[(G3 hR v hf).lv] at hk;rw[tO hR v hf hk];split;·exact hb _ (h k hk)
 .exact h k hk
theorem SL.C5{x:Hp}(h:SL x)(hR:SR x.S)(v:Int):SL (C5 x v):=h.st hR v (λc=>D7) λc _=>by have:=Pu c;omega
theorem SL.Xq{x:Hp}(h:SL x)(hR:SR x.S)(v:Int):SL (R6 x v):=h.st hR v (λc=>P1) λc hc=>Pf hc
theorem FJ{x:Hp}(hR:SR x.S)(v:Int):SR (R6 x v).S:=(G3 hR v λc=>P1).sr
theorem kf{x:Hp}(hR:SR x.S)(h:SL x)(r:Nat)(v:Int):SL (H5 x r v):=by
 unfold H5;exact SL.Xq (x:=wR (C5 x v) (x.Roots.set r v)) (h.C5 hR v) (hZ hR v) _
theorem IG{x:Hp}(hR:SR x.S)(hS:SL x){h:Int}(hh:h∈lv x.S)(k:Nat)(v:Int):SL (bS x h k v):=by
 have xV:=G3 hR v (f:=W5) λc=>D7;have hR1:SR (C5 x v).S:=xV.sr;have hl1:h∈lv (C5 x v).S:=by rw[show lv (C5 x v).S=lv x.S from xV.lv];exact hh
 have hof:(ob (C5 x v).S h).Fields=(ob x.S h).Fields:=by
  obtain⟨m,e⟩:=xV.ob h (by have:=I1 hR hh;omega);show (ob (sf x v W5).S h).Fields=_;rw[e]
 have ok:=J3 hR1 hl1;have ho:xK (C5 x v).S (oB (ob (C5 x v).S h) ((ob x.S h).Fields.set k v)):=⟨ok.s1,ok.s2,ok.st,ok.wk,ok.p1,ok.p2,by have:=ok.fl;rw[hof] at this;simpa using this⟩;have sr2:=bx (o:=oB (ob (C5 x v).S h) ((ob x.S h).Fields.set k v)) hR1 hl1 rfl ho;unfold bS;refine SL.Xq (x:=wS (C5 x v) (cK (C5 x v).S h (oB (ob (C5 x v).S h) ((ob x.S h).Fields.set k v)))) ?_ sr2 _;refine (hS.C5 hR v).of (fD hR1 hl1 rfl ho) λj hj=>?_;dsimp only;rw[en (o:=oB (ob (C5 x v).S h) ((ob x.S h).Fields.set k v)) hR1 hl1 rfl ho (by have:=I1 hR1 hj;omega)];split;·rename_i e;rw[e]
 .rfl
theorem Mn{x:Hp}(hR:SR x.S)(hS:SL x)(v:Int)(t:Tb)(old:Int):SL (jS x v t old):=by
 unfold jS;exact SL.Xq (x:=wT (C5 x v) t) (hS.C5 hR v) (hZ hR v) _
theorem TX{x:Hp}(hR:SR x.S)(hS:SL x)(h:Int){d:Int}(hd:Z7 x.S h (D3 h)->0<=(ce x.S (D3 h)).Val.Weak+d):SL (jP x h d):=by
 unfold jP;split
 .rename_i q;exact hS.of (lz hR q.1 q.2.1 (hd q)).lv λk hk=>lA hR q.1 q.2.1 (hd q) hk
 .exact hS
theorem Ie{x:Hp}(hR:SR x.S)(hS:SL x)(h:Int)(hd:Z7 x.S h (D3 h)->1<=(ce x.S (D3 h)).Val.Weak):SL (nY x h):=by
 unfold nY;split
 .rename_i q;have hd:=hd q;have kn:=lz (d:=-1) hR q.1 q.2.1 (by omega);have s1:SL (wS x (oH x.S (D3 h) (-1))):=hS.of kn.lv λk hk=>lA hR q.1 q.2.1 (by omega) hk;split
  .rename_i c;have hi1:D3 h<(oH x.S (D3 h) (-1)).S.a8.length:=by rw[kn.len];exact q.1
   have hce:ce (oH x.S (D3 h) (-1)) (D3 h)=⟨(ce x.S (D3 h)).State,(ce x.S (D3 h)).Gen,Vz (ce x.S (D3 h)).Val ((ce x.S (D3 h)).Val.Weak + -1)⟩:=by
    rw[fz hR q.1 q.2.1,zb rfl]
   have h2:(ce (oH x.S (D3 h) (-1)) (D3 h)).State=2:=by rw[hce];exact c.1
   exact s1.of (AW kn.sr hi1 h2) λk hk=>by
    dsimp only;rw[AX kn.sr hi1 h2 hk]
  .exact s1
 .exact hS
theorem Nz{x:Hp}(hx:O2 x)(hS:SL x){n:Nat}(hn:n<6)(h call:Int):SL (dP x n h call):=by
 have hR:=hx.sh.sr;have hnl:n<x.a8.length:=by have:=hx.sh.c6;omega
 have ok:∀k i,Z7 x.S k i->0<=(ce x.S i).Val.Weak:=λk i q=>(hR.ok i q.1 q.2.1).wk;have tw:∀i,Z7 x.S (sj x n) i->1<=(ce x.S i).Val.Weak:=λi q=>by
  have htg:sj x n=x.a8[n].Target:=by
   unfold sj;rw[zf,zc hnl];rfl
  have r:=q.MN hR;have p:=rA hnl (by rw[<-htg];omega);rw[<-htg,q.2.2] at p;have:=(hx.wk i q.1 q.2.1).1;omega
 unfold dP;have s1:SL (jP (wC x (x.a8.set n (jd h call))) h 1):=TX (x:=wC x (x.a8.set n (jd h call))) hR hS h λq=>by
  have:=ok _ _ q;dsimp only;omega
 by_cases q:Z7 x.S h (D3 h)
 .have e:jP (wC x (x.a8.set n (jd h call))) h 1=wS (wC x (x.a8.set n (jd h call))) (oH x.S (D3 h) 1):=by
   unfold jP;rw[zb q]
  have hd:=ok _ _ q;have kn:=lz (d:=1) hR q.1 q.2.1 (by omega);rw[e] at s1 |-;refine Ie kn.sr s1 _ λq2=>?_;dsimp only at q2 |-;have q3:=(kn.ad _ _).1 q2;have:=tw _ q3;rw[fz hR q.1 q.2.1];split
  .rename_i e2;rw[e2] at this;show 1<=(ce x.S (D3 h)).Val.Weak+1;omega
  .exact this
 .have e:jP (wC x (x.a8.set n (jd h call))) h 1=wC x (x.a8.set n (jd h call)):=by
   unfold jP;rw[za q]
  rw[e] at s1 |-;exact Ie (x:=wC x (x.a8.set n (jd h call))) hR s1 _ λq2=>tw _ q2
section
variable{x:Hp}(hx:O2 x)(hS:SL x)
include hx hS
end
def Ro(x:Hp):Prop:=Sm x.S/\x.Roots.length<=20/\x.a8.length<=20/\x.T.length<=20/\x.Q.L.length<=60
instance(x:Hp):Decidable (Ro x):=by unfold Ro;infer_instance
def Li:Hp:=⟨⟨⟨[],0⟩,0⟩,[],[],[],⟨[],0⟩⟩
theorem xp(x:Hp)(h:Int)(f:Int->Int):(sf x h f).Roots=x.Roots/\(sf x h f).a8=x.a8/\(sf x h f).T=x.T/\(sf x h f).Q=x.Q:=by
 unfold sf;split <;> exact⟨rfl,rfl,rfl,rfl⟩
theorem hU(x:Hp)(r:Nat)(h:Int):(H5 x r h).Roots=x.Roots.set r h/\(H5 x r h).a8=x.a8/\(H5 x r h).T=x.T/\(H5 x r h).Q=x.Q:=by
 obtain⟨a,b,c,d⟩:=xp (wR (C5 x h) (x.Roots.set r h)) (x.Roots.getD r 0) jE;obtain⟨a',b',c',d'⟩:=xp x h W5;exact⟨a,b.trans b',c.trans c',d.trans d'⟩
section
variable{x:Hp}(hB:HB x)
include hB
end
abbrev ID(o:o9):o9:=⟨o.Serial,0,o.Weak,o.Prog,o.Started,[]⟩
def JI(s:a7)(i:Nat):b7:=
 if (ce s i).Val.Weak=0 then (if (ce s i).Gen=s.S.Last then ⟨3,(ce s i).Gen,z0⟩ else ⟨0,(ce s i).Gen+1,z0⟩) else ⟨2,(ce s i).Gen,ID (ce s i).Val⟩
def AU(s:a7)(d:Int):a7:=G5 s (D3 d) (JI s (D3 d))
def lh(s:a7)(ds:List Int):a7:=ds.foldl AU s
theorem Tw(s:a7)(i:Nat):(JI s i).State≠1:=by
 unfold JI;split;·split <;> simp
 .simp
theorem Fy{s:a7}(hR:SR s){a b:Int}(ha:a∈lv s)(hb:b∈lv s)(h:a≠b):D3 a≠D3 b:=λe=>by
 have h1:=A0 hR ha;have h2:=A0 hR hb;rw[e] at h1;exact h (h1.2.2.trans h2.2.2.symm)
section
variable{s:a7}(hR:SR s){d:Int}(hd:d∈lv s)
include hR hd
theorem Fb:SR (AU s d):=by
 have q:=A0 hR hd;have hc:=hR.cell _ q.1;have ho:=hR.ok _ q.1 (.inl q.2.1);have no:Ih (oo z0):=⟨rfl,rfl,rfl,rfl,rfl,rfl⟩;unfold AU JI;split
 .split;·exact hR.G5 q.1 ⟨by simp,by simp,hc.2.2.1,hc.2.2.2⟩ (λ_=>no) (λq=>absurd q (by unfold Th;simp))
  .refine hR.G5 q.1 ⟨by simp,by simp,?_,?_⟩ (λ_=>no) (λq=>absurd q (by unfold Th;simp));·show 0<=(ce s (D3 d)).Gen+1;omega
   .show (ce s (D3 d)).Gen+1<=s.S.Last;omega
 .exact hR.G5 q.1 ⟨by simp,by simp,hc.2.2.1,hc.2.2.2⟩ (λq=>absurd (.inr rfl) q) (λ_=>⟨⟨ho.s1,ho.s2,q9 _,ho.wk,ho.p1,ho.p2,t8 _⟩,.inl q.2.1,rfl⟩)
theorem Lb(j:Nat):ce (AU s d) j=if j=D3 d then JI s (D3 d) else ce s j:=L2 (A0 hR hd).1 _ j
theorem Tu:lv (AU s d)=(lv s).filter λh=>decide (h≠d):=by
 have hS:=Fb hR hd;unfold AU at hS |-;have hc:=Tw s (D3 d);rw[Hd hR (A0 hR hd).1 hc hS];refine za8 λh hh=>zbh.2 ⟨λq e=>q (by rw[e]),λq=>Fy hR hh hd q⟩
theorem Tv{k:Int}(hk:k∈lv s)(hne:k≠d):ob (AU s d) k=ob s k:=by
 have hS:=Fb hR hd;unfold AU at hS |-;exact Hl hR (A0 hR hd).1 hS hk (Fy hR hk hd hne)
end
structure Gn (s s':a7) (ds:List Int):Prop where
 sr:SR s'
 len:s'.S.a8.length=s.S.a8.length
 last:s'.S.Last=s.S.Last
 T5:s'.Serial=s.Serial
 lv:lv s'=(lv s).filter λh=>decide (h∉ds)
 ob:∀k∈Sh.lv s,k∉ds->ob s' k=ob s k
 ce:∀j,ce s' j=if j∈ds.map D3 then JI s j else ce s j
theorem cZ:∀(ds:List Int) {s:a7} (hR:SR s),ds.Nodup->(∀d∈ds,d∈lv s)->Gn s (lh s ds) ds
 | [],s,hR,_,_=>⟨hR,rfl,rfl,rfl,(zbc.2 (λa _=>by simp)).symm,λ_ _ _=>rfl,λj=>by simp[lh]⟩
 | d::ds,s,hR,hn,hm=>by
  rw[zaq] at hn;have hd:=hm d (zi ..);have hlv:=Tu hR hd;have hm':∀e∈ds,e∈lv (AU s d):=λe he=>by
   rw[hlv,zy,zF];exact⟨hm e (zt _ he),λq=>hn.1 (q▸he)⟩
  have ih:=cZ ds (Fb hR hd) hn.2 hm';refine⟨ih.sr,ih.len.trans (Z6 ..),ih.last,ih.T5,?_,λk hk hne=>?_,λj=>?_⟩
  .show lv (lh (AU s d) ds)=_;rw[ih.lv,hlv,List.filter_filter];refine za8 λh hh=>?_;rw[zbm];simp only[zk,zF,zJ,not_or];exact⟨λq=>⟨q.2,q.1⟩,λq=>⟨q.2,q.1⟩⟩
  .show ob (lh (AU s d) ds) k=_;rw[zJ,not_or] at hne;rw[ih.ob k (by rw[hlv,zy,zF];exact⟨hk,hne.1⟩) hne.2,Tv hR hd hk hne.1]
  .show ce (lh (AU s d) ds) j=_;have hg:∀e∈ds,D3 e≠D3 d:=λe he=>Fy hR (hm e (zt _ he)) hd λq=>hn.1 (q▸he);rw[ih.ce];by_cases h1:j∈ds.map D3
   .obtain⟨e,he,rfl⟩:=zI.1 h1;rw[zb h1,zb (by rw[ww];exact zt _ h1)];unfold JI;rw[Lb hR hd,za (hg e he)];rfl
   .rw[za h1,Lb hR hd,ww];by_cases h2:j=D3 d
    .subst h2;rw[zb rfl,zb (zi ..)]
    .rw[za h2,za];rw[zJ];exact λq=>q.elim h2 h1
theorem Af{α:Type}(p:α->Bool)(f:α->Nat):∀l:List α,(l.map f).sum=((l.filter p).map f).sum+((l.filter λx => !p x).map f).sum
 | []=>rfl
 | x::l=>by
  rw[ww,zb5,Af p f l,n9,n9];cases p x <;> simp <;> omega
theorem DX(f:Int->List Int)(y:Int):∀l:List Int,aE (l.flatMap f) y=(l.map λx=>aE (f x) y).sum
 | []=>R3 y
 | x::l=>by rw[za7,K9,DX f y l,ww,zb5]
theorem Gn.jt{s s':a7}{ds:List Int}(hR:SR s)(hn:ds.Nodup)(hm:∀d∈ds,d∈Sh.lv s)(g:Gn s s' ds)(y:Int):jt s' y+aE (ds.flatMap (outs s)) y=jt s y:=by
 unfold Sh.jt;rw[g.lv,Af (λh=>decide (h∉ds)) (λx=>aE (outs s x) y) (Sh.lv s),DX];have h1:((Sh.lv s).filter λh=>decide (h∉ds)).map (λx=>aE (outs s' x) y)=((Sh.lv s).filter λh=>decide (h∉ds)).map λx=>aE (outs s x) y:=zP λx hx=>by
  rw[zy,zF] at hx;unfold Sh.outs;rw[g.ob x hx.1 hx.2]
 have h2:((Sh.lv s).filter λx => !decide (x∉ds)).Perm ds:=by
  rw[List.perm_ext_iff_of_nodup ((ru (y4.2 hR)).filter _) hn];intro a;rw[zy];simp only[decide_not,Bool.not_not,zF];exact⟨λq=>q.2,λq=>⟨hm a q,q⟩⟩
 rw[h1,(h2.map λx=>aE (outs s x) y).sum_nat]
theorem Dj{L:List l7}(hd:L.Pairwise λa b=>¬(a.Kind=b.Kind/\a.At=b.At))(k:Int):((L.filter (·.Kind==k)).map (·.At)).Nodup:=by
 unfold List.Nodup;rw[List.pairwise_map];refine (hd.filter _).imp_of_mem λ{a b} ha hb h e=>?_;rw[zy,wf] at ha hb;exact h ⟨ha.2.trans hb.2.symm,e⟩
theorem xq{L:List l7}{m:List Int}(hd:L.Pairwise λa b=>¬(a.Kind=b.Kind/\a.At=b.At))(h:∀t∈L,(t.Kind=1/\t.At∈m)\/(t.Kind=2/\0<=t.At/\t.At<=5)):L.length<=m.length+6:=by
 have h1:L.length=(L.filter (·.Kind==1)).length+(L.filter (·.Kind==2)).length:=by
  rw[qQ (λt:l7=>t.Kind==1) L];congr 2;refine za8 λt ht=>?_;rcases h t ht with q | q
  .simp[q.1]
  .simp[q.1]
 have h2:=gO (Dj hd 1) (m:=m) λa ha=>by
  obtain⟨t,ht,rfl⟩:=zI.1 ha;rw[zy,wf] at ht;rcases h t ht.1 with q | q
  .exact q.2
  .omega
 have h3:=gO (Dj hd 2) (m:=[0,1,2,3,4,5]) λa ha=>by
  obtain⟨t,ht,rfl⟩:=zI.1 ha;rw[zy,wf] at ht;rcases h t ht.1 with q | q
  .omega
  .simp only[zJ,zb0,or_false];omega
 rw[wt] at h2 h3;simp only[zl,zW] at h3;omega
theorem je{q:TQ}{w:Int}:JG q w=true↔∃t∈q.L,t.Kind=2/\t.At=w:=by
 unfold JG;rw[List.any_eq_true];simp
theorem rz{q:TQ}{h:Int}:h∈xS q↔∃t∈q.L,t.Kind=1/\t.At=h:=by
 unfold xS;rw[zI];simp only[zy,wf];exact⟨λ⟨t,⟨a,b⟩,c⟩=>⟨t,a,b,c⟩,λ⟨t,a,b,c⟩=>⟨t,⟨a,b⟩,c⟩⟩
abbrev cz:j5:=⟨0,false,0⟩
def fQ(ds:List Int)(c:j5):Bool:=c.Intact&&c.Target != 0&&decide (c.Target∈ds)
def mX(ds:List Int)(c:j5):j5:=if fQ ds c then ⟨c.Target,false,c.Call⟩ else c
def tS(l:List j5)(ds:List Int):List j5:=l.map (mX ds)
def cls(l:List j5)(ds:List Int):List Nat:=(List.range l.length).filter λw=>fQ ds (l.getD w cz)&&decide (0<=(l.getD w cz).Call)
def px(l:List j5)(ds:List Int):List l7:=(cls l ds).map λ(w:Nat)=>⟨2,(w:Int),(l.getD w cz).Call⟩
theorem AA(ds:List Int)(c:j5):(mX ds c).Target=c.Target/\(mX ds c).Call=c.Call/\((mX ds c).Intact=true↔c.Intact=true/\fQ ds c=false):=by
 unfold mX;cases h:fQ ds c
 .rw[za (by simp)];simp
 .rw[zb rfl];simp
theorem PK(l:List j5)(ds:List Int)(h:Int):Cr (tS l ds) h=Cr l h:=by
 unfold Cr tS;rw[List.countP_map];congr 1;funext c
 simp only[Function.comp_apply,(AA ds c).1]
theorem fT{l:List j5}{ds:List Int}{t:l7}:t∈px l ds↔∃w,∃hw:w<l.length,t=⟨2,(w:Int),l[w].Call⟩/\fQ ds l[w]=true/\0<=l[w].Call:=by
 unfold px cls;rw[zI];constructor
 .rintro⟨w,hw,rfl⟩;rw[zy,zcc] at hw;obtain⟨h1,h2⟩:=hw;have e:l.getD w cz=l[w]:=by rw[zf,zc h1];rfl
  rw[e] at h2 |-;rw[zk,zF] at h2;exact⟨w,h1,rfl,h2.1,h2.2⟩
 .rintro⟨w,hw,rfl,h2,h3⟩;have e:l.getD w cz=l[w]:=by rw[zf,zc hw];rfl
  refine⟨w,?_,by rw[e]⟩;rw[zy,zcc,e,zk,zF];exact⟨hw,h2,h3⟩
theorem yt(l:List j5)(ds:List Int):(px l ds).Pairwise λa b=>¬(a.Kind=b.Kind/\a.At=b.At):=by
 unfold px cls;rw[List.pairwise_map];refine (zbv _ (List.nodup_range (n:=l.length))).imp λ{a b} h=>?_;rintro⟨_,e⟩;dsimp only at e;omega
def iv(x:Hp)(ds:List Int)(t:Tb):Hp:=⟨lh x.S ds,x.Roots,tS x.a8 ds,t,⟨x.Q.L++px x.a8 ds,x.Q.Cap⟩⟩
theorem wg(q:TQ)(l:List l7)(c:Int)(h:∀t∈l,t.Kind≠1):xS ⟨q.L++l,c⟩=xS q:=by
 unfold xS;dsimp only;rw[zan];have:l.filter (λt=>t.Kind==1) = []:=by
  rw[List.filter_eq_nil_iff];intro t ht;simpa using h t ht
 rw[this,p0]
theorem Iv{x:Hp}(hx:O2 x){ds:List Int}(hn:ds.Nodup)(hm:∀d∈ds,d∈lv x.S)
  (ho:∀d∈ds,d∉pk x)(hf:∀h∈lv x.S,h∉ds->∀v∈(ob x.S h).Fields,v∉ds)(hp:∀k v,Has x.T k v->k∉ds->v∉ds)
  {t:Tb}{vals:List Int}(ht:HR t)(h1:∀k v,Has t k v↔k∉ds/\Has x.T k v)(h2:∀y,own t y+aE vals y=own x.T y) :
  mH (iv x ds t)/\Wk (iv x ds t)/\cg (iv x ds t) (ds.flatMap (outs x.S)++vals):=by
 have hS:=hx.sh;have hR:=hS.sr;have g:=cZ ds hR hn hm;have hlv:∀h,h∈lv (lh x.S ds)↔h∈lv x.S/\h∉ds:=λh=>by rw[g.lv,zy,zF]
 have hlen:(lv x.S).length<=24:=M5 (y4.2 hR);have hcl:∀w (hw:w<x.a8.length),fQ ds x.a8[w]=true->x.a8[w].Intact=true:=λw hw q=>by
  unfold fQ at q;rw[zk,zk] at q;exact q.1.1
 have htd:(x.Q.L++px x.a8 ds).Pairwise λa b=>¬(a.Kind=b.Kind/\a.At=b.At):=by
  rw[za4];refine⟨hS.td,yt ..,λa ha b hb q=>?_⟩;obtain⟨w,hw,rfl,hh,_⟩:=fT.1 hb;have:=((hS.cl w hw).2.2.2.2 (hcl w hw hh)).2;rw[zbb] at this;exact this (je.2 ⟨a,ha,q.1,q.2⟩)
 have htk:∀t∈x.Q.L++px x.a8 ds,0<=t.Prog/\t.Prog<=5/\((t.Kind=1/\t.At∈lv (lh x.S ds)/\(ob (lh x.S ds) t.At).Started=true)\/(t.Kind=2/\0<=t.At/\t.At<=5)):=λt htt=>by
  rcases zw.1 htt with q | q
  .obtain⟨a,b,c⟩:=hS.tk t q;refine⟨a,b,?_⟩;rcases c with ⟨c1,c2,c3⟩ | c
   .have hnd:t.At∉ds:=λhd=>ho _ hd (zw.2 (.inr (rz.2 ⟨t,q,c1,rfl⟩)));exact .inl ⟨c1,(hlv _).2 ⟨c2,hnd⟩,by rw[g.ob _ c2 hnd];exact c3⟩
   .exact .inr c
  .obtain⟨w,hw,rfl,hh,hc⟩:=fT.1 q;have c6:=hS.c6;have:=(hS.cl w hw).2.1;exact⟨hc,this,.inr ⟨rfl,by dsimp only;omega,by dsimp only;omega⟩⟩
 have hq30:(x.Q.L++px x.a8 ds).length<=30:=by
  have:=xq (m:=lv x.S) htd λt htt=>by
   rcases (htk t htt).2.2 with q | q
   .exact .inl ⟨q.1,((hlv _).1 q.2.1).1⟩
   .exact .inr q
  omega
 have hwts:∀i:Nat,JG x.Q i=false->(∀hi:i<x.a8.length,fQ ds x.a8[i]=false)->JG ⟨x.Q.L++px x.a8 ds,x.Q.Cap⟩ i=false:=λi q1 q2=>by
  rw[zbb] at q1 |-;intro q;obtain⟨t,ht,a,b⟩:=je.1 q;rcases zw.1 ht with c | c
  .exact q1 (je.2 ⟨t,c,a,b⟩)
  .obtain⟨w,hw,rfl,hh,_⟩:=fT.1 c;dsimp only at b;have:w=i:=by omega
   subst this;rw[q2 hw] at hh;cases hh
 refine⟨⟨g.sr,ht,hS.r6,?_,hS.cap,hq30,htk,htd,λh hh=>?_,λh hh v hv=>?_,λk v hkv=>?_,λi hi=>?_⟩,λi hi hti=>?_,λh hh hlt=>?_⟩
 .unfold iv tS;rw[wt];exact hS.c6
 .rcases hS.rt h hh with q | q
  .exact .inl q
  .have h0:h≠0:=λe=>ph hR (e▸q);exact .inr ((hlv h).2 ⟨q,λhd=>ho h hd (zw.2 (.inl (lC.2 ⟨hh,h0⟩)))⟩)
 .obtain⟨a,b⟩:=(hlv h).1 hh;have hv':v∈(ob x.S h).Fields:=by
   have e:=g.ob h a b;unfold iv at hv;rwa [e] at hv
  rcases hS.fl h a v hv' with q | q
  .exact .inl q
  .exact .inr ((hlv v).2 ⟨q,hf h a b v hv'⟩)
 .obtain⟨a,b⟩:=(h1 k v).1 hkv;obtain⟨c,d⟩:=hS.pr k v b;exact⟨(hlv k).2 ⟨c,a⟩,(hlv v).2 ⟨d,hp k v b a⟩⟩
 .have hi':i<x.a8.length:=by
   unfold iv tS at hi;simpa using hi
  have e:(iv x ds t).a8[i]=mX ds x.a8[i]:=ut _;obtain⟨a1,a2,a3,a4,a5⟩:=hS.cl i hi';obtain⟨b1,b2,b3⟩:=AA ds x.a8[i];rw[e,b1,b2];refine⟨a1,a2,λq=>?_,λq=>?_,λq=>?_⟩
  .rw[zbb];intro q2;rw[a3 q] at b3;exact absurd (b3.1 q2).1 (by decide)
  .obtain⟨p,hp1,hp2,hp3⟩:=a4 q;refine⟨p,by show p<(lh x.S ds).S.a8.length;rw[g.len];exact hp1,?_⟩;show Th (ce (lh x.S ds) p)/\_=1+(p:Int)+32*(ce (lh x.S ds) p).Gen;rw[g.ce];split
   .have hw:=(hx.wk p hp1 hp2).1;have:=rA hi' q;rw[hp3] at this;unfold JI;rw[za (by omega)];exact⟨.inr rfl,hp3⟩
   .exact⟨hp2,hp3⟩
  .obtain⟨c1,c2⟩:=b3.1 q;obtain⟨d1,d2⟩:=a5 c1;have h0:x.a8[i].Target≠0:=λe=>ph hR (e▸d1);refine⟨(hlv _).2 ⟨d1,λhd=>?_⟩,hwts i d2 λ_=>c2⟩;have:fQ ds x.a8[i]=true:=by
    unfold fQ;simp[c1,h0,hd]
   rw[this] at c2;cases c2
 .have hi':i<x.S.S.a8.length:=by
   have:=g.len;have hi:i<(lh x.S ds).S.a8.length:=hi;omega
  show (ce (lh x.S ds) i).Val.Weak=(Cr (tS x.a8 ds) (1+(i:Int)+32*(ce (lh x.S ds) i).Gen):Int)/\((ce (lh x.S ds) i).State=2->_);have hti':Th (ce (lh x.S ds) i):=hti;show _/\((ce (lh x.S ds) i).State=2->1<=(ce (lh x.S ds) i).Val.Weak/\(ce (lh x.S ds) i).Val.Fields = []/\(ce (lh x.S ds) i).Val.Strong=0);rw[PK];rw[g.ce] at hti' |-;split
  .rename_i q;rw[zb q] at hti';obtain⟨d,hd,rfl⟩:=zI.1 q;have hp:=A0 hR (hm d hd);have hw:=(hx.wk _ hi' (.inl hp.2.1)).1;unfold JI at hti' |-;split at hti'
   .exfalso;unfold Th at hti';split at hti' <;> simp at hti'
   .rename_i q2;rw[za q2];have:=(hR.ok _ hi' (.inl hp.2.1)).wk;exact⟨hw,λ_=>⟨by dsimp only;omega,rfl,rfl⟩⟩
  .rename_i q;rw[za q] at hti';exact hx.wk i hi' hti'
 .obtain⟨a,b⟩:=(hlv h).1 hh;have e:=g.ob h a b;have e':ob (iv x ds t).S h=ob x.S h:=e;rw[e'] at hlt |-;have hf:=hx.fair h a hlt;rw[R3] at hf;rw[hf];have i1:=g.jt hR hn hm h;have i2:=h2 h;have i3:xS ⟨x.Q.L++px x.a8 ds,x.Q.Cap⟩=xS x.Q:=wg _ _ _ λt ht=>by
   obtain⟨w,_,rfl,_⟩:=fT.1 ht;simp
  unfold pj pk iv;dsimp only;rw[i3,K9 (ds.flatMap (outs x.S)),K9];omega
theorem xc:∀(l:List Int) {x:Hp},mH x->Wk x->cg x l->O2 (l.foldl R6 x)
 | [],x,h1,h2,h3=>⟨h1,h2,h3⟩
 | v::l,x,h1,h2,h3=>xc l (h1.st v λc=>P1) (h2.st h1.sr v λc=>P1) (rV h1.sr h3)
abbrev dO(o:o9):o9:=⟨o.Serial,o.Strong,o.Weak,o.Prog,true,o.Fields⟩
abbrev ue(x:Hp)(h:Int):l7:=⟨1,h,(ob x.S h).Prog⟩
noncomputable def gR(x:Hp)(h:Int):Hp:=C5 ⟨cK x.S h (dO (ob x.S h)),x.Roots,x.a8,x.T,⟨x.Q.L ++ [ue x h],x.Q.Cap⟩⟩ h
theorem tx{x:Hp}(hx:O2 x){h:Int}(hh:h∈lv x.S)(hp:0<=(ob x.S h).Prog)(hs:(ob x.S h).Started=false):O2 (gR x h):=by
 have hS:=hx.sh;have hR:=hS.sr;have oko:=J3 hR hh;have ho:xK x.S (dO (ob x.S h)):=⟨oko.s1,oko.s2,oko.st,oko.wk,oko.p1,oko.p2,oko.fl⟩;have r1:=bx (o:=dO (ob x.S h)) hR hh rfl ho;have l1:=fD (o:=dO (ob x.S h)) hR hh rfl ho;have o1:∀j,j∈lv x.S->ob (cK x.S h (dO (ob x.S h))) j=if j=h then dO (ob x.S h) else ob x.S j:=λj hj=>by
  have:=I1 hR hj;exact en (o:=dO (ob x.S h)) hR hh rfl ho (by omega)
 have hlen:(lv x.S).length<=24:=M5 (y4.2 hR);have s1:mH (wS x (cK x.S h (dO (ob x.S h)))):=hS.of r1 l1 (λk i q=>(FQ (o:=dO (ob x.S h)) hR hh rfl ho).2 q) (λk hk q=>by
  rw[o1 k hk];split;·rfl
  .exact q) λk hk v hv=>by
  rw[o1 k hk] at hv;split at hv;·rename_i e;subst e;exact hS.fl k hk v hv
  .exact hS.fl k hk v hv
 have w1:Wk (wS x (cK x.S h (dO (ob x.S h)))):=λi hi ht=>by
  have R8:=A0 hR hh;have hc:=BR (o:=dO (ob x.S h)) hR hh rfl ho i;dsimp only at hi ht |-;rw[hc] at ht |-;have hi':i<x.S.S.a8.length:=by unfold cK at hi;rwa [N6] at hi
  split at ht
  .rename_i e;subst e;rw[zb rfl];dsimp only;have:=hx.wk _ hi' (.inl R8.2.1);rw[Q0 hR R8];exact⟨this.1,λq=>absurd q (by rw[R8.2.1];decide)⟩
  .rename_i e;rw[za e];exact hx.wk i hi' ht
 have htd:(x.Q.L ++ [ue x h]).Pairwise λa b=>¬(a.Kind=b.Kind/\a.At=b.At):=by
  rw[za4];refine⟨hS.td,by simp,λa ha b hb q=>?_⟩;rw[zH] at hb;subst hb;dsimp only at q;rcases (hS.tk a ha).2.2 with c | c
  .rw[q.2,hs] at c;exact absurd c.2.2 (by decide)
  .omega
 have htk:∀t∈x.Q.L ++ [ue x h],0<=t.Prog/\t.Prog<=5/\((t.Kind=1/\t.At∈lv (cK x.S h (dO (ob x.S h)))/\(ob (cK x.S h (dO (ob x.S h))) t.At).Started=true)\/(t.Kind=2/\0<=t.At/\t.At<=5)):=λt ht=>by
  rcases zw.1 ht with q | q
  .exact s1.tk t q
  .rw[zH] at q;subst q;refine⟨hp,oko.p2,.inl ⟨rfl,by rw[l1];exact hh,?_⟩⟩;dsimp only;rw[o1 h hh,zb rfl]
 have hq30:(x.Q.L ++ [ue x h]).length<=30:=by
  have:=xq (m:=lv x.S) htd λt ht=>by
   rcases (htk t ht).2.2 with q | q
   .exact .inl ⟨q.1,by rw[<-l1];exact q.2.1⟩
   .exact .inr q
  omega
 have s2:mH ⟨cK x.S h (dO (ob x.S h)),x.Roots,x.a8,x.T,⟨x.Q.L ++ [ue x h],x.Q.Cap⟩⟩:=by
  refine⟨s1.sr,s1.hr,s1.r6,s1.c6,s1.cap,hq30,htk,htd,s1.rt,s1.fl,s1.pr,λi hi=>?_⟩;obtain⟨a,b,c,d,e⟩:=s1.cl i hi;refine⟨a,b,c,d,λq=>⟨(e q).1,?_⟩⟩;have:=(e q).2;rw[zbb] at this |-;intro q2;obtain⟨t,ht,k1,k2⟩:=je.1 q2;rcases zw.1 ht with q3 | q3
  .exact this (je.2 ⟨t,q3,k1,k2⟩)
  .rw[zH] at q3;subst q3;dsimp only at k1;omega
 have w2:Wk ⟨cK x.S h (dO (ob x.S h)),x.Roots,x.a8,x.T,⟨x.Q.L ++ [ue x h],x.Q.Cap⟩⟩:=w1;refine⟨s2.st h λc=>D7,w2.st s2.sr h λc=>D7,λk hk hlt=>?_⟩;have hk':k∈lv x.S:=by
  have:lv (gR x h).S=lv x.S:=(G3 s2.sr h λc=>D7).lv.trans l1;rw[<-this];exact hk
 have hst:(ob (gR x h).S k).Strong=if k=h then W5 (ob x.S k).Strong else (ob x.S k).Strong:=by
  have:=tO (x:=⟨cK x.S h (dO (ob x.S h)),x.Roots,x.a8,x.T,⟨x.Q.L ++ [ue x h],x.Q.Cap⟩⟩) s2.sr h (f:=W5) (λc=>D7) (k:=k) (by rw[<-l1] at hk';exact hk');refine zcg this ?_;dsimp only;rw[o1 k hk'];by_cases e:k=h
  .subst e;rw[zb rfl,zb rfl,zb rfl]
  .rw[za e,za e,za e]
 have hnm:pj (gR x h) k=pj x k+if k=h then 1 else 0:=by
  have:=vp (x:=⟨cK x.S h (dO (ob x.S h)),x.Roots,x.a8,x.T,⟨x.Q.L ++ [ue x h],x.Q.Cap⟩⟩) s2.sr h (f:=W5) (λc=>D7) k;refine zcg this ?_;have hi:=GW (o:=dO (ob x.S h)) hR hh rfl ho k;dsimp only at hi;have h0:k≠0:=λe=>ph hR (e▸hk');unfold pj pk xS;dsimp only;rw[zan,zad,K9,K9,K9];have:aE (List.map (·.At) (List.filter (λt:l7=>t.Kind==1) [ue x h])) k=if k=h then 1 else 0:=by
   show aE [h] k=_;rw[G6,R3];by_cases e:k=h
   .rw[zb ⟨e.symm,h0⟩,zb e]
   .rw[za (λq=>e q.1.symm),za e]
  rw[this];omega
 rw[hst] at hlt |-;rw[hnm,R3];have hpos:=(J3 hR hk').st;by_cases e:k=h
 .rw[zb e] at hlt |-;rw[zb e];have:=hx.fair k hk' (by unfold W5 at hlt;split at hlt <;> omega);rw[R3] at this;unfold W5 at hlt |-;split at hlt;·omega
  .rename_i q;rw[za q,za (by omega)];omega
 .rw[za e] at hlt |-;rw[za e];have:=hx.fair k hk' hlt;rw[R3] at this;exact this
noncomputable def zr(x:Hp):List Int:=(lv x.S).filter λh=>(ob x.S h).Strong==0
theorem cd{x:Hp}{h:Int}:h∈zr x↔h∈lv x.S/\(ob x.S h).Strong=0:=by
 unfold zr;rw[zy,wf]
theorem Co{x:Hp}(hx:O2 x){z:Int}(hz:z∈zr x):pj x z=0:=by
 obtain⟨a,b⟩:=cd.1 hz;have:=hx.fair z a (by omega);rw[R3] at this;omega
theorem DY{l:List Int}{h:Int}(h0:h≠0)(e:aE l h=0):h∉l:=λq=>by
 have:=dC.2 ⟨h0,q⟩;omega
theorem Lx{α:Type}(f:α->Nat):∀ {l:List α} {a:α},a∈l->f a<=(l.map f).sum
 | b::l,a,h=>by
  rw[ww,zb5];rcases zJ.1 h with e | e
  .subst e;omega
  .have:=Lx f e;omega
theorem Bd{s:a7}{a y:Int}(ha:a∈lv s):aE (outs s a) y<=jt s y:=Lx (λx=>aE (outs s x) y) ha
theorem Bt{t:Tb}{k v:Int}(h:Has t k v)(h0:v≠0):0<own t v:=zbo.2 ⟨⟨k,v⟩,iU.2 h,by simp[h0]⟩
def mi(t:Tb)(ks:List Int):Tb × List Int:=(Z8 t ks).getD (t,[])
theorem ir{t:Tb}(hT:HR t)(ks:List Int)(hks:ks.length<=1000):Z8 t ks=some (mi t ks)/\HR (mi t ks).1/\(mi t ks).2.length<=ks.length/\iY (t.map R8) ks=some ((mi t ks).1.map R8,(mi t ks).2) /\
  (∀k v,Has (mi t ks).1 k v↔k∉ks/\Has t k v)/\∀y,own (mi t ks).1 y+aE (mi t ks).2 y=own t y:=by
 obtain⟨a,had,h1,h2,h3,h4,h5,h6,h7,h8,h9⟩:=Ei hT ks hks;have:mi t ks=(a,had):=by unfold mi;rw[h1];rfl
 rw[this];exact⟨h1,h2,h4,h5,h6,h9⟩
noncomputable def gg(x:Hp)(ds:List Int):Hp:=(ds.flatMap (outs x.S)++(mi x.T ds).2).foldl R6 (iv x ds (mi x.T ds).1)
theorem gY:∀(l:List Int) {x:Hp},SR x.S->ux x.S (l.foldl R6 x).S/\l.foldl R6 x=wS x (l.foldl R6 x).S
 | [],x,h=>⟨ux.refl h,rfl⟩
 | v::l,x,h=>by
  have k1:=G3 h v (f:=jE) λc=>P1;obtain⟨k2,e⟩:=gY l (x:=R6 x v) k1.sr;refine⟨k1.trans k2,?_⟩;show l.foldl R6 (R6 x v)=wS x (l.foldl R6 (R6 x v)).S;rw[e,UN x v]
theorem yq{x:Hp}(hx:O2 x){ds:List Int}(hn:ds.Nodup)(hm:∀d∈ds,d∈lv x.S)
  (ho:∀d∈ds,d∉pk x)(hf:∀h∈lv x.S,h∉ds->∀v∈(ob x.S h).Fields,v∉ds)(hp:∀k v,Has x.T k v->k∉ds->v∉ds):O2 (gg x ds):=by
 have hl:ds.length<=24:=un (gO hn hm) (M5 (y4.2 hx.sh.sr));obtain⟨_,w1,_,_,w2,w3⟩:=ir hx.sh.hr ds (by omega);obtain⟨a,b,c⟩:=Iv hx hn hm ho hf hp w1 w2 w3;exact xc _ a b c
theorem Ez{x:Hp}(hR:SR x.S){ds:List Int}(hn:ds.Nodup)(hm:∀d∈ds,d∈lv x.S):lv (gg x ds).S=(lv x.S).filter λh=>decide (h∉ds):=by
 have g:=cZ ds hR hn hm;exact (gY (ds.flatMap (outs x.S)++(mi x.T ds).2) (x:=iv x ds (mi x.T ds).1) g.sr).1.lv.trans g.lv
theorem EA{x:Hp}(hR:SR x.S){ds:List Int}(hn:ds.Nodup)(hm:∀d∈ds,d∈lv x.S){k:Int}(hk:k∈lv x.S)(hd:k∉ds):∃n,ob (gg x ds).S k=Ad (ob x.S k) n:=by
 have g:=cZ ds hR hn hm;have hr:=I1 hR hk;obtain⟨n,e⟩:=(gY (ds.flatMap (outs x.S)++(mi x.T ds).2) (x:=iv x ds (mi x.T ds).1) g.sr).1.ob k (by omega);refine⟨n,?_⟩;have e':ob (gg x ds).S k=_:=e;have g':ob (iv x ds (mi x.T ds).1).S k=ob x.S k:=g.ob k hk hd;rw[e',g']
theorem qI{x:Hp}(hR:SR x.S){ds:List Int}(hn:ds.Nodup)(hm:∀d∈ds,d∈lv x.S):(gg x ds).Roots=x.Roots/\(gg x ds).a8=tS x.a8 ds/\(gg x ds).T=(mi x.T ds).1/\(gg x ds).Q=⟨x.Q.L++px x.a8 ds,x.Q.Cap⟩:=by
 have g:=cZ ds hR hn hm;have e:=(gY (ds.flatMap (outs x.S)++(mi x.T ds).2) (x:=iv x ds (mi x.T ds).1) g.sr).2;have e':gg x ds=wS (iv x ds (mi x.T ds).1) (gg x ds).S:=e;rw[e'];exact⟨rfl,rfl,rfl,rfl⟩
theorem xF{x:Hp}(hx:O2 x){z:Int}(hz:z∈zr x):O2 (gg x [z]):=by
 obtain⟨a,b⟩:=cd.1 hz;have h0:z≠0:=λe=>ph hx.sh.sr (e▸a);have hn:=Co hx hz;unfold pj at hn;refine yq hx (by simp) (by simpa using a) (λd hd=>?_) (λh hh hne v hv q=>?_) (λk v hkv _ q=>?_)
 .rw[zH] at hd;subst hd;exact DY h0 (by omega)
 .rw[zH] at q;subst q;have:=Bd (y:=v) hh;have h1:=dC.2 ⟨h0,show v∈outs x.S h from lC.2 ⟨hv,h0⟩⟩;omega
 .rw[zH] at q;subst q;have:=Bt hkv h0;omega
def due(o:o9):Bool:=decide (0<=o.Prog) && !o.Started
noncomputable def HY(x:Hp):Hp:=match zr x with
 | []=>x
 | z::_=>if due (ob x.S z) then gR x z else gg x [z]
noncomputable def uJ:Nat->Hp->Hp
 | 0,x=>x
 | n+1,x=>uJ n (HY x)
theorem dA(n:Nat)(x:Hp):uJ (n+1) x=HY (uJ n x):=by
 induction n generalizing x with
 | zero=>rfl
 | succ n ih=>exact ih (HY x)
theorem oY{x:Hp}(h:zr x = []):HY x=x:=by unfold HY;rw[h]
theorem ij{x:Hp}{z:Int}{l:List Int}(h:zr x=z::l):HY x=if due (ob x.S z) then gR x z else gg x [z]:=by unfold HY;rw[h]
theorem Jz{x:Hp}(hx:O2 x):O2 (HY x):=by
 cases h:zr x with
 | nil=>rw[oY h];exact hx
 | cons z l=>
  have hz:z∈zr x:=by rw[h];exact zi ..
  rw[ij h];split
  .rename_i q;unfold due at q;rw[zk,zF,zbk] at q;exact tx hx (cd.1 hz).1 q.1 q.2
  .exact xF hx hz
theorem bk{x:Hp}(hx:O2 x)(n:Nat):O2 (uJ n x):=by
 induction n with
 | zero=>exact hx
 | succ n ih=>rw[dA];exact Jz ih
section
variable{x:Hp}(hR:SR x.S){h:Int}(hh:h∈lv x.S)
include hR hh
theorem lH:ux (cK x.S h (dO (ob x.S h))) (gR x h).S/\(gR x h).Roots=x.Roots/\(gR x h).a8=x.a8/\(gR x h).T=x.T/\(gR x h).Q=⟨x.Q.L ++ [ue x h],x.Q.Cap⟩:=by
 have oko:=J3 hR hh;have r1:=bx (o:=dO (ob x.S h)) hR hh rfl ⟨oko.s1,oko.s2,oko.st,oko.wk,oko.p1,oko.p2,oko.fl⟩;refine⟨G3 (x:=⟨cK x.S h (dO (ob x.S h)),x.Roots,x.a8,x.T,⟨x.Q.L ++ [ue x h],x.Q.Cap⟩⟩) r1 h λc=>D7,?_⟩;have e:gR x h=wS ⟨cK x.S h (dO (ob x.S h)),x.Roots,x.a8,x.T,⟨x.Q.L ++ [ue x h],x.Q.Cap⟩⟩ (gR x h).S:=tH _ h;rw[e];exact⟨rfl,rfl,rfl,rfl⟩
theorem Bv:lv (gR x h).S=lv x.S:=by
 have oko:=J3 hR hh;exact (lH hR hh).1.lv.trans (fD (o:=dO (ob x.S h)) hR hh rfl ⟨oko.s1,oko.s2,oko.st,oko.wk,oko.p1,oko.p2,oko.fl⟩)
theorem wV{k:Int}(hk:k∈lv x.S):∃n,ob (gR x h).S k=Ad (if k=h then dO (ob x.S h) else ob x.S k) n:=by
 have oko:=J3 hR hh;have hr:=I1 hR hk;obtain⟨n,e⟩:=(lH hR hh).1.ob k (by omega);refine⟨n,?_⟩;rw[e,en (o:=dO (ob x.S h)) hR hh rfl ⟨oko.s1,oko.s2,oko.st,oko.wk,oko.p1,oko.p2,oko.fl⟩ (by omega)]
end
noncomputable def mu(x:Hp):Nat:=(lv x.S).length+((lv x.S).filter λh => !(ob x.S h).Started).length
theorem Ww{x:Hp}(hR:SR x.S):mu x<=48:=by
 have h1:(lv x.S).length<=24:=M5 (y4.2 hR);have h2:((lv x.S).filter λh => !(ob x.S h).Started).length<=(lv x.S).length:=zZ ..;unfold mu;omega
theorem Vc{x:Hp}(hx:O2 x)(h:zr x ≠ []):mu (HY x)<mu x:=by
 cases hz:zr x with
 | nil=>exact absurd hz h
 | cons z l=>
  have hzm:z∈zr x:=by rw[hz];exact zi ..
  have hzl:=(cd.1 hzm).1;have hR:=hx.sh.sr;rw[ij hz];split
  .rename_i q;unfold due at q;rw[zk,zF,zbk] at q;unfold mu;rw[Bv hR hzl];have:=filter_lt (p:=λh => !(ob (gR x z).S h).Started) (q:=λh => !(ob x.S h).Started) (l:=lv x.S) (λk hk hp=>by
    obtain⟨n,e⟩:=wV hR hzl hk;rw[e] at hp;split at hp;·exact absurd hp (by simp)
    .exact hp) z hzl (by rw[q.2];rfl) (by
    obtain⟨n,e⟩:=wV hR hzl hzl;rw[e,zb rfl];rfl)
   omega
  .unfold mu;have hn:([z]:List Int).Nodup:=by simp
   have hm:∀d ∈ [z],d∈lv x.S:=by simpa using hzl
   rw[Ez hR hn hm,List.filter_filter];have h1:((lv x.S).filter λh=>decide (h ∉ [z])).length<((lv x.S).filter λ_=>true).length:=filter_lt (λ_ _ _=>rfl) z hzl rfl (by simp);rw[zbc.2 (λ_ _=>rfl)] at h1;have h2:((lv x.S).filter λa=>(!(ob (gg x [z]).S a).Started)&&decide (a ∉ [z])).length<=((lv x.S).filter λh => !(ob x.S h).Started).length:=by
    rw[<-zbn,<-zbn];refine List.countP_mono_left λa ha hp=>?_;rw[zk,zF] at hp;obtain⟨n,e⟩:=EA hR hn hm ha hp.2;rw[e] at hp;exact hp.1
   omega
noncomputable def dw(x:Hp):Hp:=uJ 100 x
theorem tL{x:Hp}(hx:O2 x):∃n,n<=48/\zr (uJ n x) = []/\(∀j,j<n->zr (uJ j x) ≠ [])/\dw x=uJ n x:=by
 have key:∀m,(∃n,n<=m/\zr (uJ n x) = [])\/mu (uJ m x)+m<=mu x:=by
  intro m;induction m with
  | zero=>exact .inr (zq _)
  | succ m ih=>
   rcases ih with ⟨n,h1,h2⟩ | ih;·exact .inl ⟨n,by omega,h2⟩
   .by_cases q:zr (uJ m x) = []
    .exact .inl ⟨m,by omega,q⟩
    .have:=Vc (bk hx m) q;rw[<-dA] at this;exact .inr (by omega)
 have h48:=Ww hx.sh.sr;have hex:∃n,n<=48/\zr (uJ n x) = []:=by
  rcases key 49 with ⟨n,h1,h2⟩ | h
  .rcases zB n 49 with q | q
   .exact⟨n,by omega,h2⟩
   .rcases key 48 with h | h
    .exact h
    .have:mu (uJ 48 x)=0:=by omega
     refine⟨48,zq _,?_⟩;have hl:(lv (uJ 48 x).S).length=0:=by unfold mu at this;omega
     unfold zr;rw[zG hl];rfl
  .omega
 obtain⟨n,⟨hn,hz⟩,hmin⟩:=bR hex;refine⟨n,hn,hz,λj hj q=>?_,?_⟩
 .have:=hmin j ⟨by omega,q⟩;omega
 .have:∀k,uJ (n+k) x=uJ n x:=λk=>by
   induction k with
   | zero=>rfl
   | succ k ih=>rw[show n+(k+1)=(n+k)+1 by omega,dA,ih,oY hz]
  have h100:=this (100-n);rw[show n+(100-n)=100 by omega] at h100;exact h100
theorem ep{x:Hp}(hx:O2 x):O2 (dw x):=bk hx 100
theorem Aa{x:Hp}(hx:O2 x):zr (dw x) = []:=by
 obtain⟨n,_,h,_,e⟩:=tL hx;rw[e];exact h
theorem DN{x:Hp}(h:zr x = []):dw x=x:=by
 have:∀n,uJ n x=x:=λn=>by
  induction n with
  | zero=>rfl
  | succ n ih=>rw[dA,ih,oY h]
 exact this 100
section
variable{x:Hp}(hR:SR x.S)
include hR
theorem gM{h:Int}(hh:h∈lv x.S):h<=9223372036854775807:=by have:=I1 hR hh;omega
theorem sV{h:Int}(hh:h∈lv x.S):y3 x.S h=some (ob x.S h,0):=by
 obtain⟨e,h1,h2⟩:=aI (y4.2 hR) (gM hR hh);rw[h1,h2.2 hh]
theorem qY{h:Int}(hh:h∈lv x.S):M0 (sO x.S) h=some (oo (ob x.S h),0):=by
 have:=hR.len;rw[qX x.S (by omega) (gM hR hh),sV hR hh];rfl
theorem zero_eq:cH x=some (zr x):=by
 have h24:(lv x.S).length<=24:=M5 (y4.2 hR);unfold cH;simp only[jn];rw[dd (y4.2 hR),Yx];rw[O4 (lv x.S) (λb h=>if (ob x.S h).Strong==0 then b ++ [h] else b) id (λk b=>b.length<=k) (by omega) (zq _) (λk hk b hb=>?_) (λb hb=>by simp)]
 .rw[foldl_filter];rfl
 .simp only[zQ,hk,zV,zU,u6 hk,Yx,sV hR (zj hk)];by_cases c:((ob x.S (lv x.S)[k]).Strong==0)=true
  .rw[zb c,zb c,C3 (by omega) (by simp;omega),Yx,p8];exact⟨rfl,by simp;omega⟩
  .rw[za c,za c,p8];exact⟨rfl,by omega⟩
theorem NL:rM (hO x)=some (zr x):=by
 have h24:(lv x.S).length<=24:=M5 (y4.2 hR);unfold rM;simp only[jn];rw[show (hO x).S=sO x.S from rfl,TO (y4.2 hR),Yx];rw[O4 (lv x.S) (λb h=>if (ob x.S h).Strong==0 then b ++ [h] else b) id (λk b=>b.length<=k) (by omega) (zq _) (λk hk b hb=>?_) (λb hb=>by simp)]
 .rw[foldl_filter];rfl
 .simp only[zQ,hk,zV,zU,u6 hk,Yx,qY hR (zj hk)];by_cases c:((ob x.S (lv x.S)[k]).Strong==0)=true
  .rw[show ((oo (ob x.S (lv x.S)[k])).Strong==0)=true from c,zb rfl,zb c,C3 (by omega) (by simp;omega),Yx,p8];exact⟨rfl,by simp;omega⟩
  .rw[za (show ¬((oo (ob x.S (lv x.S)[k])).Strong==0)=true from c),za c,p8];exact⟨rfl,by omega⟩
end
noncomputable def UF(x:Hp)(h:Int):Hp:=if h∈lv x.S/\due (ob x.S h)=true then gR x h else x
theorem BW{s:a7}(hR:SR s){h:Int}(hl:h∈lv s):xK s (dO (ob s h)):=by
 have oko:=J3 hR hl;exact⟨oko.s1,oko.s2,oko.st,oko.wk,oko.p1,oko.p2,oko.fl⟩
theorem Hs(o:o9):M7 o=some (due o):=by
 unfold M7 due;congr 1
section
variable{x:Hp}(hx:O2 x)(hS:SL x){h:Int}(hh:h<=9223372036854775807)
include hx hS hh
theorem wW(hl:h∈lv x.S)(hd:due (ob x.S h)=true):x.Q.L.length<30:=by
 have hb:0<=(ob x.S h).Prog/\(ob x.S h).Started=false:=by
  unfold due at hd;rw[zk,zF,zbk] at hd;exact hd
 have:=(tx hx hl hb.1 hb.2).sh.q30;rw[(lH hx.sh.sr hl).2.2.2.2] at this;simp at this;omega
theorem yU:U7 x h=some (UF x h):=by
 have hR:=hx.sh.sr;have cap:=hx.sh.cap;obtain⟨e,h1,h2⟩:=aI (y4.2 hR) hh;unfold U7 UF;rw[h1,Yx];by_cases hl:h∈lv x.S
 .have e0:e=0:=h2.2 hl;subst e0;have e1:(((0:Int) != 0)==false)=true:=rfl;simp only[e1,jR,Hs,Yx];cases hd:due (ob x.S h);·rw[zb (by simp),za (by simp)]
  .rw[za (by simp),zb ⟨hl,rfl⟩];have hr:=wW hx hS hh hl hd;have hok:=BW hR hl;have l1:=fD (o:=dO (ob x.S h)) hR hl rfl hok;have r1:=bx (o:=dO (ob x.S h)) hR hl rfl hok;rw[rZ (o:=dO (ob x.S h)) hR hl rfl hok,Yx,RZ _ (by omega),Yx];have et:Nn x.Q ⟨1,h,(ob x.S h).Prog⟩=(⟨x.Q.L ++ [ue x h],x.Q.Cap⟩,0):=by
    unfold Nn;rw[za (by omega)]
   rw[et];dsimp only;rw[ke r1 hh (λk hk=>?_),Yx];·rfl
   .dsimp only at hk |-;rw[l1] at hk;rw[en (o:=dO (ob x.S h)) hR hl rfl hok (gM hR hk)];split;·exact hS h hl
    .exact hS k hk
 .have e0:e≠0:=λq=>hl (h2.1 q);have e1:(e != 0)=true:=by simpa using e0
  rw[e1];simp only[show ((true==false)=true)=False by simp,z6,zY,Yx,Bool.true_or,zU];rw[za (λq=>hl q.1)]
theorem Rw:rL (hO x) h=some (decide (h∈lv x.S)&&due (ob x.S h)):=by
 have hR:=hx.sh.sr;have hlen:=hR.len;obtain⟨e,h1,h2⟩:=aI (y4.2 hR) hh;unfold rL;rw[show (hO x).S=sO x.S from rfl,qX x.S (by omega) hh,h1,wd,Yx,vc hR hh,Yx];unfold due oo;rw[Bool.and_assoc]
theorem MC:lM (hO x) h=some (hO (UF x h)):=by
 have hR:=hx.sh.sr;have cap:=hx.sh.cap;unfold lM UF;rw[Rw hx hS hh,Yx];by_cases hl:h∈lv x.S
 .rw[zA hl,zak];cases hd:due (ob x.S h);·rw[zb (by simp),za (by simp)]
  .rw[za (by simp),zb ⟨hl,rfl⟩];have hr:=wW hx hS hh hl hd;have hok:=BW hR hl;have l1:=fD (o:=dO (ob x.S h)) hR hl rfl hok;have r1:=bx (o:=dO (ob x.S h)) hR hl rfl hok;rw[show (hO x).S=sO x.S from rfl,qY hR hl,Yx];have es:P3 (sO x.S) h (oo (dO (ob x.S h)))=some (sO (cK x.S h (dO (ob x.S h))),0):=sa hR hl rfl hok;have es':P3 (sO x.S) h ⟨(oo (ob x.S h)).Serial,(oo (ob x.S h)).Strong,(oo (ob x.S h)).Weak,(oo (ob x.S h)).Prog,true,(oo (ob x.S h)).Fields⟩=some (sO (cK x.S h (dO (ob x.S h))),0):=es;rw[es',Yx];have ea:lK (hO x).Q ⟨1,h,(oo (ob x.S h)).Prog⟩=some (Cf ⟨x.Q.L ++ [ue x h],x.Q.Cap⟩,0):=by
    have:=RT (q:=x.Q) (ue x h) (by omega);have et:Nn x.Q (ue x h)=(⟨x.Q.L ++ [ue x h],x.Q.Cap⟩,0):=by
     unfold Nn;rw[za (by omega)]
    rw[et] at this;exact this
   rw[ea,Yx];have er:=rU (x:=⟨cK x.S h (dO (ob x.S h)),x.Roots,x.a8,x.T,⟨x.Q.L ++ [ue x h],x.Q.Cap⟩⟩) r1 hh (λk hk=>by
    dsimp only at hk |-;rw[l1] at hk;rw[en (o:=dO (ob x.S h)) hR hl rfl hok (gM hR hk)];split;·exact hS h hl
    .exact hS k hk)
   have er':bZ ⟨sO (cK x.S h (dO (ob x.S h))),(hO x).Roots,(hO x).a8,(hO x).T,Cf ⟨x.Q.L ++ [ue x h],x.Q.Cap⟩⟩ h=_:=er;dsimp only;rw[er',Yx];rfl
 .rw[zK hl,zb3];rw[zb (by simp),za (λq=>hl q.1)]
end
noncomputable def Wo(x:Hp)(l:List Int):List Int:=l.foldl (λb h=>if h∈lv x.S/\h∉b then b ++ [h] else b) []
theorem Dc{x:Hp}{z:Int}(hz:z∈lv x.S):Wo x [z] = [z]:=by
 unfold Wo;simp[hz]
section
variable{x:Hp}(hR:SR x.S)
include hR
theorem rp(l:List Int)(hl:l.length<=1000)(hb:∀h∈l,h<=9223372036854775807):X0 x l=some (Wo x l):=by
 unfold X0;simp only[jn];have key:=O4 (f:=λ((s20,s21,s22):Int × (List (Int × Bool)) × (List Int))=>
   if (decide (s20<(l.length:Int))) then
     (ix l s20).bind λv32=>
     (y3 x.S v32).bind λv33=>
     if ((v33.2==0)==true) then
      if (!((y9 s21 v32).getD (false:Bool))) then
       (app 8 s22 [v32]).bind λv34=>
       some (Sum.inl (z8 (s20+1),(o0 s21 v32 true),v34))
      else
      some (.inl (z8 (s20+1),s21,s22))
     else
     some (.inl (z8 (s20+1),s21,s22))
   else
   some (.inr s22)) l (λ(b:List (Int × Bool) × List Int) h=>if h∈lv x.S/\h∉b.2 then (o0 b.1 h true,b.2 ++ [h]) else b) (λb=>b.2) (λk b=>b.2.length<=k/\∀d,(y9 b.1 d).getD false=decide (d∈b.2)) (b0:=([],[])) (by omega) ⟨zq _,λd=>by simp[y9]⟩ (λk hk b hb2=>?_) (λb hb2=>by simp)
 .rw[key,Yx];congr 1;have:∀(l:List Int) (m:List (Int × Bool)) (b:List Int),(l.foldl (λ(b:List (Int × Bool) × List Int) h=>if h∈lv x.S/\h∉b.2 then (o0 b.1 h true,b.2 ++ [h]) else b) (m,b)).2=l.foldl (λb h=>if h∈lv x.S/\h∉b then b ++ [h] else b) b:=λl=>by
   induction l with
   | nil=>intro m b;rfl
   | cons h l ih=>
    intro m b;rw[zap,zap];by_cases c:h∈lv x.S/\h∉b
    .rw[zb c,zb c,ih]
    .rw[za c,za c,ih]
  exact this l [] []
 .obtain⟨hb1,hb3⟩:=hb2;obtain⟨e,h1,h2⟩:=aI (y4.2 hR) (hb _ (zj hk));simp only[zQ,hk,zV,zU,u6 hk,Yx,h1,hb3];by_cases hl:l[k]∈lv x.S
  .have e0:e=0:=h2.2 hl;subst e0;by_cases hm:l[k]∈b.2
   .rw[zb (by rfl),za (by simp[hm]),za (λq=>q.2 hm),p8];exact⟨rfl,by omega,hb3⟩
   .rw[zb (by rfl),zb (by simp[hm]),zb ⟨hl,hm⟩,C3 (by omega) (by simp;omega),Yx,p8];refine⟨rfl,by simp;omega,λd=>?_⟩;rw[oG];by_cases q:d=l[k]
    .rw[zb q];simp[q]
    .rw[za q,hb3];simp[q]
  .have e0:e≠0:=λq=>hl (h2.1 q);rw[za (by simp[e0]),za (λq=>hl q.1),p8];exact⟨rfl,by omega,hb3⟩
theorem Tg(l:List Int)(hl:l.length<=1000)(hb:∀h∈l,h<=9223372036854775807):rP (hO x) l=some (Wo x l):=by
 unfold rP;simp only[jn];rw[O4 l (λb h=>if h∈lv x.S/\h∉b then b ++ [h] else b) id (λk b=>b.length<=k) (by omega) (zq _) (λk hk b hb2=>?_) (λb hb=>by simp)];·rfl
 .simp only[zQ,hk,zV,zU,u6 hk,Yx,vc hR (hb _ (zj hk))];by_cases hl:l[k]∈lv x.S
  .have h0:l[k]≠0:=λe=>ph hR (e▸hl);rw[zA hl];simp only[md,jR,Ld b _ (by omega:b.length<=1000000),Yx,zak];by_cases hm:l[k]∈b
   .rw[za (by simp[hm,h0]),za (λq=>q.2 hm),p8];exact⟨rfl,by omega⟩
   .rw[zb (by simp[hm]),zb ⟨hl,hm⟩,C3 (by omega) (by simp;omega),Yx,p8];exact⟨rfl,by simp;omega⟩
  .rw[zK hl];simp only[show ((false==true)=true)=False by simp,z6,zY,Yx,zb3];rw[za (by simp),za (λq=>hl q.1),p8];exact⟨rfl,by omega⟩
end
theorem vX{α β:Type}(p:α->Bool)(f:α->β):∀(xs:List α) (acc:List β),xs.foldl (λb x=>if p x then b ++ [f x] else b) acc=acc++(xs.filter p).map f
 | [],acc=>by simp
 | x::xs,acc=>by
  rw[zap,vX p f xs];by_cases h:p x=true
  .simp[h]
  .simp[h]
theorem getD_at{α:Type}{l:List α}{i:Nat}(h:i<l.length)(d:α):l.getD i d=l[i]:=by
 rw[zf,zc h];rfl
theorem Iy(c:j5)(ds:List Int)(hl:ds.length<=1000):bn c ds=some (fQ ds c):=by
 unfold bn fQ;rw[contains_eq _ _ (by omega)];cases (c.Intact&&c.Target != 0);·rfl
 .simp[z6]
def mP(l:List j5)(ds:List Int):List Nat:=(List.range l.length).filter λw=>fQ ds (l.getD w cz)
theorem Uu{l:List j5}{ds:List Int}{w:Nat}(h:w∈mP l ds):w<l.length:=by
 unfold mP at h;rw[zy,zcc] at h;exact h.1
theorem Qn(l:List j5)(ds:List Int):(mP l ds).length<=l.length:=by
 unfold mP;exact un (zZ ..) (by simp)
theorem Uv(l:List j5)(ds:List Int):(mP l ds).Nodup:=zbv _ List.nodup_range
theorem OY(l:List j5)(ds:List Int):cls l ds=(mP l ds).filter λw=>decide (0<=(l.getD w cz).Call):=by
 unfold cls mP;rw[List.filter_filter];refine za8 λw _=>?_;rw[Bool.and_comm]
def lu(l:List Nat):List Int:=l.map λ(n:Nat)=>(n:Int)
theorem Bf{l:List Nat}{k:Nat}(h:k<l.length):ix (lu l) (k:Int)=some ((l[k]:Nat):Int):=by
 unfold lu;rw[fR,u6 h];rfl
theorem jK(l:List Nat):(lu l).length=l.length:=wt ..
theorem Jf(l:List j5)(ds:List Int)(hl:l.length<=1000)(hd:ds.length<=1000):J6 l ds=some (lu (mP l ds)):=by
 unfold J6;simp only[jn];have hr:(List.range l.length).length=l.length:=by simp
 have key:=O4 (List.range l.length) (λ(b:List Int) (w:Nat)=>if fQ ds (l.getD w cz) then b ++ [(w:Int)] else b) id (λk b=>b.length<=k) (b0:=[]) (f:=λ((s17,s18):Int × (List Int))=>
   if (decide (s17<(l.length:Int))) then
     (ix l s17).bind λv26=>
     (bn v26 ds).bind λv27=>
     if v27 then
      (app 8 s18 [s17]).bind λv28=>
      some (Sum.inl (z8 (s17+1),v28))
     else
     some (.inl (z8 (s17+1),s18))
   else
   some (.inr s18)) (by omega) (zq _) (λk hk b hb=>?_) (λb hb=>by simp)
 .rw[key,vX];rfl
 .rw[hr] at hk;simp only[zQ,hk,zV,zU,u6 hk,Yx,Iy _ _ hd,List.getElem_range,getD_at hk];by_cases c:fQ ds l[k]=true
  .rw[zb c,zb c,C3 (by omega) (by simp;omega),Yx,p8];exact⟨rfl,by simp;omega⟩
  .rw[za c,za c,p8];exact⟨rfl,by omega⟩
theorem IB(l:List j5)(hl:l.length<=1000):aV l=some l:=by
 unfold aV;rw[jO (by omega) (by omega),Yx];unfold uB;rw[zb (by simp),Yx];simp
def qK(l:List j5)(K:List Nat):List j5:=(List.range l.length).map λi=>if i∈K then ⟨(l.getD i cz).Target,false,(l.getD i cz).Call⟩ else l.getD i cz
theorem jB(l:List j5)(K:List Nat):(qK l K).length=l.length:=by simp[qK]
theorem qL{l:List j5}{K:List Nat}{i:Nat}(h:i<(qK l K).length):(qK l K)[i]=if i∈K then ⟨(l.getD i cz).Target,false,(l.getD i cz).Call⟩ else l.getD i cz:=by simp[qK]
theorem Kt(l:List j5):qK l []=l:=by
 refine zbi (jB ..) λi h1 h2=>?_;rw[qL,za (by simp),getD_at h2]
theorem IA{l:List j5}{K:List Nat}{w:Nat}(hw:w<l.length):qK l (K ++ [w])=(qK l K).set w ⟨(l.getD w cz).Target,false,(l.getD w cz).Call⟩:=by
 refine zbi (by rw[zae,jB,jB]) λi h1 h2=>?_;rw[qL,zb2];by_cases e:w=i
 .subst e;rw[zb rfl,zb (by simp)]
 .rw[za e,qL];by_cases q:i∈K
  .rw[zb (mt _ q),zb q]
  .rw[za,za q];rw[zw,zH];exact λq2=>q2.elim q λq3=>e q3.symm
theorem Kr(l:List j5)(ds:List Int):qK l (mP l ds)=tS l ds:=by
 refine zbi (by rw[jB];simp[tS]) λi h1 h2=>?_;have hi:i<l.length:=by rw[jB] at h1;exact h1
 have ec:(tS l ds)[i]=mX ds l[i]:=ut _;rw[qL,ec,getD_at hi];unfold mX;by_cases c:fQ ds l[i]=true
 .rw[zb c,zb];unfold mP;rw[zy,zcc,getD_at hi];exact⟨hi,c⟩
 .rw[za c,za];unfold mP;rw[zy,zcc,getD_at hi];exact λq=>c q.2
theorem R9{α:Type}{l:List α}{k:Nat}(h:k<l.length):l.take (k+1)=l.take k ++ [l[k]]:=zu h
theorem Kq(l:List j5)(ds:List Int)(hl:l.length<=1000)(hd:ds.length<=1000):iq l ds=some (tS l ds,lu (cls l ds)):=by
 unfold iq;rw[Jf l ds hl hd,Yx,IB l hl,Yx];simp only[jn,jK];have hp:=Qn l ds;refine Y1 (mP l ds).length (λk (b:List j5 × List Int)=>b.1=qK l ((mP l ds).take k)/\b.2=lu (((mP l ds).take k).filter λw=>decide (0<=(l.getD w cz).Call))) (by omega) ⟨by simp[Kt],by simp[lu]⟩ ?_ ?_
 .rintro k ⟨b1,b2⟩ hk ⟨rfl,rfl⟩;left;have hw:=Uu (zj hk);have hnm:(mP l ds)[k]∉(mP l ds).take k:=λq=>by
   have hn:=Uv l ds;rw[<-zb9 k (mP l ds),zby] at hn;exact hn.2.2 _ q (mP l ds)[k] (by rw[zbe hk];exact zi ..) rfl
  have h1:(mP l ds)[k]<(qK l ((mP l ds).take k)).length:=by rw[jB];exact hw
  have e1:ix (qK l ((mP l ds).take k)) (((mP l ds)[k]:Nat):Int)=some (l.getD (mP l ds)[k] cz):=by rw[u6 h1,qL,za hnm]
  have h2:(mP l ds)[k]<((qK l ((mP l ds).take k)).set (mP l ds)[k] ⟨(l.getD (mP l ds)[k] cz).Target,false,(l.getD (mP l ds)[k] cz).Call⟩).length:=by rw[zae];exact h1
  have e2:ix ((qK l ((mP l ds).take k)).set (mP l ds)[k] ⟨(l.getD (mP l ds)[k] cz).Target,false,(l.getD (mP l ds)[k] cz).Call⟩) (((mP l ds)[k]:Nat):Int)=some ⟨(l.getD (mP l ds)[k] cz).Target,false,(l.getD (mP l ds)[k] cz).Call⟩:=by rw[u6 h2,zca]
  dsimp only;simp only[zQ,hk,zV,zU,Bf hk,Yx,e1,zX,e2];have hle:(lu (((mP l ds).take k).filter λw=>decide (0<=(l.getD w cz).Call))).length<=1000:=by
   rw[jK];exact un (zZ ..) (by simp;omega)
  rw[R9 hk,IA hw,zan];by_cases c:0<=(l.getD (mP l ds)[k] cz).Call
  .rw[zb (zA c),C3 (by omega) (by simp only[zl,zW];omega),Yx,p8];refine⟨_,rfl,rfl,?_⟩;rw[n9,zb (zA c)];simp[lu]
  .rw[za (λq=>c (zba q)),p8];refine⟨_,rfl,rfl,?_⟩;rw[n9,za (λq=>c (zba q))];simp[lu]
 .rintro⟨b1,b2⟩ ⟨rfl,rfl⟩;refine⟨_,za (by simp),?_⟩;dsimp only;rw[zT,Kr,<-OY]
theorem Wf(c:j5)(ds:List Int)(hd:ds.length<=1000):((z6 ((qz c).Intact==true) 0 (jX ds (qz c).Target)).bind λv=>some ((qz c).Intact&&decide (v > 0)))=some (fQ ds c):=by
 unfold fQ qz;dsimp only;cases hI:c.Intact;·rfl
 .simp only[md,jR];rw[xt _ _ (by omega),Yx];congr 1;rw[zak,zak,zbm];simp only[zF,zk,bne_iff_ne];have:=dC (l:=ds) (h:=c.Target);constructor
  .intro q;exact this.1 (by omega)
  .intro q;have:=this.2 q;omega
theorem OX(l:List j5)(ds:List Int)(hl:l.length<=1000)(hd:ds.length<=1000):tB (l.map qz) ds=some ((tS l ds).map qz,lu (cls l ds)):=by
 unfold tB;simp only[jn,wt];refine Y1 l.length (λk (b:List H3 × List Int)=>b.1=((tS l ds).take k).map qz/\b.2=lu ((List.range k).filter λw=>fQ ds (l.getD w cz)&&decide (0<=(l.getD w cz).Call))) (by omega) ⟨by simp,by simp[lu]⟩ ?_ ?_
 .rintro k ⟨b1,b2⟩ hk ⟨rfl,rfl⟩;left;have hk2:k<(tS l ds).length:=by simp[tS];exact hk
  have e1:ix (l.map qz) (k:Int)=some (qz l[k]):=by rw[fR,u6 hk];rfl
  have hle:(lu ((List.range k).filter λw=>fQ ds (l.getD w cz)&&decide (0<=(l.getD w cz).Call))).length<=1000:=by
   rw[jK];exact un (zZ ..) (by simp;omega)
  dsimp only;simp only[zQ,hk,zV,zU,e1,Yx];obtain⟨v,hv,hv2⟩:=C6 (Wf l[k] ds hd);rw[hv,Yx];have hv2:=u8 hv2;rw[hv2,R9 hk2,zad,List.range_succ,zan];have ec:(tS l ds)[k]=mX ds l[k]:=ut _;have lc:(List.map qz (List.take k (tS l ds))).length<=1000:=by simp[tS];omega
  rw[ec];unfold mX;by_cases c:fQ ds l[k]=true
  .rw[zb c,zb c];by_cases c2:0<=l[k].Call
   .rw[zb (by simpa[qz] using c2),C3 (by omega) (by simp only[zl,zW];omega),Yx,C3 (by omega) (by simp only[zl,zW];omega),Yx,p8];refine⟨_,rfl,rfl,?_⟩;simp only[n9,zci,getD_at hk,c,c2,zV,Bool.and_self,zU];simp[lu]
   .rw[za (by simpa[qz] using c2),C3 (by omega) (by simp only[zl,zW];omega),Yx,p8];refine⟨_,rfl,rfl,?_⟩;simp only[n9,zci,getD_at hk,c,c2,zay,Bool.and_false,zm,zY,p0]
  .rw[za c,za c,C3 (by omega) (by simp only[zl,zW];omega),Yx,p8];refine⟨_,rfl,rfl,?_⟩;have c:fQ ds l[k]=false:=by simpa using c
   simp only[n9,zci,getD_at hk,c,zb3,zm,zY,p0]
 .rintro⟨b1,b2⟩ ⟨rfl,rfl⟩;refine⟨_,za (by simp),?_⟩;dsimp only;rw[zao (by simp[tS])];rfl
def xG(x:Hp)(ds:List Int):Hp:=⟨x.S,x.Roots,tS x.a8 ds,x.T,⟨x.Q.L++px x.a8 ds,x.Q.Cap⟩⟩
theorem ez(l:List j5)(ds:List Int):(px l ds).length=(cls l ds).length:=wt ..
theorem Ku{l:List j5}{ds:List Int}{w:Nat}(h:w∈cls l ds):w<l.length:=by
 unfold cls at h;rw[zy,zcc] at h;exact h.1
theorem Kv{l:List j5}{ds:List Int}{k:Nat}(h:k<(px l ds).length):(px l ds)[k]=⟨2,(((cls l ds)[k]'(by rw[<-ez];exact h):Nat):Int),(l.getD ((cls l ds)[k]'(by rw[<-ez];exact h)) cz).Call⟩:=ut _
theorem CD{l:List j5}{ds:List Int}{w:Nat}(h:w<l.length):ix (tS l ds) (w:Int)=some (mX ds l[w]):=by
 unfold tS;rw[fR,u6 h];rfl
section
variable{x:Hp}{ds:List Int}(hc:x.a8.length<=6)(hd:ds.length<=1000)(hq:(x.Q.L++px x.a8 ds).length<=30)(hcap:x.Q.Cap=30)
include hc hd hq hcap
theorem yo{k:Nat}(hk:k<(px x.a8 ds).length):Nn ⟨x.Q.L++(px x.a8 ds).take k,x.Q.Cap⟩ (px x.a8 ds)[k]=(⟨x.Q.L++(px x.a8 ds).take (k+1),x.Q.Cap⟩,0):=by
 rw[zC] at hq;unfold Nn;rw[za (by dsimp only;rw[zC,m7,hcap];omega),R9 hk,pm]
theorem ED:dx x ds=some (xG x ds):=by
 unfold dx;rw[Kq _ _ (by omega) hd,Yx];dsimp only;simp only[jn,jK];have hq2:=hq;rw[zC] at hq2;refine Y1 (cls x.a8 ds).length (λk (q:TQ)=>q=⟨x.Q.L++(px x.a8 ds).take k,x.Q.Cap⟩) (by rw[<-ez];omega) (by simp) ?_ ?_
 .rintro k q hk rfl;left;have hw:=Ku (zj hk);have hk2:k<(px x.a8 ds).length:=by rw[ez];exact hk
  simp only[zQ,hk,zV,zU,Bf hk,Yx,CD hw];have et:(⟨2,(((cls x.a8 ds)[k]:Nat):Int),(mX ds x.a8[(cls x.a8 ds)[k]]).Call⟩:l7)=(px x.a8 ds)[k]:=by
   rw[Kv,(AA ds _).2.1,getD_at hw]
  rw[et,RZ _ (by dsimp only;rw[zC,m7];omega),yo hc hd hq hcap hk2,Yx,p8 (by rw[<-ez] at hk;omega)];exact⟨_,rfl,rfl⟩
 .rintro q rfl;refine⟨_,za (by simp),?_⟩;rw[<-ez,zT];rfl
theorem SM{K:G4->Option o6}:((lp (S:=Int × G4) (E:=G4) (λ((s68,s69):Int × G4)=>
   if (decide (s68<((lu (cls x.a8 ds)).length:Int))) then
    (ix (lu (cls x.a8 ds)) s68).bind λv72=>
    (ix ((tS x.a8 ds).map qz) v72).bind λv73=>
    (lK s69 (⟨2,v72,v73.Call⟩:dq)).bind λv74=>
    some (.inl (z8 (s68+1),v74.1))
   else
   some (.inr s69)) (0,Cf x.Q)).bind K)=K (Cf (xG x ds).Q):=by
 have hq2:=hq;rw[zC] at hq2;have key:=fy (f:=λ((s68,s69):Int × G4)=>
   if (decide (s68<((lu (cls x.a8 ds)).length:Int))) then
    (ix (lu (cls x.a8 ds)) s68).bind λv72=>
    (ix ((tS x.a8 ds).map qz) v72).bind λv73=>
    (lK s69 (⟨2,v72,v73.Call⟩:dq)).bind λv74=>
    some (Sum.inl (z8 (s68+1),v74.1))
   else
   some (.inr s69)) (t0:=Cf x.Q) (cls x.a8 ds).length (λk (q:G4)=>q=Cf ⟨x.Q.L++(px x.a8 ds).take k,x.Q.Cap⟩) (λq=>q=Cf (xG x ds).Q) (by rw[<-ez];omega) (by simp) ?_ ?_
 .obtain⟨e,h1,h2⟩:=key;rw[h1,Yx,h2]
 .rintro k q hk rfl;left;have hw:=Ku (zj hk);have hk2:k<(px x.a8 ds).length:=by rw[ez];exact hk
  have ei:ix ((tS x.a8 ds).map qz) (((cls x.a8 ds)[k]:Nat):Int)=some (qz (mX ds x.a8[(cls x.a8 ds)[k]])):=by rw[fR,CD hw];rfl
  simp only[jK,zQ,hk,zV,zU,Bf hk,Yx,ei];have et:(⟨2,(((cls x.a8 ds)[k]:Nat):Int),(qz (mX ds x.a8[(cls x.a8 ds)[k]])).Call⟩:dq)=QW (px x.a8 ds)[k]:=by
   rw[Kv,getD_at hw];show (⟨2,_,(mX ds x.a8[(cls x.a8 ds)[k]]).Call⟩:dq)=_;rw[(AA ds _).2.1];rfl
  rw[et,RT _ (by dsimp only;rw[zC,m7];omega),yo hc hd hq hcap hk2,Yx,p8 (by rw[<-ez] at hk;omega)];exact⟨_,rfl,rfl⟩
 .rintro q rfl;refine⟨_,za (by rw[jK];simp),?_⟩;rw[<-ez,zT];rfl
end
theorem tK(s:a7)(i:Nat)(c d:b7):G5 (G5 s i c) i d=G5 s i d:=by
 unfold G5;dsimp only;rw[zce]
section
variable{s:a7}(hR:SR s){d:Int}(hd:d∈lv s)
include hR hd
def k1(s:a7)(d:Int):a7:=G5 s (D3 d) ⟨1,(ce s (D3 d)).Gen,ID (ob s d)⟩
def k2(s:a7)(d:Int):a7:=G5 s (D3 d) ⟨2,(ce s (D3 d)).Gen,ID (ob s d)⟩
theorem AI:xK s (ID (ob s d)):=by
 have ho:=J3 hR hd;exact⟨ho.s1,ho.s2,q9 _,ho.wk,ho.p1,ho.p2,t8 _⟩
theorem Fe:cK s d (ID (ob s d))=k1 s d:=by
 have q:=A0 hR hd;unfold cK putAt k1 G5;rw[q.2.1]
theorem RC:At (k1 s d) d (D3 d):=by
 have q:=A0 hR hd;refine⟨by unfold k1;rw[Z6];exact q.1,?_,?_⟩;·unfold k1;rw[L2 q.1,zb rfl]
 .unfold k1;rw[L2 q.1,zb rfl];exact q.2.2
theorem RD:SR (k1 s d):=by rw[<-Fe hR hd];exact bx (o:=ID (ob s d)) hR hd rfl (AI hR hd)
theorem RG:SR (k2 s d):=by
 have q:=A0 hR hd;have hc:=hR.cell _ q.1;unfold k2;refine hR.G5 q.1 ⟨by simp,by simp,hc.2.2.1,hc.2.2.2⟩ (λq=>absurd (.inr rfl) q) (λ_=>⟨AI hR hd,.inl q.2.1,?_⟩);show (ob s d).Serial=_;rw[Q0 hR q]
theorem RE:Z7 (k2 s d) d (D3 d):=by
 have q:=A0 hR hd;refine⟨by unfold k2;rw[Z6];exact q.1,?_,?_⟩;·unfold k2;rw[L2 q.1,zb rfl];exact .inr rfl
 .unfold k2;rw[L2 q.1,zb rfl];exact q.2.2
theorem Pz:V3 (k1 s d).S d=some ((k2 s d).S,0):=by
 have q:=A0 hR hd;have hR1:=RD hR hd;have q1:=RC hR hd;have hr:=I1 hR hd;have hlen:=hR1.len;have hH:pv d:=((qi hR1).2 q1.d).2.1;have hsl:(d-1) % 32=(D3 d:Nat):=((qi hR1).2 q1.d).2.2.1;have hg:(d-1) / 32=(ce s (D3 d)).Gen:=by
  have:=q.2.2;have h24:=hR.len;have:=q.1;omega
 unfold V3 C4;rw[kQ hR1 q1.d,Yx,za (by simp),CV q1.1,Yx,q1.2.1,za (by simp),Yx,za (by simp),gI (by omega),Yx,zb hH,hsl,js (by omega),Yx,zb hH,hg,kE rfl q1.1 hlen,Yx];have e:(ce (k1 s d) (D3 d)).Val=ID (ob s d):=by unfold k1;rw[L2 q.1,zb rfl]
 rw[e];congr 2;show (G5 (k1 s d) (D3 d) _).S=(k2 s d).S;unfold k1 k2;rw[tK]
theorem Ry(hw:(ob s d).Weak=0):yC (k2 s d) (D3 d)=AU s d:=by
 have q:=A0 hR hd;have e:ce (k2 s d) (D3 d)=⟨2,(ce s (D3 d)).Gen,ID (ob s d)⟩:=by unfold k2;rw[L2 q.1,zb rfl]
 unfold yC AU JI;rw[e];rw[Q0 hR q] at hw;rw[zb hw];unfold k2;rw[tK];rfl
theorem RF(hw:(ob s d).Weak≠0):k2 s d=AU s d:=by
 have q:=A0 hR hd;unfold k2 AU JI;rw[Q0 hR q] at hw |-;rw[za hw]
end
theorem IU{x:Hp}(hR:SR x.S){d:Int}(hd:d∈lv x.S):af x d=some (wS x (AU x.S d)):=by
 unfold af;rw[sV hR hd,Yx];have e1:K6 x.S d (⟨(ob x.S d).Serial,0,(ob x.S d).Weak,(ob x.S d).Prog,(ob x.S d).Started,[]⟩:o9)=some (k1 x.S d,0):=by
  rw[<-Fe hR hd];exact rZ (o:=ID (ob x.S d)) hR hd rfl (AI hR hd)
 rw[e1,Yx,Pz hR hd,Yx];by_cases hw:(ob x.S d).Weak=0
 .rw[zb (by simpa using hw),GU (RG hR hd) (RE hR hd),Yx,Ry hR hd hw];rfl
 .rw[za (by simpa using hw)];show some (wS x (k2 x.S d))=_;rw[RF hR hd hw]
theorem TN{s:a7}(hR:SR s){d:Int}(hd:d∈lv s):wY (sO (k1 s d)) d=some (sO (k2 s d)):=by
 have q:=A0 hR hd;have hR1:=RD hR hd;have q1:=RC hR hd;have hlen:=hR1.len;have hr:=I1 hR hd;have hi:=q1.1;have hi2:D3 d<(sO (k1 s d)).a8.length:=by rw[C0];exact hi
 have R8:D3 d<(pl (sO (k1 s d))).a8.length:=by rw[bX];exact hi2
 have hlen2:(sO (k1 s d)).a8.length<=24:=by rw[C0];exact hlen
 unfold wY Dy vi;rw[iW _ (by omega),Yx,sS (k1 s d) (by omega),kQ hR1 q1.d,Yx,za (by simp),Ds hi2,Yx];have hst:(xY (D3 d) (sO (k1 s d)).a8[D3 d]).State=1:=by
  have:=q1.2.1;rw[E9 hi] at this;simpa[xY,sO,cO] using this
 have hgen:(xY (D3 d) (sO (k1 s d)).a8[D3 d]).Gen=(ce s (D3 d)).Gen:=by
  have:(ce (k1 s d) (D3 d)).Gen=(ce s (D3 d)).Gen:=by unfold k1;rw[L2 q.1,zb rfl]
  rw[E9 hi] at this;simpa[xY,sO,cO] using this
 rw[hst,za (by simp),Yx,za (by simp),Yx];dsimp only;rw[Ds hi2,Yx];have w3:∀c:O6,bF (pl (sO (k1 s d))) ((D3 d:Nat):Int) c=some ⟨(pl (sO (k1 s d))).a8.set (D3 d) c,(pl (sO (k1 s d))).Last⟩:=λc=>by
  unfold bF;rw[U9 (by omega) (by rw[bX];omega),Yx,u6 R8,Yx,zX]
 rw[w3,Yx,Yx,xv _ _ (by omega) (by simp[bX]),Yx,hgen];unfold k2;rw[<-tK s (D3 d) ⟨1,(ce s (D3 d)).Gen,ID (ob s d)⟩,HP];show some _=some (⟨(sO (k1 s d)).a8.set (D3 d) _,_,_⟩:y8);congr 1;congr 1;refine zbi (by simp) λk h1 h2=>?_;have hk:k<(k1 s d).S.a8.length:=by simpa[C0] using h1
 have hk2:k<(sO (k1 s d)).a8.length:=by rw[C0];exact hk
 have hk3:k<(pl (sO (k1 s d))).a8.length:=by rw[bX];exact hk2
 simp only[ut,List.getElem_range,zb2];rw[jF R8,getD_at hk2,getD_at hk3];by_cases e:k=D3 d
 .subst e;rw[zb rfl,zb rfl];have e2:(sO (k1 s d)).a8[D3 d].Val=oo (ID (ob s d)):=by
   have:(ce (k1 s d) (D3 d)).Val=ID (ob s d):=by unfold k1;rw[L2 q.1,zb rfl]
   rw[<-this,E9 hi];simp[sO,cO]
  rw[e2];rfl
 .rw[za e,za (zam e)];simp[sO,pl,xY,cO]
theorem Tx{x:Hp}(hR:SR x.S){d:Int}(hd:d∈lv x.S):nE (hO x) d=some (hO (wS x (AU x.S d))):=by
 unfold nE;rw[show (hO x).S=sO x.S from rfl,qY hR hd,Yx];have e1:P3 (sO x.S) d (⟨(oo (ob x.S d)).Serial,0,(oo (ob x.S d)).Weak,(oo (ob x.S d)).Prog,(oo (ob x.S d)).Started,[]⟩:R1)=some (sO (k1 x.S d),0):=by
  rw[<-Fe hR hd];exact sa (o:=ID (ob x.S d)) hR hd rfl (AI hR hd)
 rw[e1,Yx,TN hR hd,Yx];by_cases hw:(ob x.S d).Weak=0
 .rw[zb (by simpa[oo] using hw),La (RG hR hd) (RE hR hd),Yx,Ry hR hd hw];rfl
 .rw[za (by simpa[oo] using hw)];show some (hO (wS x (k2 x.S d)))=_;rw[RF hR hd hw]
theorem HK:∀(l:List Int) {x:Hp},SR x.S->SR (l.foldl R6 x).S
 | [],x,h=>h
 | v::l,x,h=>HK l (x:=R6 x v) (FJ h v)
theorem BK:∀(l:List Int) {x:Hp},SR x.S->SL x->SL (l.foldl R6 x)
 | [],x,_,h=>h
 | v::l,x,hR,h=>BK l (x:=R6 x v) (FJ hR v) (h.Xq hR v)
theorem Jk(l:List Int){k:Nat}(hk:k<l.length)(x:Hp):(l.take (k+1)).foldl R6 x=R6 ((l.take k).foldl R6 x) l[k]:=by
 rw[R9 hk,za0];rfl
theorem BH{y:Hp}(hR:SR y.S)(l:List Int)(hl:l.length<=1000000)(hb:∀v∈l,v<=9223372036854775807){K:Hp->Option Hp}:((lp (S:=Int × b6) (E:=b6) (λ((s35,s36):Int × b6)=>
     if (decide (s35<(l.length:Int))) then
      (ix l s35).bind λv39=>
      (C8 s36 v39).bind λv40=>
      some (.inl (z8 (s35+1),v40))
     else
     some (.inr s36)) (0,y)).bind K)=K (l.foldl R6 y):=by
 have key:=O4 l R6 id (λk z=>SR z.S) (b0:=y) (f:=λ((s35,s36):Int × b6)=>
     if (decide (s35<(l.length:Int))) then
      (ix l s35).bind λv39=>
      (C8 s36 v39).bind λv40=>
      some (Sum.inl (z8 (s35+1),v40))
     else
     some (.inr s36)) (by omega) hR (λk hk z hz=>?_) (λz hz=>by simp)
 .rw[key,Yx];rfl
 .simp only[zQ,hk,zV,zU,u6 hk,Yx,ee hz (hb _ (zj hk))];rw[p8];exact⟨rfl,FJ hz _⟩
theorem xa{y:Hp}(hR:SR y.S)(l:List Int)(hl:l.length<=1000000)(hb:∀v∈l,v<=9223372036854775807){K:o6->Option o6}:((lp (S:=Int × o6) (E:=o6) (λ((s45,s46):Int × o6)=>
      if (decide (s45<(l.length:Int))) then
       (ix l s45).bind λv49=>
       (J1 s46 v49).bind λv50=>
       some (.inl (z8 (s45+1),v50))
      else
      some (.inr s46)) (0,hO y)).bind K)=K (hO (l.foldl R6 y)):=by
 have key:=fy (f:=λ((s45,s46):Int × o6)=>
      if (decide (s45<(l.length:Int))) then
       (ix l s45).bind λv49=>
       (J1 s46 v49).bind λv50=>
       some (Sum.inl (z8 (s45+1),v50))
      else
      some (.inr s46)) (t0:=hO y) l.length (λk z=>z=hO ((l.take k).foldl R6 y)) (λz=>z=hO (l.foldl R6 y)) (by omega) rfl ?_ ?_
 .obtain⟨e,h1,h2⟩:=key;rw[h1,Yx,h2]
 .rintro k z hk rfl;left;have hz:=HK (l.take k) hR;simp only[zQ,hk,zV,zU,u6 hk,Yx,oP hz (hb _ (zj hk))];rw[p8,<-Jk l hk];exact⟨_,rfl,rfl⟩
 .rintro z rfl;exact⟨_,za (by simp),by rw[zT]⟩
theorem CO(s:a7)(ds:List Int){k:Nat}(hk:k<ds.length):lh s (ds.take (k+1))=AU (lh s (ds.take k)) ds[k]:=by
 unfold lh;rw[R9 hk,za0];rfl
section
variable{y:Hp}(hR:SR y.S){ds:List Int}(hn:ds.Nodup)(hm:∀d∈ds,d∈lv y.S)
include hR hn hm
theorem wu{k:Nat}(hk:k<ds.length):SR (lh y.S (ds.take k))/\ds[k]∈lv (lh y.S (ds.take k)):=by
 have g:=cZ (ds.take k) hR ((List.take_sublist k ds).nodup hn) λd hd=>hm d (zah hd);refine⟨g.sr,?_⟩;rw[g.lv,zy,zF];refine⟨hm _ (zj hk),λq=>?_⟩;rw[<-zb9 k ds,zby] at hn;exact hn.2.2 _ q ds[k] (by rw[zbe hk];exact zi ..) rfl
theorem IT(hl:ds.length<=1000){K:Hp->Option Hp}:((lp (S:=Int × b6) (E:=b6) (λ((s42,s43):Int × b6)=>
    if (decide (s42<(ds.length:Int))) then
     (ix ds s42).bind λv46=>
     (af s43 v46).bind λv47=>
     some (.inl (z8 (s42+1),v47))
    else
    some (.inr s43)) (0,y)).bind K)=K (wS y (lh y.S ds)):=by
 have key:=fy (f:=λ((s42,s43):Int × b6)=>
    if (decide (s42<(ds.length:Int))) then
     (ix ds s42).bind λv46=>
     (af s43 v46).bind λv47=>
     some (Sum.inl (z8 (s42+1),v47))
    else
    some (.inr s43)) (t0:=y) ds.length (λk z=>z=wS y (lh y.S (ds.take k))) (λz=>z=wS y (lh y.S ds)) (by omega) rfl ?_ ?_
 .obtain⟨e,h1,h2⟩:=key;rw[h1,Yx,h2]
 .rintro k z hk rfl;left;obtain⟨h1,h2⟩:=wu hR hn hm hk;simp only[zQ,hk,zV,zU,u6 hk,Yx,IU (x:=wS y (lh y.S (ds.take k))) h1 h2];rw[p8,CO _ _ hk];exact⟨_,rfl,rfl⟩
 .rintro z rfl;exact⟨_,za (by simp),by rw[zT]⟩
theorem CY(hl:ds.length<=1000){K:o6->Option o6}:((lp (S:=Int × o6) (E:=o6) (λ((s52,s53):Int × o6)=>
     if (decide (s52<(ds.length:Int))) then
      (ix ds s52).bind λv56=>
      (nE s53 v56).bind λv57=>
      some (.inl (z8 (s52+1),v57))
     else
     some (.inr s53)) (0,hO y)).bind K)=K (hO (wS y (lh y.S ds))):=by
 have key:=fy (f:=λ((s52,s53):Int × o6)=>
     if (decide (s52<(ds.length:Int))) then
      (ix ds s52).bind λv56=>
      (nE s53 v56).bind λv57=>
      some (Sum.inl (z8 (s52+1),v57))
     else
     some (.inr s53)) (t0:=hO y) ds.length (λk z=>z=hO (wS y (lh y.S (ds.take k)))) (λz=>z=hO (wS y (lh y.S ds))) (by omega) rfl ?_ ?_
 .obtain⟨e,h1,h2⟩:=key;rw[h1,Yx,h2]
 .rintro k z hk rfl;left;obtain⟨h1,h2⟩:=wu hR hn hm hk;simp only[zQ,hk,zV,zU,u6 hk,Yx,Tx (x:=wS y (lh y.S (ds.take k))) h1 h2];rw[p8,CO _ _ hk];exact⟨_,rfl,rfl⟩
 .rintro z rfl;exact⟨_,za (by simp),by rw[zT]⟩
end
section
variable{x:Hp}(hx:O2 x){ds:List Int}(hn:ds.Nodup)(hm:∀d∈ds,d∈lv x.S)
include hx hn hm
theorem AK:ds.length<=24:=un (gO hn hm) (M5 (y4.2 hx.sh.sr))
theorem AP{d:Int}(hd:d∈lv x.S):(ob x.S d).Fields.length<=4:=(J3 hx.sh.sr hd).fl
theorem Bs{d:Int}(hd:d∈lv x.S):(outs x.S d).length<=4:=un (LR _) (AP hx hn hm hd)
theorem oA:∀(l:List Int),(∀d∈l,d∈lv x.S)->(l.flatMap (outs x.S)).length<=4*l.length
 | [],_=>by simp
 | d::l,h=>by
  rw[za7,zC,zl];have:=oA l λe he=>h e (zt _ he);have:=Bs hx hn hm (h d (zi ..));omega
theorem Hq:∀v∈ds.flatMap (outs x.S)++(mi x.T ds).2,v<=9223372036854775807:=λv hv=>by
 rcases zw.1 hv with q | q
 .obtain⟨d,hd,q⟩:=n7.1 q;obtain⟨q,_⟩:=lC.1 q;rcases hx.sh.fl d (hm d hd) v q with e | e
  .omega
  .exact gM hx.sh.sr e
 .by_cases h0:v=0
  .omega
  .have hl:=AK hx hn hm;have h3:=(ir hx.sh.hr ds (by omega)).2.2.2.2.2 v;have h4:=dC.2 ⟨h0,q⟩;have h5:0<own x.T v:=by omega
   obtain⟨p,hp,hq⟩:=zbo.1 h5;have hq:(v != 0&&p.Val==v)=true:=hq;rw[zk,wf] at hq;have:=(hx.sh.pr _ _ (iU.1 hp)).2;rw[hq.2] at this;exact gM hx.sh.sr this
theorem Dm:(ds.flatMap (outs x.S)++(mi x.T ds).2).length<=200:=by
 have hl:=AK hx hn hm;have h1:=oA hx hn hm ds hm;have h2:=(ir hx.sh.hr ds (by omega)).2.2.1;rw[zC];omega
theorem GF(hq:(x.Q.L++px x.a8 ds).length<=30){l:List Int}(h1:X0 x l=some ds):aR x l=some (gg x ds):=by
 have hl:=AK hx hn hm;have hR:=hx.sh.sr;obtain⟨w1,w2,w3,w4,w5,w6⟩:=ir hx.sh.hr ds (by omega);have ol:=Dm hx hn hm;have fl:=oA hx hn hm ds hm;unfold aR;rw[h1,Yx,ED (by have:=hx.sh.c6;omega) (by omega) hq hx.sh.cap,Yx];simp only[jn];have key:=O4 ds (λb d=>b++outs x.S d) id (λk b=>b.length<=4*k) (b0:=[]) (f:=λ((s49,s50):Int × (List Int))=>
   if (decide (s49<(ds.length:Int))) then
    (ix ds s49).bind λv53=>
    (y3 (xG x ds).S v53).bind λv54=>
    (gr v54.1.Fields).bind λv55=>
    (app 8 s50 v55).bind λv56=>
    some (Sum.inl (z8 (s49+1),v56))
   else
   some (.inr s50)) (by omega) (by simp) (λk hk b hb=>?_) (λb hb=>by simp)
 .rw[key,Yx,lg,zbl];dsimp only[id];rw[show (xG x ds).T=x.T from rfl,w1,Yx];have ol2:=ol;rw[zC] at ol2;rw[C3 (by omega) (by omega),Yx];have k1:=IT (y:=⟨(xG x ds).S,(xG x ds).Roots,(xG x ds).a8,(mi x.T ds).1,(xG x ds).Q⟩) hR hn hm (by omega) (K:=λe=>(lp (S:=Int × b6) (E:=b6) (λ((s35,s36):Int × b6)=>
     if (decide (s35<((ds.flatMap (outs x.S)++(mi x.T ds).2).length:Int))) then
      (ix (ds.flatMap (outs x.S)++(mi x.T ds).2) s35).bind λv39=>
      (C8 s36 v39).bind λv40=>
      some (.inl (z8 (s35+1),v40))
     else
     some (.inr s36)) (0,e)).bind λe34=>some e34)
  refine zcg k1 ?_;have g:=cZ ds hR hn hm;have k2:=BH (y:=wS (⟨(xG x ds).S,(xG x ds).Roots,(xG x ds).a8,(mi x.T ds).1,(xG x ds).Q⟩:Hp) (lh x.S ds)) g.sr _ (by omega) (Hq hx hn hm) (K:=λe34=>some e34);refine zcg k2 ?_;rfl
 .have hd:=hm _ (zj hk);have f4:=AP hx hn hm hd;have o4:=Bs hx hn hm hd;simp only[zQ,hk,zV,zU,u6 hk,Yx,show (xG x ds).S=x.S from rfl,sV hR hd,Di _ (by omega:(ob x.S ds[k]).Fields.length<=1000000)];have e:nz (ob x.S ds[k]).Fields=outs x.S ds[k]:=rfl;rw[e,C3 (by omega) (by omega),Yx,p8];exact⟨rfl,by rw[zC];omega⟩
theorem Iw(hq:(x.Q.L++px x.a8 ds).length<=30){l:List Int}(h1:rP (hO x) l=some ds):rK (hO x) l=some (hO (gg x ds)):=by
 have hl:=AK hx hn hm;have hR:=hx.sh.sr;obtain⟨w1,w2,w3,w4,w5,w6⟩:=ir hx.sh.hr ds (by omega);have ol:=Dm hx hn hm;have fl:=oA hx hn hm ds hm;have c6:=hx.sh.c6;unfold rK;rw[h1,Yx,show (hO x).a8=x.a8.map qz from rfl,OX _ _ (by omega) (by omega),Yx];simp only[jn];rw[show (hO x).Q=Cf x.Q from rfl,SM (by omega) (by omega) hq hx.sh.cap];have key:=O4 ds (λb d=>b++outs x.S d) id (λk b=>b.length<=4*k) (b0:=[]) (f:=λ((s59,s60):Int × (List Int))=>
    if (decide (s59<(ds.length:Int))) then
     (ix ds s59).bind λv63=>
     (M0 (hO x).S v63).bind λv64=>
     (jW v64.1.Fields).bind λv65=>
     (app 8 s60 v65).bind λv66=>
     some (Sum.inl (z8 (s59+1),v66))
    else
    some (.inr s60)) (by omega) (by simp) (λk hk b hb=>?_) (λb hb=>by simp)
 .rw[key,Yx,lg,zbl];dsimp only[id];rw[show (hO x).T=x.T.map R8 from rfl,w4,Yx];dsimp only;have ol2:=ol;rw[zC] at ol2;rw[C3 (by omega) (by omega),Yx];have k1:=CY (y:=⟨(xG x ds).S,(xG x ds).Roots,(xG x ds).a8,(mi x.T ds).1,(xG x ds).Q⟩) hR hn hm (by omega) (K:=λe=>(lp (S:=Int × o6) (E:=o6) (λ((s45,s46):Int × o6)=>
      if (decide (s45<((ds.flatMap (outs x.S)++(mi x.T ds).2).length:Int))) then
       (ix (ds.flatMap (outs x.S)++(mi x.T ds).2) s45).bind λv49=>
       (J1 s46 v49).bind λv50=>
       some (.inl (z8 (s45+1),v50))
      else
      some (.inr s46)) (0,e)).bind λe44=>some e44)
  refine zcg k1 ?_;have g:=cZ ds hR hn hm;have k2:=xa (y:=wS (⟨(xG x ds).S,(xG x ds).Roots,(xG x ds).a8,(mi x.T ds).1,(xG x ds).Q⟩:Hp) (lh x.S ds)) g.sr _ (by omega) (Hq hx hn hm) (K:=λe44=>some e44);refine zcg k2 ?_;rfl
 .have hd:=hm _ (zj hk);have f4:=AP hx hn hm hd;have o4:=Bs hx hn hm hd;simp only[zQ,hk,zV,zU,u6 hk,Yx,show (hO x).S=sO x.S from rfl,qY hR hd];have e:jW (oo (ob x.S ds[k])).Fields=some (outs x.S ds[k]):=Fl _ (by show (ob x.S ds[k]).Fields.length<=_;omega);rw[e,Yx,C3 (by omega) (by omega),Yx,p8];exact⟨rfl,by rw[zC];omega⟩
end
theorem OS{x:Hp}(hR:SR x.S)(hS:SL x){ds:List Int}(hn:ds.Nodup)(hm:∀d∈ds,d∈lv x.S)(t:Tb):SL (iv x ds t):=λk hk=>by
 have g:=cZ ds hR hn hm;have hk:k∈lv (lh x.S ds):=hk;rw[g.lv,zy,zF] at hk;have e:ob (iv x ds t).S k=ob x.S k:=g.ob k hk.1 hk.2;rw[e];exact hS k hk.1
theorem Kh{x:Hp}(hR:SR x.S)(hS:SL x){ds:List Int}(hn:ds.Nodup)(hm:∀d∈ds,d∈lv x.S):SL (gg x ds):=
 BK _ (x:=iv x ds (mi x.T ds).1) (cZ ds hR hn hm).sr (OS hR hS hn hm _)
theorem MA{x:Hp}(hR:SR x.S)(hS:SL x){h:Int}(hh:h∈lv x.S):SL (gR x h):=by
 have hok:=BW hR hh;have r1:=bx (o:=dO (ob x.S h)) hR hh rfl hok;refine SL.C5 (x:=⟨cK x.S h (dO (ob x.S h)),x.Roots,x.a8,x.T,⟨x.Q.L ++ [ue x h],x.Q.Cap⟩⟩) (λk hk=>?_) r1 h;dsimp only at hk |-;rw[fD (o:=dO (ob x.S h)) hR hh rfl hok] at hk;rw[en (o:=dO (ob x.S h)) hR hh rfl hok (gM hR hk)];split;·exact hS h hh
 .exact hS k hk
theorem Vd{x:Hp}(hx:O2 x)(hS:SL x):SL (HY x):=by
 cases h:zr x with
 | nil=>rw[oY h];exact hS
 | cons z l=>
  have hz:=(cd.1 (show z∈zr x by rw[h];exact zi ..)).1;rw[ij h];split;·exact MA hx.sh.sr hS hz
  .exact Kh hx.sh.sr hS (by simp) (by simpa using hz)
theorem BX{x:Hp}(hx:O2 x)(hS:SL x)(n:Nat):SL (uJ n x):=by
 induction n with
 | zero=>exact hS
 | succ n ih=>rw[dA];exact Vd (bk hx n) ih
theorem HU{x:Hp}(hx:O2 x)(hS:SL x):SL (dw x):=BX hx hS 100
section
variable{x:Hp}(hx:O2 x)(hS:SL x)
include hx hS
theorem Al{z:Int}(hz:z∈zr x):(x.Q.L++px x.a8 [z]).length<=30:=by
 have h1:=(xF hx hz).sh.q30;have hzl:=(cd.1 hz).1;rw[(qI hx.sh.sr (ds:=[z]) (by simp) (by simpa using hzl)).2.2.2] at h1;exact h1
theorem Jp(h:zr x = []):((cH x).bind λv4=>
  if ((v4.length:Int)==0) then
   some (Sum.inr x)
  else
  (ix v4 0).bind λv5=>
  (y3 x.S v5).bind λv6=>
  (M7 v6.1).bind λv7=>
  if v7 then
   (U7 x v5).bind λv8=>
   some (.inl v8)
  else
  (cut v4 0 1).bind λv9=>
  (aR x v9).bind λv10=>
  some (Sum.inl (α:=Hp) (β:=Hp) v10))=some (.inr x):=by
 rw[zero_eq hx.sh.sr,Yx,h];rfl
theorem VM(z:Int)(l:List Int):cut (z::l) 0 1=some [z]:=by
 unfold cut;rw[zb (by simp;omega)];simp
theorem FK(h:zr x ≠ []):((cH x).bind λv4=>
  if ((v4.length:Int)==0) then
   some (Sum.inr x)
  else
  (ix v4 0).bind λv5=>
  (y3 x.S v5).bind λv6=>
  (M7 v6.1).bind λv7=>
  if v7 then
   (U7 x v5).bind λv8=>
   some (.inl v8)
  else
  (cut v4 0 1).bind λv9=>
  (aR x v9).bind λv10=>
  some (Sum.inl (α:=Hp) (β:=Hp) v10))=some (.inl (HY x)):=by
 cases hz:zr x with
 | nil=>exact absurd hz h
 | cons z l=>
  have hzm:z∈zr x:=by rw[hz];exact zi ..
  have hzl:=(cd.1 hzm).1;have hR:=hx.sh.sr;rw[zero_eq hR,Yx,hz,za (by simp;omega),show ix (z::l) 0=some z from rfl,Yx,sV hR hzl,Yx,Hs,Yx,ij hz];by_cases hd:due (ob x.S z)=true
  .rw[zb hd,zb hd,yU hx hS (gM hR hzl),Yx];unfold UF;rw[zb ⟨hzl,hd⟩]
  .rw[za hd,za hd,VM hx hS,Yx,GF hx (ds:=[z]) (by simp) (by simpa using hzl) (Al hx hS hzm) (by rw[rp hR [z] (by simp) (by simpa using gM hR hzl),Dc hzl]),Yx]
theorem gp:P6 x=some (dw x):=by
 obtain⟨n,hn,h1,h2,h3⟩:=tL hx;unfold P6;refine jN (λj=>uJ j x) rfl n (λ_=>True) (by omega) trivial (λk hk _=>.inl ⟨?_,trivial⟩) (λ_=>⟨uJ n x,?_,by rw[h3]⟩)
 .have:=FK (bk hx k) (BX hx hS k) (h2 k hk);rw[<-dA] at this;exact this
 .exact Jp (bk hx n) (BX hx hS n) h1
theorem QH{k:Nat}(hk:k<100)(h:zr x ≠ []){E:Type}{e:E}:((rM (hO x)).bind λv35=>
     if ((v35.length:Int)==0) then
      some (Sum.inr e)
     else
     (ix v35 0).bind λv36=>
     (rL (hO x) v36).bind λv37=>
     if v37 then
      (lM (hO x) v36).bind λv38=>
      some (.inl (z8 ((k:Int)+1),v38))
     else
     (cut v35 0 1).bind λv39=>
     (rK (hO x) v39).bind λv40=>
     some (Sum.inl (z8 ((k:Int)+1),v40)))=some (.inl (((k+1:Nat):Int),hO (HY x))):=by
 cases hz:zr x with
 | nil=>exact absurd hz h
 | cons z l=>
  have hzm:z∈zr x:=by rw[hz];exact zi ..
  have hzl:=(cd.1 hzm).1;have hR:=hx.sh.sr;rw[NL hR,Yx,hz,za (by simp;omega),show ix (z::l) 0=some z from rfl,Yx,Rw hx hS (gM hR hzl),Yx,zA hzl,zak,ij hz,p8];by_cases hd:due (ob x.S z)=true
  .rw[zb hd,zb hd,MC hx hS (gM hR hzl),Yx];unfold UF;rw[zb ⟨hzl,hd⟩]
  .rw[za hd,za hd,VM hx hS,Yx,Iw hx (ds:=[z]) (by simp) (by simpa using hzl) (Al hx hS hzm) (by rw[Tg hR [z] (by simp) (by simpa using gM hR hzl),Dc hzl]),Yx]
theorem xm:aP (hO x)=some (hO (dw x)):=by
 obtain⟨n,hn,h1,h2,h3⟩:=tL hx;unfold aP;simp only[jn];refine jN (λj=>((j:Int),hO (uJ j x))) (by rfl) n (λ_=>True) (by omega) trivial (λk hk _=>.inl ⟨?_,trivial⟩) (λ_=>⟨.inl (hO (uJ n x)),?_,by rw[h3]⟩)
 .dsimp only;rw[zb (by simp;omega)];have:=QH (bk hx k) (BX hx hS k) (k:=k) (by omega) (h2 k hk) (e:=(Sum.inl (hO (uJ k x)):o6 ⊕ o6));rw[<-dA] at this;exact this
 .dsimp only;rw[zb (by simp;omega),NL (bk hx n).sh.sr,Yx,h1];rfl
end
def L6(n l m e:Int):Int:=if n<l\/n > m then e else 0
def aA(a b c:Int):Int:=if a≠0 then a else if b≠0 then b else c
def A8(k a b c:Int):Int:=
 if k=1 then aA (L6 a 0 5 6) (L6 b 0 4 1) (L6 c (-1) 5 13)
 else if k=2\/k=9\/k=10 then aA (L6 a 0 5 6) (L6 b 0 5 6) 0
 else if k=3 then L6 a 0 5 6
 else if k=4 then aA (L6 a 0 5 6) (L6 b 0 5 6) (L6 c 0 3 5)
 else if k=5 then aA (L6 a 0 5 6) (L6 b 0 3 5) (L6 c (-1) 5 6)
 else if k=6 then aA (L6 a 0 5 7) (L6 b (-1) 5 6) (L6 c (-1) 5 13)
 else if k=7 then aA (L6 a 0 5 6) (L6 b 0 5 7) 0
 else if k=8 then aA (L6 a 0 5 6) (L6 b (-1) 5 6) 0
 else if k=11 then 0
 else if k=12 then L6 a 0 200 12
 else 14
def BG:k8:=⟨some 169,0,5,6⟩
def Qz:k8:=⟨some 170,0,5,6⟩
def Wx:k8:=⟨some 170,-1,5,6⟩
def WL:k8:=⟨some 172,-1,5,13⟩
def tU:List (Int × List k8):=[(1,[BG,⟨some 170,0,4,1⟩,WL]),(2,[BG,Qz]),(3,[BG]),(4,[BG,Qz,⟨some 172,0,3,5⟩]),
 (5,[BG,⟨some 170,0,3,5⟩,⟨some 172,-1,5,6⟩]),(6,[⟨some 169,0,5,7⟩,Wx,WL]),(7,[BG,⟨some 170,0,5,7⟩]),(8,[BG,Wx]),(9,[BG,Qz]),(10,[BG,Qz]),(11,[]),(12,[⟨some 169,0,200,12⟩])]
theorem EI:kV=some tU:=by kernel_rfl
def ff(o:c8)(d:k8):Int:=if d.part=some 169 then o.A else if d.part=some 170 then o.B else o.C
def pw(o:c8)(d:k8):Bool:=decide (ff o d<d.least)||decide (ff o d > d.most)
def qU(o:c8):List k8->Int ⊕ Unit
 | []=>.inr ()
 | d::ds=>if pw o d then .inl d.e else qU o ds
theorem CL(o:c8)(d:k8)(ds:List k8):qU o (d::ds)=if pw o d then .inl d.e else qU o ds:=rfl
def Gd(d:k8):Prop:=d.part=some 169\/d.part=some 170\/d.part=some 172
theorem Uz(o:c8){d:k8}(h:Gd d):qW d.part o=some (ff o d):=by
 unfold ff;rcases h with h | h | h
 .rw[h];rfl
 .rw[h];rfl
 .rw[h];rfl
theorem TR(o:c8)(ds:List k8)(hl:ds.length<=10)(hp:∀d∈ds,Gd d):lp (S:=Int) (E:=Int ⊕ Unit) (λ(s11:Int)=>
   if (decide (s11<(ds.length:Int))) then
    (ix ds s11).bind λv13=>
    (qW v13.part o).bind λv14=>
    if ((decide (v14<v13.least))||(decide (v14 > v13.most))) then
     some (.inr (.inl v13.e))
    else
    some (.inl (z8 (s11+1)))
   else
   some (.inr (.inr ()))) 0=some (qU o ds):=by
 refine fZ (Db ds.length (λk=>qU o ds=qU o (ds.drop k)) (λe=>e=qU o ds) (by omega) rfl (λk hk hP=>?_) (λhP=>?_))
 .rw[zb (by simpa using hk),u6 hk,Yx,Uz o (hp _ (zj hk)),Yx];rw[zbe hk,CL] at hP;by_cases c:pw o ds[k]=true
  .rw[zb (show ((decide (ff o ds[k]<ds[k].least))||(decide (ff o ds[k] > ds[k].most)))=true from c)];rw[zb c] at hP;exact .inr ⟨_,rfl,hP.symm⟩
  .rw[za (show ¬((decide (ff o ds[k]<ds[k].least))||(decide (ff o ds[k] > ds[k].most)))=true from c),p8];rw[za c] at hP;exact .inl ⟨rfl,hP⟩
 .rw[List.drop_length] at hP;exact⟨_,za (by simp),hP.symm⟩
theorem Pg:∀p∈tU,p.2.length<=10/\∀d∈p.2,Gd d:=by
 have:tU.all (λp=>decide (p.2.length<=10)&&p.2.all λd=>(d.part==some 169)||(d.part==some 170)||(d.part==some 172))=true:=by kernel_rfl
 intro p hp;have:=zd.1 this p hp;rw[zk,zF,zd] at this;refine⟨this.1,λd hd=>?_⟩;have:=this.2 d hd;simp only[me,wf] at this;unfold Gd;rcases this with (h | h) | h
 .exact .inl h
 .exact .inr (.inl h)
 .exact .inr (.inr h)
theorem He{m:List (Int × List k8)}{k:Int}{v:List k8}(h:y9 m k=some v):(k,v)∈m:=by
 induction m with
 | nil=>cases h
 | cons p m ih=>
  unfold y9 at h;split at h
  .rename_i c;have:k=p.1:=by simpa using c
   cases h;subst this;exact zi ..
  .exact zt _ (ih h)
def sq(o:c8)(ds:List k8):Int:=match qU o ds with
 | .inl e=>e
 | .inr _=>0
theorem Rh(o:c8):sq o []=0:=rfl
theorem ss(o:c8)(d:k8)(ds:List k8):sq o (d::ds)=if pw o d then d.e else sq o ds:=by
 unfold sq;rw[CL];cases pw o d <;> rfl
theorem Bb(o:c8)(d:k8):L6 (ff o d) d.least d.most d.e=if pw o d then d.e else 0:=by
 unfold L6 pw;by_cases h:ff o d<d.least\/ff o d > d.most
 .rw[zb h,zb (by simpa using h)]
 .rw[za h,za (by simpa using h)]
theorem Re(o:c8)(d:k8):sq o [d]=L6 (ff o d) d.least d.most d.e:=by rw[ss,Rh,Bb]
theorem Nw(o:c8)(d e:k8)(h1:d.e≠0):sq o [d,e]=aA (L6 (ff o d) d.least d.most d.e) (L6 (ff o e) e.least e.most e.e) 0:=by
 rw[ss,Re,Bb o d];unfold aA;cases pw o d
 .simp only[zm,zY,ne_eq,not_true_eq_false];split;·rfl
  .rename_i h;simpa using h
 .simp[h1]
theorem Rf(o:c8)(d e f:k8)(h1:d.e≠0)(h2:e.e≠0):sq o [d,e,f]=aA (L6 (ff o d) d.least d.most d.e) (L6 (ff o e) e.least e.most e.e) (L6 (ff o f) f.least f.most f.e):=by
 rw[ss,ss,Re,Bb o d,Bb o e];unfold aA;cases pw o d <;> cases pw o e <;> simp[h1,h2]
theorem Lw(o:c8):(match y9 tU o.Kind with
  | none=>14
  | some ds=>sq o ds)=A8 o.Kind o.A o.B o.C:=by
 obtain⟨k,a,b,c⟩:=o;dsimp only;by_cases h:1<=k/\k<=12
 .have:k=1\/k=2\/k=3\/k=4\/k=5\/k=6\/k=7\/k=8\/k=9\/k=10\/k=11\/k=12:=by omega
  rcases this with rfl | rfl | rfl | rfl | rfl | rfl | rfl | rfl | rfl | rfl | rfl | rfl
  .exact Rf _ _ _ _ (by decide) (by decide)
  .exact Nw _ _ _ (by decide)
  .exact Re _ _
  .exact Rf _ _ _ _ (by decide) (by decide)
  .exact Rf _ _ _ _ (by decide) (by decide)
  .exact Rf _ _ _ _ (by decide) (by decide)
  .exact Nw _ _ _ (by decide)
  .exact Nw _ _ _ (by decide)
  .exact Nw _ _ _ (by decide)
  .exact Nw _ _ _ (by decide)
  .rfl
  .exact Re _ _
 .have e:y9 tU k=none:=by
   cases hm:y9 tU k with
   | none=>rfl
   | some v=>
    have:=He hm;simp only[tU,zJ,Prod.mk.injEq,zb0,or_false] at this;omega
  rw[e];unfold A8;repeat rw[za (by omega)]
theorem mW(o:c8):U2 o=some (A8 o.Kind o.A o.B o.C):=by
 rw[<-Lw];unfold U2;rw[EI,Yx];cases h:y9 tU o.Kind with
 | none=>rfl
 | some ds=>
  obtain⟨h1,h2⟩:=Pg _ (He h);rw[za (by simp)];simp only[jn,zR];rw[TR o ds h1 h2,Yx];unfold sq;cases qU o ds <;> rfl
theorem Pt(n l m e:Int):ca n l m e=some (L6 n l m e):=by
 unfold ca L6;by_cases h:n<l\/n > m
 .rw[zb h,zb (by simpa using h)]
 .rw[za h,za (by simpa using h)]
theorem KV(a b c:Int):bg a b c=some (aA a b c):=by
 unfold bg aA;by_cases h:a=0
 .by_cases g:b=0
  .rw[za (by simpa using h),za (by simpa using g),za (by simpa using h),za (by simpa using g)]
  .rw[za (by simpa using h),zb (by simpa using g),za (by simpa using h),zb (by simpa using g)]
 .rw[zb (by simpa using h),zb (by simpa using h)]
theorem iH(o:au):cD o=some (A8 o.Kind o.A o.B o.C):=by
 unfold cD A8;simp only[Pt,KV,Yx,jn];by_cases h:1<=o.Kind/\o.Kind<=12
 .have:o.Kind=1\/o.Kind=2\/o.Kind=3\/o.Kind=4\/o.Kind=5\/o.Kind=6\/o.Kind=7\/o.Kind=8\/o.Kind=9\/o.Kind=10\/o.Kind=11\/o.Kind=12:=by omega
  rcases this with h | h | h | h | h | h | h | h | h | h | h | h <;> rw[h] <;> rfl
 .have n:∀j:Int,1<=j->j<=12->(o.Kind==j)=false:=λj h1 h2=>by
   rw[beq_eq_false_iff_ne];omega
  simp only[n 1 (by omega) (by omega),n 2 (by omega) (by omega),n 3 (by omega) (by omega),n 4 (by omega) (by omega),n 5 (by omega) (by omega),n 6 (by omega) (by omega),n 7 (by omega) (by omega),n 8 (by omega) (by omega),n 9 (by omega) (by omega),n 10 (by omega) (by omega),n 11 (by omega) (by omega),n 12 (by omega) (by omega),zm,zY];repeat rw[za (by omega)]
theorem QG{x:Hp}(hx:O2 x){ds:List Int}:(x.Q.L++px x.a8 ds).length<=30:=by
 have hS:=hx.sh;have c6:=hS.c6;have h24:(lv x.S).length<=24:=M5 (y4.2 hS.sr);have htd:(x.Q.L++px x.a8 ds).Pairwise λa b=>¬(a.Kind=b.Kind/\a.At=b.At):=by
  rw[za4];refine⟨hS.td,yt ..,λa ha b hb q=>?_⟩;obtain⟨w,hw,rfl,hh,_⟩:=fT.1 hb;have hi:x.a8[w].Intact=true:=by
   unfold fQ at hh;rw[zk,zk] at hh;exact hh.1.1
  have:=((hS.cl w hw).2.2.2.2 hi).2;rw[zbb] at this;exact this (je.2 ⟨a,ha,q.1,q.2⟩)
 have:=xq (m:=lv x.S) htd λt ht=>by
  rcases zw.1 ht with q | q
  .rcases (hS.tk t q).2.2 with c | c
   .exact .inl ⟨c.1,c.2.1⟩
   .exact .inr c
  .obtain⟨w,hw,rfl,_,_⟩:=fT.1 q;exact .inr ⟨rfl,by dsimp only;omega,by dsimp only;omega⟩
 omega
section
variable{x:Hp}(hB:HB x)
include hB
end
structure Cv (x y:Hp):Prop where
 lv:∀h∈lv y.S,h∈lv x.S
 T5:y.S.Serial=x.S.Serial
 len:y.S.S.a8.length=x.S.S.a8.length
 ob:∀h∈Sh.lv y.S,(ob y.S h).Serial=(ob x.S h).Serial/\(Sh.ob y.S h).Prog=(Sh.ob x.S h).Prog/\(Sh.ob y.S h).Fields=(Sh.ob x.S h).Fields/\((Sh.ob x.S h).Started=true->(Sh.ob y.S h).Started=true)
 rt:y.Roots=x.Roots
 cn:y.a8.length=x.a8.length
 cl:∀i (h:i<y.a8.length) (h':i<x.a8.length),y.a8[i]=⟨x.a8[i].Target,x.a8[i].Intact&&decide (x.a8[i].Target∈Sh.lv y.S),x.a8[i].Call⟩
 q:∃l,y.Q=⟨x.Q.L++l,x.Q.Cap⟩/\(∀t∈l,t.Kind=1->t.At∈Sh.lv x.S/\(Sh.ob x.S t.At).Started=false)/\∀h∈Sh.lv y.S,(Sh.ob y.S h).Started=true->(Sh.ob x.S h).Started=false->∃t∈l,t.Kind=1/\t.At=h
 rc:∀h,cJ x.S x.T (pk x) h->cJ y.S y.T (pk y) h
 has:∀k v,Has y.T k v->Has x.T k v
theorem Cv.refl{x:Hp}(hx:mH x):Cv x x:=by
 refine⟨λ_ h=>h,rfl,rfl,λh _=>⟨rfl,rfl,rfl,id⟩,rfl,rfl,λi h h'=>?_,⟨[],by simp,by simp,λh _ a b=>?_⟩,λ_ h=>h,λ_ _ h=>h⟩
 .have:=(hx.cl i h).2.2.2.2;cases hI:x.a8[i].Intact;·rw[zb3,<-hI]
  .rw[zA (this hI).1,Bool.and_self,<-hI]
 .rw[a] at b;cases b
theorem Cv.trans{x y z:Hp}(a:Cv x y)(b:Cv y z):Cv x z:=by
 obtain⟨l1,q1,q2,q3⟩:=a.q;obtain⟨l2,r1,r2,r3⟩:=b.q;refine⟨λh hh=>a.lv h (b.lv h hh),b.T5.trans a.T5,b.len.trans a.len,λh hh=>?_,b.rt.trans a.rt,b.cn.trans a.cn,λi h h'=>?_,⟨l1++l2,?_,λt ht hk=>?_,λh hh s1 s2=>?_⟩,λh hh=>b.rc h (a.rc h hh),λk v hh=>a.has k v (b.has k v hh)⟩
 .obtain⟨b1,b2,b3,b4⟩:=b.ob h hh;obtain⟨a1,a2,a3,a4⟩:=a.ob h (b.lv h hh);exact⟨b1.trans a1,b2.trans a2,b3.trans a3,λq=>b4 (a4 q)⟩
 .have hy:i<y.a8.length:=by rw[a.cn];exact h'
  rw[b.cl i h hy,a.cl i hy h'];dsimp only;congr 1;rw[Bool.and_assoc];congr 1;by_cases q:x.a8[i].Target∈Sh.lv z.S
  .rw[zA q,zA (b.lv _ q)];rfl
  .rw[zK q,Bool.and_false]
 .rw[r1,q1,pm]
 .rcases zw.1 ht with q | q
  .exact q2 t q hk
  .obtain⟨e1,e2⟩:=r2 t q hk;refine⟨a.lv _ e1,?_⟩;cases hs:(Sh.ob x.S t.At).Started;·rfl
   .rw[(a.ob _ e1).2.2.2 hs] at e2;cases e2
 .cases hs:(Sh.ob y.S h).Started
  .obtain⟨t,ht,e⟩:=r3 h hh s1 hs;exact⟨t,zas _ ht,e⟩
  .obtain⟨t,ht,e⟩:=q3 h (b.lv h hh) hs s2;exact⟨t,mt _ ht,e⟩
theorem HS(s:a7)(h:Int)(o:o9):(cK s h o).S.a8.length=s.S.a8.length:=N6 ..
theorem Qv{x:Hp}(hx:O2 x){z:Int}(hz:z∈lv x.S)(hs:(ob x.S z).Started=false):Cv x (gR x z):=by
 have hR:=hx.sh.sr;obtain⟨k,e1,e2,e3,e4⟩:=lH hR hz;have l1:=Bv hR hz;have hob:∀h∈lv x.S,(ob (gR x z).S h).Serial=(ob x.S h).Serial/\(ob (gR x z).S h).Prog=(ob x.S h).Prog/\(ob (gR x z).S h).Fields=(ob x.S h).Fields/\((ob (gR x z).S h).Started=true↔(ob x.S h).Started=true\/h=z):=λh hh=>by
  obtain⟨n,e⟩:=wV hR hz hh;rw[e];by_cases q:h=z
  .subst q;rw[zb rfl];exact⟨rfl,rfl,rfl,by simp⟩
  .rw[za q];exact⟨rfl,rfl,rfl,by simp[q]⟩
 have hot:∀h∈pk x,h∈pk (gR x z):=λh hh=>by
  unfold pk at hh |-;rw[e1,e4];rcases zw.1 hh with q | q
  .exact mt _ q
  .refine zas _ ?_;obtain⟨t,ht,a,b⟩:=rz.1 q;exact rz.2 ⟨t,mt _ ht,a,b⟩
 have rf:=Cv.refl hx.sh;refine⟨λh hh=>by rw[l1] at hh;exact hh,k.T5,k.len.trans (HS ..),λh hh=>?_,e1,by rw[e2],λi h h'=>?_,⟨[ue x z],by rw[e4],λt ht hk=>?_,λh hh s1 s2=>?_⟩,λh hh=>?_,λk v hh=>by rw[e3] at hh;exact hh⟩
 .rw[l1] at hh;obtain⟨a,b,c,d⟩:=hob h hh;exact⟨a,b,c,λq=>d.2 (.inl q)⟩
 .have e5:(gR x z).a8[i]=x.a8[i]:=by simp only[e2]
  rw[e5,l1];exact rf.cl i h' h'
 .rw[zH] at ht;subst ht;exact⟨hz,hs⟩
 .rw[l1] at hh;rcases (hob h hh).2.2.2.1 s1 with q | q
  .rw[q] at s2;cases s2
  .exact⟨ue x z,List.mem_singleton_self _,rfl,q.symm⟩
 .induction hh with
  | base h1 h2=>exact .base (hot _ h1) (by rw[l1];exact h2)
  | step h0 h1 h2 ih=>
   refine .step ih ?_ (by rw[l1];exact h2);unfold outs at h1 |-;rw[(hob _ h0.live).2.2.1];exact h1
  | pair h1 h0 h2 ih=>exact .pair (by rw[e3];exact h1) ih (by rw[l1];exact h2)
theorem OU{x:Hp}(hx:O2 x){z:Int}(hz:z∈zr x):Cv x (gg x [z]):=by
 have hR:=hx.sh.sr;have hzl:=(cd.1 hz).1;have h0:z≠0:=λe=>ph hR (e▸hzl);have hfree:=Co hx hz;have hn:([z]:List Int).Nodup:=by simp
 have hm:∀d ∈ [z],d∈lv x.S:=by simpa using hzl
 have g:=cZ [z] hR hn hm;have k:=(gY ([z].flatMap (outs x.S)++(mi x.T [z]).2) (x:=iv x [z] (mi x.T [z]).1) g.sr).1;obtain⟨e1,e2,e3,e4⟩:=qI hR hn hm;obtain⟨_,w2,_,_,w5,w6⟩:=ir hx.sh.hr [z] (by simp);have l1:∀h,h∈lv (gg x [z]).S↔h∈lv x.S/\h≠z:=λh=>by
  rw[Ez hR hn hm,zy,zF,zH]
 have hob:∀h∈lv (gg x [z]).S,(ob (gg x [z]).S h).Serial=(ob x.S h).Serial/\(ob (gg x [z]).S h).Prog=(ob x.S h).Prog/\(ob (gg x [z]).S h).Fields=(ob x.S h).Fields/\(ob (gg x [z]).S h).Started=(ob x.S h).Started:=λh hh=>by
  obtain⟨a,b⟩:=(l1 h).1 hh;obtain⟨n,e⟩:=EA hR hn hm a (by simpa using b);rw[e];exact⟨rfl,rfl,rfl,rfl⟩
 refine⟨λh hh=>((l1 h).1 hh).1,k.T5.trans g.T5,k.len.trans g.len,λh hh=>?_,e1,by rw[e2];simp[tS],λi h h'=>?_,⟨px x.a8 [z],by rw[e4],λt ht hk=>?_,λh hh s1 s2=>?_⟩,λh hh=>?_,λk v hh=>?_⟩
 .obtain⟨a,b,c,d⟩:=hob h hh;exact⟨a,b,c,λq=>d.trans q⟩
 .have e5:(gg x [z]).a8[i]=mX [z] x.a8[i]:=by
   simp only[e2];exact ut _
  rw[e5];have hc:=(hx.sh.cl i h').2.2.2.2;unfold mX fQ;cases hI:x.a8[i].Intact;·rw[za (by simp),zb3,<-hI]
  .have ht:=(hc hI).1;have ht0:x.a8[i].Target≠0:=λe=>ph hR (e▸ht);by_cases q:x.a8[i].Target=z
   .rw[zb (by simp[q,h0]),zK (λr=>((l1 _).1 r).2 q)];rfl
   .rw[za (by simp[q]),zA ((l1 _).2 ⟨ht,q⟩),Bool.and_self,<-hI]
 .obtain⟨w,hw,rfl,_,_⟩:=fT.1 ht;simp at hk
 .rw[(hob h hh).2.2.2,s2] at s1;cases s1
 .unfold pj at hfree;have key:cJ (gg x [z]).S (gg x [z]).T (pk (gg x [z])) h/\h≠z:=by
   induction hh with
   | base h1 h2=>
    rename_i a;have hne:a≠z:=λe=>by
     subst e;exact DY h0 (by omega:aE (pk x) a=0) h1
    refine⟨.base ?_ ((l1 _).2 ⟨h2,hne⟩),hne⟩;unfold pk at h1 |-;rw[e1,e4,wg _ _ _ λt ht=>by
     obtain⟨w,_,rfl,_⟩:=fT.1 ht;simp]
    exact h1
   | step q0 q1 q2 ih=>
    rename_i a b;have hne:b≠z:=λe=>by
     subst e;have:=Bd (y:=b) q0.live;have h1:=dC.2 ⟨h0,q1⟩;omega
    refine⟨.step ih.1 ?_ ((l1 _).2 ⟨q2,hne⟩),hne⟩;unfold outs at q1 |-;rw[(hob _ ((l1 _).2 ⟨q0.live,ih.2⟩)).2.2.1];exact q1
   | pair q1 q0 q2 ih=>
    rename_i a b;have hne:b≠z:=λe=>by
     subst e;have:=Bt q1 h0;omega
    exact⟨.pair (by rw[e3];exact (w5 _ _).2 ⟨by simpa using ih.2,q1⟩) ih.1 ((l1 _).2 ⟨q2,hne⟩),hne⟩
  exact key.1
 .rw[e3] at hh;exact ((w5 _ _).1 hh).2
theorem QR{x:Hp}(hx:O2 x):Cv x (HY x):=by
 cases h:zr x with
 | nil=>rw[oY h];exact Cv.refl hx.sh
 | cons z l=>
  have hz:z∈zr x:=by rw[h];exact zi ..
  rw[ij h];split
  .rename_i q;unfold due at q;rw[zk,zF,zbk] at q;exact Qv hx (cd.1 hz).1 q.2
  .exact OU hx hz
theorem QQ{x:Hp}(hx:O2 x)(n:Nat):Cv x (uJ n x):=by
 induction n with
 | zero=>exact Cv.refl hx.sh
 | succ n ih=>rw[dA];exact ih.trans (QR (bk hx n))
theorem nO{x:Hp}(hx:O2 x):Cv x (dw x):=QQ hx 100
section
variable{x:Hp}(hB:HB x)
include hB
end
structure Ks (s s':a7):Prop where
 sr:SR s'
 T5:s'.Serial=s.Serial
 lv:lv s'=lv s
 ob:∀h∈Sh.lv s,(ob s' h).Serial=(ob s h).Serial
theorem Ks.refl{s:a7}(hR:SR s):Ks s s:=⟨hR,rfl,rfl,λ_ _=>rfl⟩
theorem Ks.trans{a b c:a7}(h:Ks a b)(q:Ks b c):Ks a c:=⟨q.sr,q.T5.trans h.T5,q.lv.trans h.lv,λk hk=>(q.ob k (by rw[h.lv];exact hk)).trans (h.ob k hk)⟩
theorem ux.ks{s s':a7}(hR:SR s)(k:ux s s'):Ks s s':=⟨k.sr,k.T5,k.lv,λh hh=>by
 obtain⟨n,e⟩:=k.ob h (by have:=I1 hR hh;omega);rw[e]⟩
theorem Kn.ks{s s':a7}(k:Kn s s')(e:s'.Serial=s.Serial):Ks s s':=⟨k.sr,e,k.lv,λh hh=>by
 obtain⟨n,m,e⟩:=k.ob h hh;rw[e]⟩
theorem US{s:a7}(hR:SR s){h:Int}(hh:h∈lv s){o:o9}(hs:o.Serial=(ob s h).Serial)(ho:xK s o):Ks s (cK s h o):=⟨bx hR hh hs ho,rfl,fD hR hh hs ho,λk hk=>by
 rw[en hR hh hs ho (by have:=I1 hR hk;omega)];split;·rename_i e;subst e;exact hs
 .rfl⟩
theorem BP{x:Hp}(hR:SR x.S)(h:Int):Ks x.S (C5 x h).S:=(G3 hR h λc=>D7).ks hR
theorem BL{x:Hp}(hR:SR x.S)(h:Int):Ks x.S (R6 x h).S:=(G3 hR h λc=>P1).ks hR
theorem xe(x:Hp)(h:Int):(R6 x h).Roots=x.Roots/\(R6 x h).a8=x.a8/\(R6 x h).T=x.T/\(R6 x h).Q=x.Q:=xp x h jE
theorem dv{x:Hp}(hR:SR x.S)(r:Nat)(h:Int):Ks x.S (H5 x r h).S:=
 (BP hR h).trans (BL (x:=wR (C5 x h) (x.Roots.set r h)) (hZ hR h) _)
theorem yw{x:Hp}(hR:SR x.S){h:Int}(hh:h∈lv x.S){n:Nat}(hn:n<(ob x.S h).Fields.length)(v:Int):Ks x.S (bS x h n v).S:=by
 have k1:=BP hR v;have hh1:h∈lv (C5 x v).S:=by rw[k1.lv];exact hh
 have hof:(ob (C5 x v).S h).Fields=(ob x.S h).Fields:=by
  obtain⟨n,e⟩:=(G3 hR v (f:=W5) λc=>D7).ob h (by have:=I1 hR hh;omega);show (ob (sf x v W5).S h).Fields=_;rw[e]
 have ho:xK (C5 x v).S (oB (ob (C5 x v).S h) ((ob x.S h).Fields.set n v)):=by
  have:=J3 k1.sr hh1;refine⟨this.s1,this.s2,this.st,this.wk,this.p1,this.p2,?_⟩;have h4:=this.fl;rw[hof] at h4;simpa using h4
 have k2:=US (o:=oB (ob (C5 x v).S h) ((ob x.S h).Fields.set n v)) k1.sr hh1 rfl ho;exact (k1.trans k2).trans (BL (x:=wS (C5 x v) (cK (C5 x v).S h (oB (ob (C5 x v).S h) ((ob x.S h).Fields.set n v)))) k2.sr _)
theorem ng(x:Hp)(h:Int)(n:Nat)(v:Int):(bS x h n v).Roots=x.Roots/\(bS x h n v).a8=x.a8/\(bS x h n v).T=x.T/\(bS x h n v).Q=x.Q:=by
 obtain⟨a,b,c,d⟩:=xe (wS (C5 x v) (cK (C5 x v).S h (oB (ob (C5 x v).S h) ((ob x.S h).Fields.set n v)))) ((ob x.S h).Fields.getD n 0);obtain⟨a',b',c',d'⟩:=nJ x v;exact⟨a.trans a',b.trans b',c.trans c',d.trans d'⟩
theorem Dp{x:Hp}(hR:SR x.S)(v:Int)(t:Tb)(old:Int):Ks x.S (jS x v t old).S:=
 (BP hR v).trans (BL (x:=wT (C5 x v) t) (hZ hR v) old)
theorem qn(x:Hp)(v:Int)(t:Tb)(old:Int):(jS x v t old).Roots=x.Roots/\(jS x v t old).a8=x.a8/\(jS x v t old).T=t/\(jS x v t old).Q=x.Q:=by
 obtain⟨a,b,c,d⟩:=xe (wT (C5 x v) t) old;obtain⟨a',b',c',d'⟩:=nJ x v;exact⟨a.trans a',b.trans b',c,d.trans d'⟩
theorem Tz{s:a7}(hR:SR s){i:Nat}(hi:i<s.S.a8.length)(h2:(ce s i).State=2):Ks s (yC s i):=⟨AY hR hi,rfl,AW hR hi h2,λh hh=>by rw[AX hR hi h2 hh]⟩
theorem TW{x:Hp}(hR:SR x.S)(h:Int){d:Int}(hd:Z7 x.S h (D3 h)->0<=(ce x.S (D3 h)).Val.Weak+d):Ks x.S (jP x h d).S:=by
 unfold jP;split
 .rename_i q;exact (lz hR q.1 q.2.1 (hd q)).ks rfl
 .exact Ks.refl hR
theorem LN(x:Hp)(h d:Int):(jP x h d).Roots=x.Roots/\(jP x h d).a8=x.a8/\(jP x h d).T=x.T/\(jP x h d).Q=x.Q:=by
 unfold jP;split <;> exact⟨rfl,rfl,rfl,rfl⟩
theorem JB(x:Hp)(h:Int):(nY x h).Roots=x.Roots/\(nY x h).a8=x.a8/\(nY x h).T=x.T/\(nY x h).Q=x.Q:=by
 unfold nY;split;·split <;> exact⟨rfl,rfl,rfl,rfl⟩
 .exact⟨rfl,rfl,rfl,rfl⟩
theorem Ic{x:Hp}(hR:SR x.S)(h:Int)(hd:Z7 x.S h (D3 h)->1<=(ce x.S (D3 h)).Val.Weak):Ks x.S (nY x h).S:=by
 unfold nY;split
 .rename_i q;have hd:=hd q;have kn:=lz (d:=-1) hR q.1 q.2.1 (by omega);split
  .rename_i c;have hi1:D3 h<(oH x.S (D3 h) (-1)).S.a8.length:=by rw[kn.len];exact q.1
   have hce:ce (oH x.S (D3 h) (-1)) (D3 h)=⟨(ce x.S (D3 h)).State,(ce x.S (D3 h)).Gen,Vz (ce x.S (D3 h)).Val ((ce x.S (D3 h)).Val.Weak + -1)⟩:=by
    rw[fz hR q.1 q.2.1,zb rfl]
   have h2:(ce (oH x.S (D3 h) (-1)) (D3 h)).State=2:=by rw[hce];exact c.1
   exact (kn.ks rfl).trans (Tz kn.sr hi1 h2)
  .exact kn.ks rfl
 .exact Ks.refl hR
theorem Ed{x:Hp}(hx:O2 x){n:Nat}(hn:n<6)(h call:Int):Ks x.S (dP x n h call).S:=by
 have hR:=hx.sh.sr;have hnl:n<x.a8.length:=by have:=hx.sh.c6;omega
 have ok:∀k i,Z7 x.S k i->0<=(ce x.S i).Val.Weak:=λk i q=>(hR.ok i q.1 q.2.1).wk;have tw:∀i,Z7 x.S (sj x n) i->1<=(ce x.S i).Val.Weak:=λi q=>by
  have htg:sj x n=x.a8[n].Target:=by
   unfold sj;rw[zf,zc hnl];rfl
  have r:=q.MN hR;have p:=rA hnl (by rw[<-htg];omega);rw[<-htg,q.2.2] at p;have:=(hx.wk i q.1 q.2.1).1;omega
 unfold dP;have s1:Ks x.S (jP (wC x (x.a8.set n (jd h call))) h 1).S:=TW (x:=wC x (x.a8.set n (jd h call))) hR h λq=>by
  have:=ok _ _ q;dsimp only;omega
 by_cases q:Z7 x.S h (D3 h)
 .have e:jP (wC x (x.a8.set n (jd h call))) h 1=wS (wC x (x.a8.set n (jd h call))) (oH x.S (D3 h) 1):=by
   unfold jP;rw[zb q]
  have hd:=ok _ _ q;have kn:=lz (d:=1) hR q.1 q.2.1 (by omega);rw[e] at s1 |-;refine s1.trans (Ic (x:=wS (wC x (x.a8.set n (jd h call))) (oH x.S (D3 h) 1)) kn.sr _ λq2=>?_);dsimp only at q2 |-;have q3:=(kn.ad _ _).1 q2;have:=tw _ q3;rw[fz hR q.1 q.2.1];split
  .rename_i e2;rw[e2] at this;show 1<=(ce x.S (D3 h)).Val.Weak+1;omega
  .exact this
 .have e:jP (wC x (x.a8.set n (jd h call))) h 1=wC x (x.a8.set n (jd h call)):=by
   unfold jP;rw[za q]
  rw[e] at s1 |-;exact s1.trans (Ic (x:=wC x (x.a8.set n (jd h call))) hR _ λq2=>tw _ q2)
theorem xB(x:Hp)(n:Nat)(h call:Int):(dP x n h call).Roots=x.Roots/\(dP x n h call).a8=x.a8.set n (jd h call)/\(dP x n h call).T=x.T/\(dP x n h call).Q=x.Q:=by
 obtain⟨a,b,c,d⟩:=JB (jP (wC x (x.a8.set n (jd h call))) h 1) (sj x n);obtain⟨a',b',c',d'⟩:=LN (wC x (x.a8.set n (jd h call))) h 1;exact⟨a.trans a',b.trans b',c.trans c',d.trans d'⟩
abbrev Xo(s:a7)(n:Nat)(p:Int):o9:=⟨s.Serial+1,0,0,p,false,List.replicate n 0⟩
def eK(s:a7)(i n:Nat)(p:Int):a7:=⟨⟨s.S.a8.set i ⟨1,(ce s i).Gen,Xo s n p⟩,s.S.Last⟩,s.Serial+1⟩
section
variable{s:a7}(hR:SR s){i:Nat}(hi:i<s.S.a8.length)(h0:(ce s i).State=0){n:Nat}(hn:n<=4){p:Int}(hp : -1<=p/\p<=5)
include hR hi h0 hn hp
theorem jv:(eK s i n p).S.a8.length=s.S.a8.length:=by simp[eK]
theorem mz(j:Nat):ce (eK s i n p) j=if j=i then ⟨1,(ce s i).Gen,Xo s n p⟩ else ce s j:=jF hi _ _ j
theorem Dh:SR (eK s i n p):=by
 have hser:=hR.T5;have hc:=hR.cell i hi;have hnt:¬Th (ce s i):=λh=>by
  rcases h with h | h <;> omega
 refine⟨by rw[jv hR hi h0 hn hp];exact hR.len,hR.l0,hR.l9,by show 0<=s.Serial+1;omega,λj hj=>?_,λj hj ht=>?_,λj hj ht=>?_,λj k hj hk a b e=>?_⟩
 .rw[jv hR hi h0 hn hp] at hj;rw[mz hR hi h0 hn hp];split;·exact⟨show (0:Int)<=1 by decide,show (1:Int)<=3 by decide,hc.2.2.1,hc.2.2.2⟩
  .exact hR.cell j hj
 .rw[jv hR hi h0 hn hp] at hj;rw[mz hR hi h0 hn hp] at ht |-;split at ht;·exact absurd (.inl rfl) ht
  .rename_i e;rw[za e];exact hR.no j hj ht
 .rw[jv hR hi h0 hn hp] at hj;rw[mz hR hi h0 hn hp] at ht |-;split at ht
  .rename_i e;rw[zb e];exact⟨by show 1<=s.Serial+1;omega,q9 _,q9 0,q9 0,hp.1,hp.2,by simpa using hn⟩
  .rename_i e;rw[za e];have:=hR.ok j hj ht;exact⟨this.s1,by show _<=s.Serial+1;have:=this.s2;omega,this.st,this.wk,this.p1,this.p2,this.fl⟩
 .rw[jv hR hi h0 hn hp] at hj hk;rw[mz hR hi h0 hn hp] at a e;rw[mz hR hi h0 hn hp] at b e;have old:∀m,m<s.S.a8.length->Th (ce s m)->(ce s m).Val.Serial≠s.Serial+1:=λm hm t q=>by
   have:=(hR.ok m hm t).s2;omega
  by_cases ej:j=i <;> by_cases ek:k=i
  .rw[ej,ek]
  .rw[za ek] at b e;rw[zb ej] at e;exact absurd e.symm (old k hk b)
  .rw[za ej] at a e;rw[zb ek] at e;exact absurd e (old j hj a)
  .rw[za ej] at a e;rw[za ek] at b e;exact hR.dif j k hj hk a b e
theorem Fh{k:Int}{j:Nat}(q:Z7 s k j):j≠i:=λe=>by
 subst e;rcases q.2.1 with h | h <;> omega
theorem TV{k:Int}{j:Nat}:Z7 (eK s i n p) k j↔Z7 s k j\/(j=i/\k=dE s i):=by
 unfold Z7;rw[jv hR hi h0 hn hp,mz hR hi h0 hn hp];by_cases e:j=i
 .rw[zb e];subst e;constructor
  .rintro⟨a,b,c⟩;exact .inr ⟨rfl,c⟩
  .rintro (⟨a,b,c⟩ | ⟨_,c⟩);·exact absurd rfl (Fh hR hi h0 hn hp ⟨a,b,c⟩)
   .exact⟨hi,.inl rfl,c⟩
 .rw[za e];constructor;·exact .inl
  .rintro (h | ⟨h,_⟩);·exact h
   .exact absurd h e
theorem Hg:lv (eK s i n p)=lv s ++ [dE s i]:=by
 have e:=Fg (s:=s) (y4.2 hR) hi (by rw[<-E9 hi];exact h0) (Xo s n p) rfl (dd (y4.2 hR));unfold eK;rw[show (ce s i).Gen=s.S.a8[i].Gen by rw[E9 hi]];have e2:dE s i=1+(i:Int)+32*s.S.a8[i].Gen:=by unfold dE;rw[E9 hi]
 rw[e2];have:=dd (y4.2 (by have:=Dh hR hi h0 hn hp;unfold eK at this;rw[show (ce s i).Gen=s.S.a8[i].Gen by rw[E9 hi]] at this;exact this));rw[e] at this;exact (u8 this).symm
theorem LL:dE s i∉lv s:=λh=>by
 obtain⟨j,q⟩:=(fF hR).1 h;have:i=j:=by
  have a:=q.2.2;have b:=q.1;unfold dE at a;have:=hR.len;omega
 subst this;have:=q.2.1;omega
theorem yO{k:Int}(hk:k∈lv s):ob (eK s i n p) k=ob s k:=by
 obtain⟨j,q⟩:=(fF hR).1 hk;have hj:=Fh hR hi h0 hn hp q.d;have q2:At (eK s i n p) k j:=by
  refine⟨by rw[jv hR hi h0 hn hp];exact q.1,?_,?_⟩ <;> rw[mz hR hi h0 hn hp,za hj]
  .exact q.2.1
  .exact q.2.2
 rw[Q0 (Dh hR hi h0 hn hp) q2,Q0 hR q,mz hR hi h0 hn hp,za hj]
theorem tg:ob (eK s i n p) (dE s i)=Xo s n p:=by
 have q2:At (eK s i n p) (dE s i) i:=by
  refine⟨by rw[jv hR hi h0 hn hp];exact hi,?_,?_⟩ <;> rw[mz hR hi h0 hn hp,zb rfl]
  rfl
 rw[Q0 (Dh hR hi h0 hn hp) q2,mz hR hi h0 hn hp,zb rfl]
end
theorem Ia{l:List Int}{h:Int}(e:h∉l):aE l h=0:=Nat.eq_zero_of_not_pos λq=>e (dC.1 q).2
theorem LM{x:Hp}(hx:O2 x){i:Nat}(hi:i<x.S.S.a8.length)(h0:(ce x.S i).State=0){n:Nat}(hn:n<=4){p:Int}(hp : -1<=p/\p<=5):O2 (wS x (eK x.S i n p)):=by
 have hR:=hx.sh.sr;have hS:=Dh hR hi h0 hn hp;have hl:=Hg hR hi h0 hn hp;have hnew:=LL hR hi h0 hn hp;have mem:∀ {k},k∈lv x.S->k∈lv (eK x.S i n p):=λhk=>by rw[hl];exact mt _ hk
 have mem0:∀ {k},k=0\/k∈lv x.S->k=0\/k∈lv (eK x.S i n p):=λhk=>hk.imp id mem;have hpos:=uZ hR hi;have split:∀ {k},k∈lv (eK x.S i n p)->k∈lv x.S\/k=dE x.S i:=λhk=>by
  rw[hl] at hk;rcases zw.1 hk with q | q
  .exact .inl q
  .exact .inr (zH.1 q)
 have rep:∀v∈List.replicate n (0:Int),v=0:=λv hv=>(za3.1 hv).2;have ntgt:∀j (hj:j<x.a8.length),x.a8[j].Target≠dE x.S i:=λj hj e=>by
  obtain⟨q,hq⟩:=(hx.sh.cl j hj).2.2.2.1 (by rw[e];omega);rw[e] at hq;have:q=i:=by
   have a:=hq.2.2;have b:=hq.1;unfold dE at a;have:=hR.len;omega
  exact Fh hR hi h0 hn hp hq this
 refine⟨⟨hS,hx.sh.hr,hx.sh.r6,hx.sh.c6,hx.sh.cap,hx.sh.q30,λt ht=>?_,hx.sh.td,λh hh=>mem0 (hx.sh.rt h hh),λh hh v hv=>?_,λk v hk=>?_,λj hj=>?_⟩,λj hj ht=>?_,λh hh hs=>?_⟩
 .obtain⟨a,b,c⟩:=hx.sh.tk t ht;refine⟨a,b,c.imp (λ⟨d,e,f⟩=>⟨d,mem e,?_⟩) id⟩;show (ob (eK x.S i n p) t.At).Started=true;rw[yO hR hi h0 hn hp e];exact f
 .rcases split hh with q | q
  .have hv':v∈(ob (eK x.S i n p) h).Fields:=hv;rw[yO hR hi h0 hn hp q] at hv';exact mem0 (hx.sh.fl h q v hv')
  .subst q;have hv':v∈(ob (eK x.S i n p) (dE x.S i)).Fields:=hv;rw[tg hR hi h0 hn hp] at hv';exact .inl (rep v hv')
 .obtain⟨a,b⟩:=hx.sh.pr k v hk;exact⟨mem a,mem b⟩
 .obtain⟨a,b,c,d,e⟩:=hx.sh.cl j hj;refine⟨a,b,c,λq=>?_,λq=>⟨mem (e q).1,(e q).2⟩⟩;obtain⟨m,hm⟩:=d q;exact⟨m,(TV hR hi h0 hn hp).2 (.inl hm)⟩
 .have hj':j<x.S.S.a8.length:=by have:j<(eK x.S i n p).S.a8.length:=hj;rwa [jv hR hi h0 hn hp] at this
  show (ce (eK x.S i n p) j).Val.Weak=(Cr x.a8 (1+(j:Int)+32*(ce (eK x.S i n p) j).Gen):Int)/\_;have ht':Th (ce (eK x.S i n p) j):=ht;rw[mz hR hi h0 hn hp] at ht' |-;by_cases e:j=i
  .subst e;rw[zb rfl];refine⟨?_,λq=>absurd (show (1:Int)=2 from q) (by decide)⟩;show (0:Int)=(Cr x.a8 (dE x.S j):Int);have:Cr x.a8 (dE x.S j)=0:=by
    unfold Cr;rw[List.countP_eq_zero];intro c hc;obtain⟨m,hm,rfl⟩:=zbd hc;have:=ntgt m hm;simp[this]
   rw[this];rfl
  .rw[za e] at ht' |-;exact hx.wk j hj' ht'
 .have hinn:∀y,jt (eK x.S i n p) y=jt x.S y:=λy=>by
   unfold jt;rw[hl,zad,List.sum_append];have e1:(lv x.S).map (λk=>aE (outs (eK x.S i n p) k) y)=(lv x.S).map λk=>aE (outs x.S k) y:=zP λk hk=>by
    unfold outs;rw[yO hR hi h0 hn hp hk]
   rw[e1];have e2:outs (eK x.S i n p) (dE x.S i) = []:=by
    refine zaz.2 λv hv=>?_;have h1:=lC.1 hv;rw[tg hR hi h0 hn hp] at h1;exact h1.2 (rep v h1.1)
   simp[e2,R3]
  have hnm:∀y,pj (wS x (eK x.S i n p)) y=pj x y:=λy=>by
   unfold pj;show jt (eK x.S i n p) y+own x.T y+aE (pk x) y=_;rw[hinn]
  rw[hnm];have hs':(ob (eK x.S i n p) h).Strong<12:=hs;show (ob (eK x.S i n p) h).Strong=_;rcases split hh with q | q
  .rw[yO hR hi h0 hn hp q] at hs' |-;exact hx.fair h q hs'
  .subst q;rw[tg hR hi h0 hn hp];have h1:pj x (dE x.S i)=0:=by
    unfold pj;have a1:jt x.S (dE x.S i)=0:=by
     unfold jt;have:=FU (λk=>aE (outs x.S k) (dE x.S i)) 0 (lv x.S) λk hk=>Nat.le_of_eq<|Ia λq=>by
      have q2:=lC.1 q;rcases hx.sh.fl k hk _ q2.1 with e | e
      .exact q2.2 e
      .exact hnew e
     omega
    have a2:own x.T (dE x.S i)=0:=by
     unfold own;rw[List.countP_eq_zero];intro c hc;have:=(hx.sh.pr _ _ (iU.1 hc)).2;have hne:c.Val≠dE x.S i:=λe=>hnew (e▸this);simp[hne]
    have a3:aE (pk x) (dE x.S i)=0:=Ia λq=>by
     unfold pk at q;rcases zw.1 q with q | q
     .have q2:=lC.1 q;rcases hx.sh.rt _ q2.1 with e | e
      .exact q2.2 e
      .exact hnew e
     .obtain⟨t,ht,k1,k2⟩:=rz.1 q;rcases (hx.sh.tk t ht).2.2 with ⟨_,b,_⟩ | ⟨b,_⟩;·exact hnew (k2▸b)
      .omega
    omega
   rw[h1,R3];rfl
structure Ev (x y:Hp):Prop where
 lv:∀h∈lv y.S,(h∈Sh.lv x.S/\(ob y.S h).Serial=(ob x.S h).Serial)\/(h∉Sh.lv x.S/\(ob y.S h).Serial=x.S.Serial+1)
 s1:x.S.Serial<=y.S.Serial
 s2:y.S.Serial<=x.S.Serial+1
theorem Ev.refl(x:Hp):Ev x x:=⟨λh hh=>.inl ⟨hh,rfl⟩,by omega,by omega⟩
theorem Ks.ev{x y:Hp}(k:Ks x.S y.S):Ev x y:=⟨λh hh=>by
 rw[k.lv] at hh;exact .inl ⟨hh,k.ob h hh⟩,by rw[k.T5];omega,by rw[k.T5];omega⟩
theorem Ev.ks{x y z:Hp}(e:Ev x y)(k:Ks y.S z.S):Ev x z:=⟨λh hh=>by
 rw[k.lv] at hh;rw[k.ob h hh];exact e.lv h hh,by rw[k.T5];exact e.s1,by rw[k.T5];exact e.s2⟩
theorem Ev.Yw{x y z:Hp}(e:Ev x y)(s:Cv y z):Ev x z:=⟨λh hh=>by
 rw[(s.ob h hh).1];exact e.lv h (s.lv h hh),by rw[s.T5];exact e.s1,by rw[s.T5];exact e.s2⟩
theorem Wt{x:Hp}(hx:O2 x){i:Nat}(hi:i<x.S.S.a8.length)(h0:(ce x.S i).State=0){n:Nat}(hn:n<=4){p:Int}(hp : -1<=p/\p<=5):Ev x (wS x (eK x.S i n p)):=⟨λh hh=>by
 have hR:=hx.sh.sr;have hh':h∈lv (eK x.S i n p):=hh;show (_/\(ob (eK x.S i n p) h).Serial=_)\/_/\(ob (eK x.S i n p) h).Serial=_;rw[Hg hR hi h0 hn hp] at hh';rcases zw.1 hh' with q | q
 .exact .inl ⟨q,by rw[yO hR hi h0 hn hp q]⟩
 .rw[zH.1 q];exact .inr ⟨LL hR hi h0 hn hp,by rw[tg hR hi h0 hn hp]⟩,by show _<=x.S.Serial+1;omega,q9 _⟩
def Cw(x y:Hp)(w:Int):Prop:=∀i:Nat,(i:Int)≠w->(y.a8.getD i cz).Target=(x.a8.getD i cz).Target/\((y.a8.getD i cz).Intact=true->(x.a8.getD i cz).Intact=true)
theorem Cw.refl(x:Hp)(w:Int):Cw x x w:=λi _=>⟨rfl,id⟩
theorem Cw.same{x y:Hp}(h:y.a8=x.a8)(w:Int):Cw x y w:=λi _=>by rw[h];exact⟨rfl,id⟩
theorem Cw.trans{x y z:Hp}{w:Int}(a:Cw x y w)(b:Cw y z w):Cw x z w:=λi hi=>⟨(b i hi).1.trans (a i hi).1,λq=>(a i hi).2 ((b i hi).2 q)⟩
theorem Cv.cw{x y:Hp}(s:Cv x y)(w:Int):Cw x y w:=λi _=>by
 by_cases h:i<x.a8.length
 .have h':i<y.a8.length:=by rw[s.cn];exact h
  rw[GQ h,GQ h',s.cl i h' h];exact⟨rfl,λq=>(zk _ _▸q).1⟩
 .have h':¬i<y.a8.length:=by rw[s.cn];exact h
  rw[zf,zf,t7 (by omega),t7 (by omega)];exact⟨rfl,id⟩
theorem Cw.set{x y:Hp}{w:Nat}{c:j5}(h:y.a8=x.a8.set w c):Cw x y w:=λi hi=>by
 rw[h,zf,zf,zbs (by omega)];exact⟨rfl,id⟩
def VD(s:a7)(i:Nat):Prop:=i<s.S.a8.length/\(ce s i).State=0/\∀j,j<i->(ce s j).State≠0
theorem Wp{s:a7}(hR:SR s)(hb:s.Serial<9223372036854775807)(a p:Int) :
  (¬(0<=a/\a<=4)/\O0 s a p=some (s,0,1)) \/
  ((0<=a/\a<=4)/\¬(-1<=p/\p<=5)/\O0 s a p=some (s,0,13)) \/
  ((0<=a/\a<=4)/\(-1<=p/\p<=5)/\(∀i,i<s.S.a8.length->(ce s i).State≠0)/\O0 s a p=some (s,0,4)) \/
  ((0<=a/\a<=4)/\(-1<=p/\p<=5)/\∃i,VD s i/\O0 s a p=some (eK s i a.toNat p,dE s i,0)):=by
 have hs':=hR.T5;have hR':=y4.2 hR;unfold O0 sw;by_cases ha:0<=a/\a<=4
 .right;obtain⟨ha1,ha2⟩:=ha;obtain⟨n,rfl⟩:∃n:Nat,a=n:=⟨a.toNat,by omega⟩;rw[za (by simp;omega),jO (by omega) (by omega)];simp only[Yx];by_cases hp : -1<=p/\p<=5
  .right;unfold T9;simp only[Yx];have e1:(decide (p >= -1)&&decide (p<6))=true:=by simp;omega
   rw[e1];have hl:Yj s.S:=⟨jx hR',hR'.l0,hR'.l9,λi hi=>BN hR' i hi⟩;rcases Cb hl ⟨s.Serial+1,0,0,p,false,List.replicate n 0⟩ with ⟨i,hi,h0,hf,e⟩ | ⟨hf,e⟩
   .right;refine⟨⟨ha1,ha2⟩,hp,i,⟨hi,by rw[E9 hi];exact h0,λj hj=>by rw[E9 (by omega)];exact hf j hj⟩,?_⟩;simp only[zav,zm,zY,Bool.not_true];rw[show z8 (s.Serial+1)=s.Serial+1 from F7 (by omega) (by omega),e];unfold eK dE;rw[E9 hi];simp
   .left;refine⟨⟨ha1,ha2⟩,hp,λi hi=>by rw[E9 hi];exact hf i hi,?_⟩;simp only[zav,zm,zY,Bool.not_true];rw[show z8 (s.Serial+1)=s.Serial+1 from F7 (by omega) (by omega),e];simp
  .left;refine⟨⟨ha1,ha2⟩,hp,?_⟩;unfold T9;simp only[Yx];have e1:(decide (p >= -1)&&decide (p<6))=false:=by rw[zbb];simp;omega
   rw[e1];simp
 .left;refine⟨ha,?_⟩;rw[zb (by simp;omega)];simp
def sd(x:Hp)(r:Int):Int:=if r<0 then 0 else x.Roots.getD r.toNat 0
def uT(x:Hp)(r:Int):Int × Int:=if sd x r=0 then (0,2) else (sd x r,0)
def T5(x:Hp)(h:Int):Int:=(ob x.S h).Serial
theorem yD{n l m e:Int}(he:e≠0)(h:L6 n l m e=0):l<=n/\n<=m:=by
 unfold L6 at h;split at h;·exact absurd h he
 .omega
theorem ES{a b c:Int}(h:aA a b c=0):a=0/\b=0/\c=0:=by
 unfold aA at h;split at h;·contradiction
 .split at h;·contradiction
  .omega
theorem Bg{k a b c:Int}(h:A8 k a b c=0):1<=k/\k<=12:=by
 refine Decidable.byContradiction λq=>?_;have:A8 k a b c=14:=by
  unfold A8;repeat rw[za (by omega)]
 omega
theorem Xy{a b c:Int}(h:A8 1 a b c=0):(0<=a/\a<=5)/\(0<=b/\b<=4) /\ -1<=c/\c<=5:=by
 obtain⟨h1,h2,h3⟩:=ES (show aA (L6 a 0 5 6) (L6 b 0 4 1) (L6 c (-1) 5 13)=0 from h);exact⟨yD (by decide) h1,yD (by decide) h2,yD (by decide) h3⟩
theorem SV{a b c:Int}(h:A8 2 a b c=0):(0<=a/\a<=5)/\(0<=b/\b<=5):=by
 obtain⟨h1,h2,_⟩:=ES (show aA (L6 a 0 5 6) (L6 b 0 5 6) 0=0 from h);exact⟨yD (by decide) h1,yD (by decide) h2⟩
theorem Xz{a b c:Int}(h:A8 3 a b c=0):0<=a/\a<=5:=yD (by decide) (show L6 a 0 5 6=0 from h)
theorem XA{a b c:Int}(h:A8 4 a b c=0):(0<=a/\a<=5)/\(0<=b/\b<=5)/\0<=c/\c<=3:=by
 obtain⟨h1,h2,h3⟩:=ES (show aA (L6 a 0 5 6) (L6 b 0 5 6) (L6 c 0 3 5)=0 from h);exact⟨yD (by decide) h1,yD (by decide) h2,yD (by decide) h3⟩
theorem XB{a b c:Int}(h:A8 5 a b c=0):(0<=a/\a<=5)/\(0<=b/\b<=3) /\ -1<=c/\c<=5:=by
 obtain⟨h1,h2,h3⟩:=ES (show aA (L6 a 0 5 6) (L6 b 0 3 5) (L6 c (-1) 5 6)=0 from h);exact⟨yD (by decide) h1,yD (by decide) h2,yD (by decide) h3⟩
theorem XC{a b c:Int}(h:A8 6 a b c=0):(0<=a/\a<=5)/\(-1<=b/\b<=5) /\ -1<=c/\c<=5:=by
 obtain⟨h1,h2,h3⟩:=ES (show aA (L6 a 0 5 7) (L6 b (-1) 5 6) (L6 c (-1) 5 13)=0 from h);exact⟨yD (by decide) h1,yD (by decide) h2,yD (by decide) h3⟩
theorem XD{a b c:Int}(h:A8 7 a b c=0):(0<=a/\a<=5)/\(0<=b/\b<=5):=by
 obtain⟨h1,h2,_⟩:=ES (show aA (L6 a 0 5 6) (L6 b 0 5 7) 0=0 from h);exact⟨yD (by decide) h1,yD (by decide) h2⟩
theorem XE{a b c:Int}(h:A8 8 a b c=0):(0<=a/\a<=5)/\(-1<=b/\b<=5):=by
 obtain⟨h1,h2,_⟩:=ES (show aA (L6 a 0 5 6) (L6 b (-1) 5 6) 0=0 from h);exact⟨yD (by decide) h1,yD (by decide) h2⟩
theorem XF{a b c:Int}(h:A8 9 a b c=0):(0<=a/\a<=5)/\(0<=b/\b<=5):=SV (show A8 2 a b c=0 from h)
theorem VL{a b c:Int}(h:A8 10 a b c=0):(0<=a/\a<=5)/\(0<=b/\b<=5):=SV (show A8 2 a b c=0 from h)
section
variable{x:Hp}(hx:mH x)
include hx
theorem uk{r:Int}(h:0<=r/\r<=5):ix x.Roots r=some (sd x r):=by
 have:=hx.r6;obtain⟨n,rfl⟩:∃n:Nat,r=n:=⟨r.toNat,by omega⟩;have hn:n<x.Roots.length:=by omega
 rw[u6 hn];unfold sd;rw[za (by omega),zX,zf,zc hn];rfl
theorem xk{r:Int}(h:¬(0<=r/\r<=5)):sd x r=0:=by
 have:=hx.r6;unfold sd;split;·rfl
 .rw[zf,t7 (by omega)];rfl
theorem pR(r:Int):sd x r=0\/sd x r∈lv x.S:=by
 by_cases h:0<=r/\r<=5
 .have e:=uk hx h;unfold ix at e;rw[zb h.1] at e;exact hx.rt _ (zg e)
 .exact .inl (xk hx h)
theorem um(r:Int):sd x r<=9223372036854775807:=by
 rcases pR hx r with h | h
 .omega
 .have:=I1 hx.sr h;omega
theorem lT(r:Int):L8 x r=some (sd x r):=by
 have h6:=hx.r6;unfold L8;by_cases h:0<=r/\r<=5
 .rw[za (by simp;omega),uk hx h];rfl
 .rw[zb (by simp;omega),xk hx h]
theorem MY{r:Int}(h:r<=5):jZ (hO x) r=some (sd x r):=by
 unfold jZ;by_cases q:r<0
 .rw[zb (by simpa using q),xk hx (by omega)]
 .rw[za (by simpa using q),show (hO x).Roots=x.Roots from rfl,uk hx (by omega)];rfl
theorem jQ(r:Int):M6 x r=some (uT x r):=by
 unfold M6 uT;rw[lT hx,Yx];by_cases h:sd x r=0
 .rw[zb (by simpa using h),zb h]
 .rw[za (by simpa using h),za h]
theorem qG{r:Int}(h:0<=r/\r<=5):ae (hO x) r=some (uT x r):=by
 unfold ae uT;rw[show (hO x).Roots=x.Roots from rfl,uk hx h,Yx];by_cases h:sd x r=0
 .rw[zb (by simpa using h),zb h]
 .rw[za (by simpa using h),za h]
theorem Nc{h:Int}(hh:h<=9223372036854775807):aM x h=some (T5 x h):=by
 obtain⟨e,h1,_⟩:=aI (y4.2 hx.sr) hh;unfold aM;rw[h1];rfl
theorem RX{h:Int}(hh:h<=9223372036854775807):gV (hO x) h=some (T5 x h):=by
 obtain⟨e,h1,_⟩:=aI (y4.2 hx.sr) hh;unfold gV;rw[show (hO x).S=sO x.S from rfl,qX x.S (by have:=hx.sr.len;omega) hh,h1];rfl
theorem Cz(r:Int):aL x r=some (T5 x (sd x r)):=by
 unfold aL;rw[lT hx,Yx,Nc hx (um hx r)];rfl
theorem DJ:T5 x 0=0:=by
 unfold T5;rw[pL (y4.2 hx.sr) (by omega) (ph hx.sr)]
theorem VK(r:Int):tC (hO x) r=some (T5 x (sd x r)):=by
 unfold tC;by_cases h:0<=r/\r<=5
 .rw[za (by simp;omega),show (hO x).Roots=x.Roots from rfl,uk hx h,Yx,RX hx (um hx r)];rfl
 .rw[zb (by simp;omega),xk hx h,DJ hx]
end
theorem UU{x z:Hp}(hx:mH x)(k:Ks x.S z.S){h:Int}(hh:h=0\/h∈lv x.S):T5 z h=T5 x h:=by
 rcases hh with e | e
 .subst e;unfold T5;rw[pL (y4.2 hx.sr) (by omega) (ph hx.sr),pL (y4.2 k.sr) (by omega) (ph k.sr)]
 .exact k.ob h e
theorem QM{x z:Hp}(h:z.Roots=x.Roots)(r:Int):sd z r=sd x r:=by unfold sd;rw[h]
noncomputable def xO(x:Hp)(o:c8)(v:Hp × Int):Option (Hp × Int × Int):=
 if (v.2 != 0) then some (x,0,v.2) else (P6 v.1).bind λv5=>(W6 v.1 v5 o).bind λv6=>some (v5,v6,0)
theorem pD{x:Hp}{o:c8}{n:Option Nat}(hc:A8 o.Kind o.A o.B o.C=0)(hk:∃l,eI=some l/\y9 l o.Kind=some n):x6 x o=(uY n ⟨x,o⟩).bind (xO x o):=by
 obtain⟨l,h1,h2⟩:=hk;unfold x6;rw[mW,hc,Yx,za (by simp),h1,Yx,h2,za (by simp)];rfl
theorem EJ{x:Hp}{o:c8}(hc:A8 o.Kind o.A o.B o.C≠0):x6 x o=some (x,0,A8 o.Kind o.A o.B o.C)/\D8 (hO x) ⟨o.Kind,o.A,o.B,o.C⟩=some (hO x,0,A8 o.Kind o.A o.B o.C):=by
 constructor
 .unfold x6;rw[mW,Yx,zb (by simpa using hc)]
 .unfold D8;rw[iH,Yx,zb (by simpa using hc)]
section
variable{x:Hp}{a b c:Int}
theorem XJ(hc:A8 1 a b c=0):x6 x ⟨1,a,b,c⟩=(V1 ⟨x,⟨1,a,b,c⟩⟩).bind (xO x ⟨1,a,b,c⟩):=pD (o:=⟨1,a,b,c⟩) (n:=some 97) hc ⟨_,rfl,rfl⟩
theorem XK(hc:A8 2 a b c=0):x6 x ⟨2,a,b,c⟩=(I2 ⟨x,⟨2,a,b,c⟩⟩).bind (xO x ⟨2,a,b,c⟩):=pD (o:=⟨2,a,b,c⟩) (n:=some 98) hc ⟨_,rfl,rfl⟩
theorem XL(hc:A8 3 a b c=0):x6 x ⟨3,a,b,c⟩=(aB ⟨x,⟨3,a,b,c⟩⟩).bind (xO x ⟨3,a,b,c⟩):=pD (o:=⟨3,a,b,c⟩) (n:=some 99) hc ⟨_,rfl,rfl⟩
theorem XM(hc:A8 4 a b c=0):x6 x ⟨4,a,b,c⟩=(aC ⟨x,⟨4,a,b,c⟩⟩).bind (xO x ⟨4,a,b,c⟩):=pD (o:=⟨4,a,b,c⟩) (n:=some 100) hc ⟨_,rfl,rfl⟩
theorem XN(hc:A8 5 a b c=0):x6 x ⟨5,a,b,c⟩=(Y2 ⟨x,⟨5,a,b,c⟩⟩).bind (xO x ⟨5,a,b,c⟩):=pD (o:=⟨5,a,b,c⟩) (n:=some 101) hc ⟨_,rfl,rfl⟩
theorem XO(hc:A8 6 a b c=0):x6 x ⟨6,a,b,c⟩=(V2 ⟨x,⟨6,a,b,c⟩⟩).bind (xO x ⟨6,a,b,c⟩):=pD (o:=⟨6,a,b,c⟩) (n:=some 102) hc ⟨_,rfl,rfl⟩
theorem XP(hc:A8 7 a b c=0):x6 x ⟨7,a,b,c⟩=(Z5 ⟨x,⟨7,a,b,c⟩⟩).bind (xO x ⟨7,a,b,c⟩):=pD (o:=⟨7,a,b,c⟩) (n:=some 103) hc ⟨_,rfl,rfl⟩
theorem XQ(hc:A8 8 a b c=0):x6 x ⟨8,a,b,c⟩=(aD ⟨x,⟨8,a,b,c⟩⟩).bind (xO x ⟨8,a,b,c⟩):=pD (o:=⟨8,a,b,c⟩) (n:=some 104) hc ⟨_,rfl,rfl⟩
theorem XR(hc:A8 9 a b c=0):x6 x ⟨9,a,b,c⟩=(bf ⟨x,⟨9,a,b,c⟩⟩).bind (xO x ⟨9,a,b,c⟩):=pD (o:=⟨9,a,b,c⟩) (n:=some 105) hc ⟨_,rfl,rfl⟩
theorem VP(hc:A8 10 a b c=0):x6 x ⟨10,a,b,c⟩=(Q4 ⟨x,⟨10,a,b,c⟩⟩).bind (xO x ⟨10,a,b,c⟩):=pD (o:=⟨10,a,b,c⟩) (n:=some 106) hc ⟨_,rfl,rfl⟩
theorem sL{k:Int}(hk:k=11\/k=12)(hc:A8 k a b c=0):x6 x ⟨k,a,b,c⟩=some (x,0,14)/\D8 (hO x) ⟨k,a,b,c⟩=some (hO x,0,14):=by
 constructor
 .unfold x6;rw[mW,hc,Yx,za (by simp)];rcases hk with rfl | rfl <;> rfl
 .unfold D8 ab;rw[iH,hc,Yx,za (by simp)];rcases hk with rfl | rfl <;> rfl
variable{y:o6}
def rT(y:o6)(a:Int)(v:Int × Int):Option (o6 × Int × Int):=
 if (v.2 != 0) then some (y,0,v.2) else (gS y a v.1).bind λv15=>(aP v15.1).bind λv16=>(tC v16 a).bind λv17=>some (v16,v17,0)
def rO(y:o6)(v:o6 × Int × Int):Option (o6 × Int × Int):=
 if (v.2.2 != 0) then some (y,0,v.2.2) else (aP v.1).bind λv8=>(gV y v.2.1).bind λv9=>some (v8,v9,0)
theorem HH{k:Int}(hk:k=2\/k=3\/k=4\/k=7\/k=9)(hc:A8 k a b c=0):D8 y ⟨k,a,b,c⟩=(ed y ⟨k,a,b,c⟩).bind (rT y a):=by
 unfold D8 ab;rw[iH,hc,Yx,za (by simp)];rcases hk with rfl | rfl | rfl | rfl | rfl <;> rfl
theorem HG{k:Int}(hk:k=5\/k=6\/k=8)(hc:A8 k a b c=0):D8 y ⟨k,a,b,c⟩=(cE y ⟨k,a,b,c⟩).bind (rO y):=by
 unfold D8 ab;rw[iH,hc,Yx,za (by simp)];rcases hk with rfl | rfl | rfl <;> rfl
theorem WT(hc:A8 1 a b c=0):D8 y ⟨1,a,b,c⟩=(fg y.S b c).bind λv10=>if (v10.2.2 != 0) then some (y,0,v10.2.2) else (gS ⟨v10.1,y.Roots,y.a8,y.T,y.Q⟩ a v10.2.1).bind λv11=>(aP v11.1).bind λv12=>(tC v12 a).bind λv13=>some (v12,v13,0):=by
 unfold D8 ab;rw[iH,hc,Yx,za (by simp)];rfl
theorem UM(hc:A8 10 a b c=0):D8 y ⟨10,a,b,c⟩=(ix y.Roots a).bind λv3=>(ix y.Roots b).bind λv4=>if (v3==v4) then some (y,1,0) else some (y,0,0):=by
 unfold D8 ab;rw[iH,hc,Yx,za (by simp)];rfl
end
section
variable{s:a7}(hR:SR s){i:Nat}(hi:i<s.S.a8.length)
include hR hi
theorem Vj(st g:Int):bY (sO s) ⟨(pl (sO s)).a8.set i ⟨st,g,0⟩,(pl (sO s)).Last⟩=some ⟨(sO s).a8.set i ⟨st,g,oo (ce s i).Val⟩,s.S.Last,s.Serial⟩:=by
 have hlen:=hR.len;have R8:i<(pl (sO s)).a8.length:=by rw[bX,C0];exact hi
 rw[xv _ _ (by rw[C0];omega) (by simp[bX])];congr 1;congr 1;refine zbi (by simp) λk h1 h2=>?_;have hk:k<s.S.a8.length:=by simpa[C0] using h1
 have hk2:k<(sO s).a8.length:=by rw[C0];exact hk
 have hk3:k<(pl (sO s)).a8.length:=by rw[bX];exact hk2
 simp only[ut,List.getElem_range,zb2];have e1:(sO s).a8.getD k ⟨0,0,oo z0⟩=cO (ce s k):=by
  rw[zf,zc hk2,E9 hk];simp[sO]
 have e2:((pl (sO s)).a8.set i ⟨st,g,0⟩).getD k ⟨0,0,0⟩=if k=i then ⟨st,g,0⟩ else xY k (cO (ce s k)):=by
  rw[jF R8];split;·rfl
  .rw[zf,zc hk3,E9 hk];simp[pl,sO]
 rw[e1,e2];by_cases e:k=i
 .subst e;rw[zb rfl,zb rfl];rfl
 .rw[za e,za (zam e)];rw[E9 hk];simp[sO,xY,cO]
theorem Vk(st g:Int)(o:R1):fh ⟨(sO s).a8.set i ⟨st,g,oo (ce s i).Val⟩,s.S.Last,s.Serial⟩ (i:Int) o=some ⟨(sO s).a8.set i ⟨st,g,o⟩,s.S.Last,s.Serial⟩:=by
 have hlen:=hR.len;unfold fh;have hi2:i<((sO s).a8.set i ⟨st,g,oo (ce s i).Val⟩).length:=by simp[C0];exact hi
 rw[U9 (by omega) (by simp[C0];omega),Yx,u6 hi2,Yx];simp[zce]
theorem Mv:∃h:i<(pl (sO s)).a8.length,(pl (sO s)).a8[i]=⟨(ce s i).State,(ce s i).Gen,(i:Int)⟩:=by
 have R8:i<(pl (sO s)).a8.length:=by rw[bX,C0];exact hi
 refine⟨R8,?_⟩;rw[E9 hi];simp[pl,sO,xY,cO]
end
theorem Vf{s:a7}(hR:SR s):(∀i,i<s.S.a8.length->(ce s i).State≠0)->nB (pl (sO s)) 0=some (pl (sO s),0,4):=λhf=>by
 have hlen:=hR.len;have el:(pl (sO s)).a8.length=s.S.a8.length:=by rw[bX,C0]
 unfold nB;simp only[jn];refine dX (pl (sO s)).a8.length (λk=>True) (by omega) trivial (λk hk _=>?_) (λhP=>⟨.inr (),by simp,rfl⟩);refine .inl ⟨?_,trivial⟩;obtain⟨h1,h2⟩:=Mv hR (show k<s.S.a8.length by omega);have:=hf k (by omega);simp only[zQ,hk,zV,zU,u6 hk,Yx];rw[h2,za (by simpa using this),p8]
theorem QT{s:a7}(hR:SR s){i:Nat}(hF:VD s i):nB (pl (sO s)) 0=some (⟨(pl (sO s)).a8.set i ⟨1,(ce s i).Gen,0⟩,(pl (sO s)).Last⟩,dE s i,0):=by
 have hlen:=hR.len;have el:(pl (sO s)).a8.length=s.S.a8.length:=by rw[bX,C0]
 obtain⟨hi,h0,hmin⟩:=hF;have hc:=hR.cell i hi;have l9:=hR.l9;unfold nB;simp only[jn];refine dX (pl (sO s)).a8.length (λk=>k<=i) (by omega) (by omega) (λk hk hP=>?_) (λhP=>by omega);obtain⟨h1,h2⟩:=Mv hR (show k<s.S.a8.length by omega);rcases zB k i with g | g
 .refine .inl ⟨?_,g⟩;have:=hmin k g;simp only[zQ,hk,zV,zU,u6 hk,Yx];rw[h2,za (by simpa using this),p8]
 .have:k=i:=by omega
  subst this;refine .inr ⟨.inl _,?_,rfl⟩;simp only[zQ,hk,zV,zU,u6 hk,Yx];rw[h2,zb (by simpa using h0)];have w3:∀c:O6,bF (pl (sO s)) (k:Int) c=some ⟨(pl (sO s)).a8.set k c,(pl (sO s)).Last⟩:=λc=>by
   unfold bF;rw[U9 (by omega) (by omega),Yx,u6 hk,Yx,zX]
  rw[w3,Yx,nx,zb (by dsimp only;omega),Yx];rfl
theorem Wq{s:a7}(hR:SR s)(hb:s.Serial<9223372036854775807)(a p:Int) :
  (∃e,e≠0/\O0 s a p=some (s,0,e)/\fg (sO s) a p=some (sO s,0,e)) \/
  ((0<=a/\a<=4)/\(-1<=p/\p<=5)/\∃i,VD s i/\O0 s a p=some (eK s i a.toNat p,dE s i,0)/\fg (sO s) a p=some (sO (eK s i a.toNat p),dE s i,0)):=by
 have hser:=hR.T5;have hlen:=hR.len;have r1:∀n:Nat,n<=4->vk (n:Int)=some (List.replicate n 0,0):=λn hn=>by
  unfold vk;rw[za (by simp;omega),jO (by omega) (by omega)];rfl
 rcases Wp hR hb a p with ⟨h1,e⟩ | ⟨h1,h2,e⟩ | ⟨h1,h2,h3,e⟩ | ⟨h1,h2,i,h3,e⟩
 .refine .inl ⟨1,by decide,e,?_⟩;unfold fg vk;rw[zb (by simp;omega)];rfl
 .refine .inl ⟨13,by decide,e,?_⟩;obtain⟨n,rfl⟩:∃n:Nat,a=n:=⟨a.toNat,by omega⟩;unfold fg;rw[r1 n (by omega),Yx,za (by simp),zb (by simp;omega)]
 .refine .inl ⟨4,by decide,e,?_⟩;obtain⟨n,rfl⟩:∃n:Nat,a=n:=⟨a.toNat,by omega⟩;unfold fg;rw[r1 n (by omega),Yx,za (by simp),za (by simp;omega),iW _ (by rw[C0];omega),Yx,Vf hR h3,Yx,zb (by simp)]
 .refine .inr ⟨h1,h2,i,h3,e,?_⟩;obtain⟨n,rfl⟩:∃n:Nat,a=n:=⟨a.toNat,by omega⟩;have hi:=h3.1;have hc:=hR.cell i hi;have l9:=hR.l9;unfold fg;rw[r1 n (by omega),Yx,za (by simp),za (by simp;omega),iW _ (by rw[C0];omega),Yx,QT hR h3,Yx,za (by simp),Vj hR hi,Yx,nA,zb (by unfold pv dE;dsimp only;omega),Yx,
   show (dE s i-1) % 32=(i:Int) by unfold dE;omega,Vk hR hi,Yx,F7 (by show _<=s.Serial+1;omega) (by show s.Serial+1<=_;omega)]
  unfold eK;rw[zX];simp only[sO,zbw];rfl
abbrev RR(o:c8):au:=⟨o.Kind,o.A,o.B,o.C⟩
structure Dn (x:Hp) (o:c8) (z:Hp) (v:Int):Prop where
 rt:O2 z
 sl:SL z
 ev:Ev x z
 cw:Cw x z (if o.Kind=6 then o.A else -1)
 mc:x6 x o=some (dw z,v,0)
 rf:D8 (hO x) (RR o)=some (hO (dw z),v,0)
def Er(x:Hp)(o:c8)(e:Int):Prop:=e≠0/\x6 x o=some (x,0,e)/\D8 (hO x) (RR o)=some (hO x,0,e)
theorem Wu{x:Hp}(hx:O2 x)(hS:SL x){i:Nat}(hi:i<x.S.S.a8.length)(h0:(ce x.S i).State=0){n:Nat}(hn:n<=4){p:Int}(hp : -1<=p/\p<=5):SL (wS x (eK x.S i n p)):=λk hk=>by
 have hR:=hx.sh.sr;have hk':k∈lv (eK x.S i n p):=hk;show (ob (eK x.S i n p) k).Strong<=_;rw[Hg hR hi h0 hn hp] at hk';rcases zw.1 hk' with q | q
 .rw[yO hR hi h0 hn hp q];exact hS k q
 .rw[zH.1 q,tg hR hi h0 hn hp];show (0:Int)<=_;decide
theorem oR{y:Hp}(hy:O2 y){a:Int}(ha:0<=a/\a<=5){h:Int}(hh:h=0\/h∈lv y.S):sd (dw (H5 y a.toNat h)) a=h/\T5 (dw (H5 y a.toNat h)) h=T5 y h:=by
 have hz:=cG hy (r:=a.toNat) (by omega) hh;have st:=nO hz;have w:=ep hz;have e1:(dw (H5 y a.toNat h)).Roots=y.Roots.set a.toNat h:=st.rt.trans (hU y a.toNat h).1;have h6:=hy.sh.r6;have e2:sd (dw (H5 y a.toNat h)) a=h:=by
  unfold sd;rw[za (by omega),e1,zf,ms (by omega)];rfl
 refine⟨e2,?_⟩;have k:=dv hy.sh.sr a.toNat h;rcases pR w.sh a with q | q
 .rw[e2] at q;subst q;rw[DJ w.sh,DJ hy.sh]
 .rw[e2] at q;have h1:=(st.ob h q).1;have h2:=st.lv h q;rw[k.lv] at h2;exact h1.trans (k.ob h h2)
section
variable{x:Hp}{a b c:Int}
theorem ml{o:c8}{y:Hp}{e:Int}(he:e≠0):xO x o (y,e)=some (x,0,e):=by
 unfold xO;rw[zb (by simpa using he)]
theorem Rt{z:Hp}(hz:O2 z)(hS:SL z){k:Int}(hk:k≠5/\k≠6/\k≠8/\k≠10):xO x ⟨k,a,b,c⟩ (z,0)=some (dw z,T5 (dw z) (sd (dw z) a),0):=by
 unfold xO W6;rw[za (by simp),gp hz hS,Yx];simp only[jn];rw[za (by simp;omega),za (by simp;omega)];have:(k==8)=false:=by simp;omega
 rw[this,za (by simp),za (by simp;omega),Cz (ep hz).sh];rfl
theorem FW{o:c8}{v e:Int}(he:e≠0):B6 ⟨x,o⟩ v e=some (x,e):=by
 unfold B6;rw[zb (by simpa using he)]
theorem MD{y:o6}{v e:Int}(he:e≠0):rT y a (v,e)=some (y,0,e):=by
 unfold rT;rw[zb (by simpa using he)]
theorem Ji{y z:o6}{v e:Int}(he:e≠0):rO y (z,v,e)=some (y,0,e):=by
 unfold rO;rw[zb (by simpa using he)]
variable(hx:O2 x)(hS:SL x)
include hx hS
theorem oZ{k:Int}(ha:0<=a/\a<=5){h:Int}(hh:h=0\/h∈lv x.S):B6 ⟨x,⟨k,a,b,c⟩⟩ h 0=some (H5 x a.toNat h,0):=by
 unfold B6;rw[za (by simp),HL hx hS a (rq hx hS hh),za (by omega),zb hh];rfl
theorem WR(ha:0<=a/\a<=5){h:Int}(hh:h=0\/h∈lv x.S):rT (hO x) a (h,0)=some (hO (dw (H5 x a.toNat h)),T5 x h,0):=by
 have hz:=cG hx (r:=a.toNat) (by omega) hh;have zS:=kf hx.sh.sr hS a.toNat h;obtain⟨e1,e2⟩:=oR hx ha hh;unfold rT;rw[za (by simp),MO hx hS a (rq hx hS hh),za (by omega),zb hh,Yx,xm hz zS,Yx,VK (ep hz).sh,e1,e2];rfl
theorem ko{k:Int}(hk:k=2\/k=3\/k=4\/k=7\/k=9)(hc:A8 k a b c=0)(ha:0<=a/\a<=5){h:Int}(hh:h=0\/h∈lv x.S)
  (h1:x6 x ⟨k,a,b,c⟩=xO x ⟨k,a,b,c⟩ (H5 x a.toNat h,0))(h2:ed (hO x) ⟨k,a,b,c⟩=some (h,0)):Dn x ⟨k,a,b,c⟩ (H5 x a.toNat h) (T5 x h):=by
 have hz:=cG hx (r:=a.toNat) (by omega) hh;have zS:=kf hx.sh.sr hS a.toNat h;obtain⟨e1,e2⟩:=oR hx ha hh;refine⟨hz,zS,(dv hx.sh.sr a.toNat h).ev,Cw.same (hU x a.toNat h).2.1 _,?_,?_⟩;·rw[h1,Rt hz zS (by omega),e1,e2]
 .show D8 (hO x) ⟨k,a,b,c⟩=_;rw[HH hk hc,h2,Yx,WR hx hS ha hh]
theorem d2(hc:A8 2 a b c=0):Dn x ⟨2,a,b,c⟩ (H5 x a.toNat (sd x b)) (T5 x (sd x b)):=by
 obtain⟨ha,hb⟩:=SV hc;refine ko hx hS (.inl rfl) hc ha (pR hx.sh b) ?_ ?_
 .rw[XK hc];unfold I2;rw[lT hx.sh,Yx,oZ hx hS ha (pR hx.sh b)];rfl
 .unfold ed;rw[zb (by rfl),show (hO x).Roots=x.Roots from rfl,uk hx.sh hb];rfl
theorem d3(hc:A8 3 a b c=0):Dn x ⟨3,a,b,c⟩ (H5 x a.toNat 0) 0:=by
 have ha:=Xz hc;have:=ko (b:=b) (c:=c) hx hS (.inr (.inl rfl)) hc ha (h:=0) (.inl rfl) ?_ ?_;·rwa [DJ hx.sh] at this
 .rw[XL hc];unfold aB;rw[oZ hx hS ha (.inl rfl)];rfl
 .rfl
theorem d4(hc:A8 4 a b c=0):(sd x b=0/\Er x ⟨4,a,b,c⟩ 2)\/(∃e,T8 x.S (sd x b) c=some (0,e)/\Er x ⟨4,a,b,c⟩ e) \/
  (sd x b∈lv x.S/\∃n:Nat,c=n/\∃hn:n<(ob x.S (sd x b)).Fields.length,Dn x ⟨4,a,b,c⟩ (H5 x a.toNat (ob x.S (sd x b)).Fields[n]) (T5 x (ob x.S (sd x b)).Fields[n])):=by
 obtain⟨ha,hb,_⟩:=XA hc;have hm:x6 x ⟨4,a,b,c⟩=_:=XM hc;unfold aC at hm;rw[jQ hx.sh,Yx] at hm;have hr:D8 (hO x) ⟨4,a,b,c⟩=_:=HH (by omega) hc;have hnm:ed (hO x) ⟨4,a,b,c⟩=(ae (hO x) b).bind λv2=>if (v2.2 != 0) then some (0,v2.2) else (gl (hO x).S v2.1 c).bind λv3=>some (v3.1,v3.2):=rfl
 rw[qG hx.sh hb,Yx] at hnm;by_cases h0:sd x b=0
 .refine .inl ⟨h0,by decide,?_,?_⟩
  .rw[hm];unfold uT;rw[zb h0,zb (by simp),Yx,ml (by decide)]
  .show D8 (hO x) ⟨4,a,b,c⟩=_;rw[hr,hnm];unfold uT;rw[zb h0,zb (by simp),Yx,MD (by decide)]
 .have has:uT x b=(sd x b,0):=by unfold uT;rw[za h0]
  rw[has,za (by simp)] at hm hnm;right;rcases tW hx hS (sd x b) c (um hx.sh b) with ⟨e,he,f1,f2⟩ | ⟨hl,n,hn0,hn,f1,f2⟩
  .refine .inl ⟨e,f1,he,?_,?_⟩
   .rw[hm];dsimp only;rw[f1,Yx,FW he,Yx,Yx,ml he]
   .show D8 (hO x) ⟨4,a,b,c⟩=_;rw[hr,hnm];dsimp only;rw[show (hO x).S=sO x.S from rfl,f2,Yx,Yx,MD he]
  .refine .inr ⟨hl,n,hn0,hn,?_⟩;have hv:=hx.sh.fl _ hl _ (zj hn);refine ko hx hS (by omega) hc ha hv ?_ ?_
   .rw[hm];dsimp only;rw[f1,Yx,oZ hx hS ha hv];rfl
   .rw[hnm];dsimp only;rw[show (hO x).S=sO x.S from rfl,f2];rfl
theorem PB{n:Nat}(hn:n<6):∃h:n<x.a8.length,kB x.a8 n=some (if x.a8[n].Target=0\/x.a8[n].Intact=false then (0,9) else (x.a8[n].Target,0))/\rI (hO x).a8 n=some (if x.a8[n].Target=0\/x.a8[n].Intact=false then (0,9) else (x.a8[n].Target,0)):=by
 have c6:=hx.sh.c6;have hl:n<x.a8.length:=by omega
 have hl2:n<(x.a8.map qz).length:=by simp;exact hl
 refine⟨hl,?_,?_⟩
 .unfold kB kD;have:(decide ((n:Int)>=0)&&decide ((n:Int)<(x.a8.length:Int)))=true:=by simp;omega
  rw[this,Yx,za (by simp),u6 hl,Yx];by_cases q:x.a8[n].Target=0\/x.a8[n].Intact=false
  .rw[zb q,zb (by rcases q with q | q <;> simp[q])]
  .rw[za q,za (by simpa using q)]
 .unfold rI;show (if _ then _ else (ix (x.a8.map qz) (n:Int)).bind _)=_;rw[za (by simp[hO];omega),u6 hl2,Yx,ut];by_cases q:x.a8[n].Target=0\/x.a8[n].Intact=false
  .rw[zb q,zb (by rcases q with q | q <;> simp[qz,q])]
  .rw[za q,za (by simpa[qz] using q)];rfl
theorem d7(hc:A8 7 a b c=0):∃h:b.toNat<x.a8.length,((x.a8[b.toNat].Intact=false/\Er x ⟨7,a,b,c⟩ 9) \/
  (x.a8[b.toNat].Intact=true/\Dn x ⟨7,a,b,c⟩ (H5 x a.toNat x.a8[b.toNat].Target) (T5 x x.a8[b.toNat].Target))):=by
 obtain⟨ha,hb⟩:=XD hc;obtain⟨n,rfl⟩:∃n:Nat,b=n:=⟨b.toNat,by omega⟩;obtain⟨hl,l1,l2⟩:=PB hx hS (n:=n) (by omega);rw[zX];refine⟨hl,?_⟩;have hm:x6 x ⟨7,a,n,c⟩=_:=XP hc;unfold Z5 at hm;rw[show kB (u3.mk x ⟨7,a,n,c⟩).x.a8 (u3.mk x ⟨7,a,n,c⟩).o.B=_ from l1,Yx] at hm;have hr:D8 (hO x) ⟨7,a,n,c⟩=_:=HH (by omega) hc;have hnm:ed (hO x) ⟨7,a,n,c⟩=(rI (hO x).a8 n).bind λv4=>some (v4.1,v4.2):=rfl;rw[l2,Yx] at hnm;have cl:=hx.sh.cl n hl;cases hI:x.a8[n].Intact
 .left;rw[zb (.inr hI)] at hm hnm;refine⟨rfl,by decide,?_,?_⟩
  .rw[hm];dsimp only;rw[FW (by decide),Yx,Yx];exact ml (e:=9) (by decide)
  .show D8 (hO x) ⟨7,a,n,c⟩=_;rw[hr,hnm,Yx,MD (by decide)]
 .right;have ht:=(cl.2.2.2.2 hI).1;have ht0:x.a8[n].Target≠0:=λe=>ph hx.sh.sr (e▸ht);rw[za (by simp[ht0,hI])] at hm hnm;refine⟨rfl,ko hx hS (by omega) hc ha (.inr ht) ?_ hnm⟩;rw[hm];dsimp only;rw[oZ hx hS ha (.inr ht)];rfl
theorem d9(hc:A8 9 a b c=0):(sd x b=0/\Er x ⟨9,a,b,c⟩ 2)\/(sd x b∈lv x.S/\(∀v,¬Has x.T (sd x b) v)/\Er x ⟨9,a,b,c⟩ 9) \/
  (sd x b∈lv x.S/\∃v,Has x.T (sd x b) v/\Dn x ⟨9,a,b,c⟩ (H5 x a.toNat v) (T5 x v)):=by
 obtain⟨ha,hb⟩:=XF hc;have hT:=hx.sh.hr;have hm:x6 x ⟨9,a,b,c⟩=_:=XR hc;unfold bf at hm;rw[jQ hx.sh,Yx] at hm;have hr:D8 (hO x) ⟨9,a,b,c⟩=_:=HH (by omega) hc;have hnm:ed (hO x) ⟨9,a,b,c⟩=(ae (hO x) b).bind λv2=>if (v2.2 != 0) then some (0,v2.2) else (vm (hO x).T v2.1).bind λv3=>some (v3.1,v3.2):=rfl
 rw[qG hx.sh hb,Yx] at hnm;by_cases h0:sd x b=0
 .refine .inl ⟨h0,by decide,?_,?_⟩
  .rw[hm];unfold uT;rw[zb h0,zb (by simp),Yx,ml (by decide)]
  .show D8 (hO x) ⟨9,a,b,c⟩=_;rw[hr,hnm];unfold uT;rw[zb h0,zb (by simp),Yx,MD (by decide)]
 .have has:uT x b=(sd x b,0):=by unfold uT;rw[za h0]
  have hl:=(pR hx.sh b).resolve_left h0;rw[has,za (by simp)] at hm hnm;dsimp only at hm hnm;have g2:vm (hO x).T (sd x b)=(M4 x.T (sd x b)).bind λv=>some (v.1,v.2):=by
   unfold vm;rw[show (hO x).T=x.T.map R8 from rfl,RV hT]
  unfold sM at hm;rw[g2] at hnm;right;by_cases hv:∃v,Has x.T (sd x b) v
  .obtain⟨v,hv⟩:=hv;rw[GS hT hv] at hm hnm;refine .inr ⟨hl,v,hv,ko hx hS (by omega) hc ha (.inr (hx.sh.pr _ _ hv).2) ?_ hnm⟩;rw[hm,Yx,Yx];dsimp only;rw[oZ hx hS ha (.inr (hx.sh.pr _ _ hv).2)];rfl
  .have hv':∀v,¬Has x.T (sd x b) v:=λv q=>hv ⟨v,q⟩;rw[IN hT hv'] at hm hnm;refine .inl ⟨hl,hv',by decide,?_,?_⟩
   .rw[hm,Yx,Yx];dsimp only;rw[FW (by decide),Yx,Yx];exact ml (e:=9) (by decide)
   .show D8 (hO x) ⟨9,a,b,c⟩=_;rw[hr,hnm,Yx,Yx,Yx];exact MD (e:=9) (by decide)
end
section
variable{x:Hp}{a b c:Int}
theorem VO{z:Hp}(hz:O2 z)(hS:SL z){k:Int}{r:Int}(hk:k=5/\r=c\/(k=6\/k=8)/\r=b):xO x ⟨k,a,b,c⟩ (z,0)=some (dw z,T5 z (sd z r),0):=by
 unfold xO W6;rw[za (by simp),gp hz hS,Yx];simp only[jn];rcases hk with ⟨rfl,rfl⟩ | ⟨rfl | rfl,rfl⟩
 .rw[zb (by rfl),Cz hz.sh];rfl
 .rw[za (by decide),zb (by rfl),zb (by rfl),Cz hz.sh];rfl
 .rw[za (by decide),za (by decide),zb (by rfl),Cz hz.sh];rfl
variable(hx:O2 x)(hS:SL x)
include hx hS
theorem WQ{z:Hp}(hz:O2 z)(zS:SL z){h:Int}(hh:h=0\/h∈lv x.S):rO (hO x) (hO z,h,0)=some (hO (dw z),T5 x h,0):=by
 unfold rO;rw[za (by simp),xm hz zS,Yx,RX hx.sh (rq hx hS hh)];rfl
theorem qm{z:Hp}(hz:O2 z)(zS:SL z)(k:Ks x.S z.S)(er:z.Roots=x.Roots){kd r:Int}(hk:kd=5/\r=c\/(kd=6\/kd=8)/\r=b)(hc:A8 kd a b c=0)(cw:Cw x z (if kd=6 then a else -1))
  (h1:x6 x ⟨kd,a,b,c⟩=xO x ⟨kd,a,b,c⟩ (z,0))(h2:cE (hO x) ⟨kd,a,b,c⟩=some (hO z,sd x r,0)):Dn x ⟨kd,a,b,c⟩ z (T5 x (sd x r)):=by
 refine⟨hz,zS,k.ev,cw,?_,?_⟩;·rw[h1,VO hz zS hk,QM er,UU hx.sh k (pR hx.sh r)]
 .show D8 (hO x) ⟨kd,a,b,c⟩=_;rw[HG (by omega) hc,h2,Yx,WQ hx hS hz zS (pR hx.sh r)]
theorem d5(hc:A8 5 a b c=0):(sd x a=0/\Er x ⟨5,a,b,c⟩ 2)\/(∃e,aJ x (sd x a) b (sd x c)=some (x,e)/\Er x ⟨5,a,b,c⟩ e) \/
  (sd x a∈lv x.S/\∃n:Nat,b=n/\n<(ob x.S (sd x a)).Fields.length/\Dn x ⟨5,a,b,c⟩ (bS x (sd x a) n (sd x c)) (T5 x (sd x c))):=by
 obtain⟨ha,hb,hcc⟩:=XB hc;have hm:x6 x ⟨5,a,b,c⟩=_:=XN hc;unfold Y2 at hm;rw[jQ hx.sh,Yx] at hm;have hr:D8 (hO x) ⟨5,a,b,c⟩=_:=HG (by omega) hc;have hnm:cE (hO x) ⟨5,a,b,c⟩=(ae (hO x) a).bind λv4=>if (v4.2 != 0) then some (hO x,0,v4.2) else (jZ (hO x) c).bind λv5=>(jY (hO x) v4.1 b v5).bind λv6=>some (v6.1,v5,v6.2):=rfl
 rw[qG hx.sh ha,Yx,MY hx.sh (by omega)] at hnm;by_cases h0:sd x a=0
 .have has:uT x a=(0,2):=by unfold uT;rw[zb h0]
  rw[has,zb (by simp)] at hm hnm;refine .inl ⟨h0,by decide,?_,?_⟩
  .rw[hm,Yx];exact ml (e:=2) (by decide)
  .show D8 (hO x) ⟨5,a,b,c⟩=_;rw[hr,hnm,Yx];exact Ji (e:=2) (by decide)
 .have has:uT x a=(sd x a,0):=by unfold uT;rw[za h0]
  rw[has,za (by simp)] at hm hnm;dsimp only at hm hnm;rw[lT hx.sh,Yx] at hm;rw[Yx] at hnm;right;rcases KM hx hS (sd x a) b (sd x c) (um hx.sh a) (um hx.sh c) with ⟨e,he,f1,f2⟩ | ⟨hl,hv,n,hn0,hn,f1,f2⟩
  .refine .inl ⟨e,f1,he,?_,?_⟩;·rw[hm,f1,Yx,Yx,ml he]
   .show D8 (hO x) ⟨5,a,b,c⟩=_;rw[hr,hnm,f2,Yx,Yx,Ji he]
  .refine .inr ⟨hl,n,hn0,hn,qm hx hS (AO hx hl hn hv) (IG hx.sh.sr hS hl _ _) (yw hx.sh.sr hl hn _) (ng _ _ _ _).1 (.inl ⟨rfl,rfl⟩) hc (Cw.same (ng _ _ _ _).2.1 _) ?_ ?_⟩
   .rw[hm,f1];rfl
   .rw[hnm,f2];rfl
theorem d6(hc:A8 6 a b c=0):(sd x b=0/\Er x ⟨6,a,b,c⟩ 2)\/(∃e,W2 x a (sd x b) c=some (x,e)/\Er x ⟨6,a,b,c⟩ e) \/
  (JG x.Q a=false/\Dn x ⟨6,a,b,c⟩ (dP x a.toNat (sd x b) c) (T5 x (sd x b))):=by
 obtain⟨ha,hb,hcc⟩:=XC hc;have hm:x6 x ⟨6,a,b,c⟩=_:=XO hc;unfold V2 at hm;have hr:D8 (hO x) ⟨6,a,b,c⟩=_:=HG (by omega) hc;have key:(x6 x ⟨6,a,b,c⟩=(((W2 x a (sd x b) c).bind λv1=>some (v1.1,v1.2)).bind (xO x ⟨6,a,b,c⟩))/\cE (hO x) ⟨6,a,b,c⟩=(gT (hO x) a (sd x b) c).bind λv1=>some (v1.1,sd x b,v1.2))\/(sd x b=0/\Er x ⟨6,a,b,c⟩ 2):=by
  by_cases h1:b = -1
  .subst h1;left;rw[xk hx.sh (r:=-1) (by omega)];refine⟨?_,rfl⟩;rw[hm,zb (by rfl)]
  .rw[za (by simpa using h1),jQ hx.sh,Yx] at hm;have hnm:cE (hO x) ⟨6,a,b,c⟩=(ae (hO x) b).bind λv4=>if (v4.2 != 0) then some (hO x,0,v4.2) else (gT (hO x) a v4.1 c).bind λv7=>some (v7.1,v4.1,v7.2):=by
    unfold cE;rw[za (by simp;omega)];rfl
   rw[qG hx.sh (by omega),Yx] at hnm;by_cases h0:sd x b=0
   .have has:uT x b=(0,2):=by unfold uT;rw[zb h0]
    rw[has,zb (by simp)] at hm hnm;refine .inr ⟨h0,by decide,?_,?_⟩
    .rw[hm,Yx];exact ml (e:=2) (by decide)
    .show D8 (hO x) ⟨6,a,b,c⟩=_;rw[hr,hnm,Yx];exact Ji (e:=2) (by decide)
   .have has:uT x b=(sd x b,0):=by unfold uT;rw[za h0]
    rw[has,za (by simp)] at hm hnm;exact .inl ⟨hm,hnm⟩
 rcases key with ⟨hm,hnm⟩ | key
 .right;rcases Ri hx a (sd x b) c (um hx.sh b) hcc with ⟨e,he,f1,f2⟩ | ⟨hh,n,rfl,hn,hw,f1,f2⟩
  .refine .inl ⟨e,f1,he,?_,?_⟩;·rw[hm,f1,Yx,Yx,ml he]
   .show D8 (hO x) ⟨6,a,b,c⟩=_;rw[hr,hnm,f2,Yx,Yx,Ji he]
  .rw[zX];obtain⟨r1,r2,_,_⟩:=xB x n (sd x b) c;refine .inr ⟨hw,qm hx hS (Ee hx hn hh hcc hw) (Nz hx hS hn _ _) (Ed hx hn _ _) r1 (.inr ⟨.inl rfl,rfl⟩) hc (by rw[zb rfl];exact Cw.set r2) ?_ ?_⟩
   .rw[hm,f1];rfl
   .rw[hnm,f2];rfl
 .exact .inl key
theorem d8(hc:A8 8 a b c=0):(sd x a=0/\Er x ⟨8,a,b,c⟩ 2)\/(sd x a∈lv x.S/\∃e,cu x (sd x a) (sd x b)=some (x,e)/\Er x ⟨8,a,b,c⟩ e) \/
  (sd x a∈lv x.S/\∃r,P7 x.T (sd x a) (sd x b)=some r/\r.2.2=0/\Dn x ⟨8,a,b,c⟩ (jS x (sd x b) r.1 r.2.1) (T5 x (sd x b))):=by
 obtain⟨ha,hb⟩:=XE hc;have hm:x6 x ⟨8,a,b,c⟩=_:=XQ hc;unfold aD at hm;rw[jQ hx.sh,Yx] at hm;have hr:D8 (hO x) ⟨8,a,b,c⟩=_:=HG (by omega) hc;have hnm:cE (hO x) ⟨8,a,b,c⟩=(ae (hO x) a).bind λv4=>if (v4.2 != 0) then some (hO x,0,v4.2) else (jZ (hO x) b).bind λv8=>(nD (hO x) v4.1 v8).bind λv9=>some (v9.1,v8,v9.2):=rfl
 rw[qG hx.sh ha,Yx,MY hx.sh (by omega)] at hnm;by_cases h0:sd x a=0
 .have has:uT x a=(0,2):=by unfold uT;rw[zb h0]
  rw[has,zb (by simp)] at hm hnm;refine .inl ⟨h0,by decide,?_,?_⟩
  .rw[hm,Yx];exact ml (e:=2) (by decide)
  .show D8 (hO x) ⟨8,a,b,c⟩=_;rw[hr,hnm,Yx];exact Ji (e:=2) (by decide)
 .have has:uT x a=(sd x a,0):=by unfold uT;rw[za h0]
  have hl:=(pR hx.sh a).resolve_left h0;rw[has,za (by simp)] at hm hnm;dsimp only at hm hnm;rw[lT hx.sh,Yx] at hm;rw[Yx] at hnm;right;rcases Qk hx hS (sd x a) (sd x b) (um hx.sh a) (um hx.sh b) with ⟨e,he,f1,f2⟩ | ⟨hl,hv,r,r1,r2,f1,f2⟩
  .refine .inl ⟨hl,e,f1,he,?_,?_⟩;·rw[hm,f1,Yx,Yx,ml he]
   .show D8 (hO x) ⟨8,a,b,c⟩=_;rw[hr,hnm,f2,Yx,Yx,Ji he]
  .refine .inr ⟨hl,r,r1,r2,qm hx hS (Dq hx hl hv r1 r2) (Mn hx.sh.sr hS _ _ _) (Dp hx.sh.sr _ _ _) (qn _ _ _ _).1 (.inr ⟨.inr rfl,rfl⟩) hc (Cw.same (qn _ _ _ _).2.1 _) ?_ ?_⟩
   .rw[hm,f1];rfl
   .rw[hnm,f2];rfl
theorem d10(hz:zr x = [])(hc:A8 10 a b c=0):Dn x ⟨10,a,b,c⟩ x (if sd x a=sd x b then 1 else 0):=by
 obtain⟨ha,hb⟩:=VL hc;refine⟨hx,hS,Ev.refl x,Cw.refl x _,?_,?_⟩
 .rw[VP hc];unfold Q4 xO W6;rw[Yx,za (by simp),gp hx hS,Yx];simp only[jn];rw[za (by decide),za (by decide),za (by decide),zb (by rfl),lT hx.sh,Yx,lT hx.sh,Yx];by_cases q:sd x a=sd x b
  .rw[zb (by simpa using q),zb q];rfl
  .rw[za (by simpa using q),za q];rfl
 .show D8 (hO x) ⟨10,a,b,c⟩=_;rw[UM hc,show (hO x).Roots=x.Roots from rfl,uk hx.sh ha,Yx,uk hx.sh hb,Yx,DN hz];by_cases q:sd x a=sd x b
  .rw[zb (by simpa using q),zb q]
  .rw[za (by simpa using q),za q]
theorem d1(hb:x.S.Serial<9223372036854775807)(hc:A8 1 a b c=0):(∃e,O0 x.S b c=some (x.S,0,e)/\Er x ⟨1,a,b,c⟩ e) \/
  (b.toNat<=4/\(-1<=c/\c<=5)/\∃i,VD x.S i/\Dn x ⟨1,a,b,c⟩ (H5 (wS x (eK x.S i b.toNat c)) a.toNat (dE x.S i)) (x.S.Serial+1)):=by
 obtain⟨ha,hbb,hcc⟩:=Xy hc;have hR:=hx.sh.sr;have hm:x6 x ⟨1,a,b,c⟩=_:=XJ hc;unfold V1 at hm;dsimp only at hm;have hr:D8 (hO x) ⟨1,a,b,c⟩=_:=WT hc;rw[show (hO x).S=sO x.S from rfl] at hr;rcases Wq hR hb b c with ⟨e,he,f1,f2⟩ | ⟨_,_,i,hF,f1,f2⟩
 .refine .inl ⟨e,f1,he,?_,?_⟩;·rw[hm,f1,Yx,zb (by simpa using he),Yx,ml he]
  .show D8 (hO x) ⟨1,a,b,c⟩=_;rw[hr,f2,Yx,zb (by simpa using he)]
 .refine .inr ⟨by omega,hcc,i,hF,?_⟩;obtain⟨hi,h0,_⟩:=hF;have hn:b.toNat<=4:=by omega
  have hy:=LM hx hi h0 hn hcc;have yS:=Wu hx hS hi h0 hn hcc;have hh:dE x.S i=0\/dE x.S i∈lv (wS x (eK x.S i b.toNat c)).S:=.inr (by
   show _∈lv (eK x.S i b.toNat c);rw[Hg hR hi h0 hn hcc];exact zas _ (zH.2 rfl))
  have hz:=cG hy (r:=a.toNat) (by omega) hh;have zS:=kf hy.sh.sr yS a.toNat (dE x.S i);obtain⟨e1,e2⟩:=oR hy ha hh;have e3:T5 (wS x (eK x.S i b.toNat c)) (dE x.S i)=x.S.Serial+1:=by
   show (ob (eK x.S i b.toNat c) (dE x.S i)).Serial=_;rw[tg hR hi h0 hn hcc]
  refine⟨hz,zS,(Wt hx hi h0 hn hcc).ks (dv hy.sh.sr a.toNat _),Cw.same (hU (wS x (eK x.S i b.toNat c)) a.toNat _).2.1 _,?_,?_⟩
  .rw[hm,f1,Yx,za (by simp)];dsimp only;rw[show B6 ⟨⟨eK x.S i b.toNat c,x.Roots,x.a8,x.T,x.Q⟩,⟨1,a,b,c⟩⟩ (dE x.S i) 0=_ from oZ hy yS ha hh,Yx,Yx,Rt hz zS (by omega),e1,e2,e3]
  .show D8 (hO x) ⟨1,a,b,c⟩=_;rw[hr,f2,Yx,za (by simp)];dsimp only;rw[show gS ⟨sO (eK x.S i b.toNat c),(hO x).Roots,(hO x).a8,(hO x).T,(hO x).Q⟩ a (dE x.S i)=_ from MO hy yS a (rq hy yS hh),za (by omega),zb hh,Yx,xm hz zS,Yx,VK (ep hz).sh,e1,e2,e3];rfl
end
theorem Td{x:Hp}(hx:O2 x)(hS:SL x)(hz:zr x = [])(hb:x.S.Serial<9223372036854775807)(o:c8):(∃e,Er x o e)\/∃z v,Dn x o z v:=by
 obtain⟨k,a,b,c⟩:=o;by_cases hc:A8 k a b c=0
 .have:=Bg hc;have hk:k=1\/k=2\/k=3\/k=4\/k=5\/k=6\/k=7\/k=8\/k=9\/k=10\/k=11\/k=12:=by omega
  rcases hk with rfl | rfl | rfl | rfl | rfl | rfl | rfl | rfl | rfl | rfl | rfl | rfl
  .rcases d1 hx hS hb hc with ⟨e,_,h⟩ | ⟨_,_,i,_,h⟩;·exact .inl ⟨e,h⟩
   .exact .inr ⟨_,_,h⟩
  .exact .inr ⟨_,_,d2 hx hS hc⟩
  .exact .inr ⟨_,_,d3 hx hS hc⟩
  .rcases d4 hx hS hc with ⟨_,h⟩ | ⟨e,_,h⟩ | ⟨_,n,_,_,h⟩;·exact .inl ⟨_,h⟩
   .exact .inl ⟨_,h⟩
   .exact .inr ⟨_,_,h⟩
  .rcases d5 hx hS hc with ⟨_,h⟩ | ⟨e,_,h⟩ | ⟨_,n,_,_,h⟩;·exact .inl ⟨_,h⟩
   .exact .inl ⟨_,h⟩
   .exact .inr ⟨_,_,h⟩
  .rcases d6 hx hS hc with ⟨_,h⟩ | ⟨e,_,h⟩ | ⟨_,h⟩;·exact .inl ⟨_,h⟩
   .exact .inl ⟨_,h⟩
   .exact .inr ⟨_,_,h⟩
  .obtain⟨_,⟨_,h⟩ | ⟨_,h⟩⟩:=d7 hx hS hc;·exact .inl ⟨_,h⟩
   .exact .inr ⟨_,_,h⟩
  .rcases d8 hx hS hc with ⟨_,h⟩ | ⟨_,e,_,h⟩ | ⟨_,r,_,_,h⟩;·exact .inl ⟨_,h⟩
   .exact .inl ⟨_,h⟩
   .exact .inr ⟨_,_,h⟩
  .rcases d9 hx hS hc with ⟨_,h⟩ | ⟨_,_,h⟩ | ⟨_,v,_,h⟩;·exact .inl ⟨_,h⟩
   .exact .inl ⟨_,h⟩
   .exact .inr ⟨_,_,h⟩
  .exact .inr ⟨_,_,d10 hx hS hz hc⟩
  .obtain⟨h1,h2⟩:=sL (x:=x) (a:=a) (b:=b) (c:=c) (.inl rfl) hc;exact .inl ⟨14,by decide,h1,h2⟩
  .obtain⟨h1,h2⟩:=sL (x:=x) (a:=a) (b:=b) (c:=c) (.inr rfl) hc;exact .inl ⟨14,by decide,h1,h2⟩
 .obtain⟨h1,h2⟩:=EJ (x:=x) (o:=⟨k,a,b,c⟩) hc;exact .inl ⟨_,hc,h1,h2⟩
noncomputable def tV(x:Hp)(o:c8):Hp × Int × Int:=(x6 x o).getD (x,0,0)
structure Vu (x:Hp) (o:c8) (y:Hp) (v e:Int):Prop where
 rt:O2 y
 sl:SL y
 zr:zr y = []
 ev:Ev x y
 cw:Cw x y (if o.Kind=6 then o.A else -1)
 er:e≠0->y=x/\v=0
 mc:x6 x o=some (y,v,e)
 rf:D8 (hO x) (RR o)=some (hO y,v,e)
theorem Dn.Yt{x z:Hp}{o:c8}{v:Int}(d:Dn x o z v):Vu x o (dw z) v 0:=by
 have st:=nO d.rt;exact⟨ep d.rt,HU d.rt d.sl,Aa d.rt,d.ev.Yw st,d.cw.trans (st.cw _),λh=>absurd rfl h,d.mc,d.rf⟩
theorem PR{x:Hp}(hx:O2 x)(hS:SL x)(hz:zr x = [])(hb:x.S.Serial<9223372036854775807)(o:c8):∃y v e,Vu x o y v e:=by
 rcases Td hx hS hz hb o with ⟨e,h1,h2,h3⟩ | ⟨z,v,d⟩;·exact⟨x,0,e,hx,hS,hz,Ev.refl x,Cw.refl x _,λ_=>⟨rfl,rfl⟩,h2,h3⟩
 .exact⟨_,_,_,d.Yt⟩
theorem oI{x:Hp}(hx:O2 x)(hS:SL x)(hz:zr x = [])(hb:x.S.Serial<9223372036854775807)(o:c8):Vu x o (tV x o).1 (tV x o).2.1 (tV x o).2.2:=by
 obtain⟨y,v,e,h⟩:=PR hx hS hz hb o;have:tV x o=(y,v,e):=by unfold tV;rw[h.mc];rfl
 rw[this];exact h
noncomputable def runs(x:Hp)(l:List c8):Hp × List Int:=l.foldl (λp o=>((tV p.1 o).1,p.2 ++ [(tV p.1 o).2.1])) (x,[])
theorem oU(x:Hp)(l:List c8)(o:c8):runs x (l ++ [o])=((tV (runs x l).1 o).1,(runs x l).2 ++ [(tV (runs x l).1 o).2.1]):=by
 unfold runs;rw[za0];rfl
theorem DI{x:Hp}(hx:O2 x)(hS:SL x)(hz:zr x = [])(l:List c8)(hb:x.S.Serial+l.length<9223372036854775807)(P:Hp->Prop)(h0:P x)
  (hs:∀(y:Hp) (o:c8),o∈l->O2 y->Vu y o (tV y o).1 (tV y o).2.1 (tV y o).2.2->P y->P (tV y o).1):∀k,k<=l.length ->
  O2 (runs x (l.take k)).1/\SL (runs x (l.take k)).1/\zr (runs x (l.take k)).1 = []/\(runs x (l.take k)).1.S.Serial<=x.S.Serial+k/\(runs x (l.take k)).2.length=k/\P (runs x (l.take k)).1
 | 0,_=>⟨hx,hS,hz,by show x.S.Serial<=_;omega,rfl,h0⟩
 | k+1,hk=>by
  obtain⟨a1,a2,a3,a4,a5,a6⟩:=DI hx hS hz l hb P h0 hs k (by omega);have hk':k<l.length:=by omega
  have n:=oI a1 a2 a3 (by omega) l[k];rw[R9 hk',oU];exact⟨n.rt,n.sl,n.zr,by have:=n.ev.s2;show (tV _ _).1.S.Serial<=_;omega,by simp[a5],hs _ _ (zj hk') a1 n a6⟩
theorem run_eq{x:Hp}(hx:O2 x)(hS:SL x)(hz:zr x = [])(l:List c8)(hl:l.length<=1000)(hb:x.S.Serial+l.length<9223372036854775807) :
  eW x l=some (runs x l)/\HA (hO x) (l.map RR)=some (hO (runs x l).1,(runs x l).2):=by
 have all:=DI hx hS hz l hb (λ_=>True) trivial (λ_ _ _ _ _ _=>trivial);constructor
 .unfold eW;simp only[jn];refine Y1 (T:=Hp × List Int) l.length (λk acc=>acc=runs x (l.take k)) (by omega) rfl (λk acc hk hP=>?_) (λacc hP=>?_)
  .subst hP;obtain⟨a1,a2,a3,a4,a5,_⟩:=all k (by omega);have n:=oI a1 a2 a3 (by omega) l[k];refine .inl ⟨_,?_,rfl⟩;rw[R9 hk,oU];show (if _ then _ else _)=_;rw[zb (by simpa using hk),u6 hk,Yx,n.mc,Yx,C3 (by omega) (by rw[a5];simp;omega),Yx,p8]
  .subst hP;refine⟨runs x (l.take l.length),?_,?_⟩
   .show (if _ then _ else _)=_;rw[za (by simp)]
   .rw[zT]
 .unfold HA;simp only[jn];refine Y1 (T:=o6 × List Int) (l.map RR).length (λk acc=>acc=(hO (runs x (l.take k)).1,(runs x (l.take k)).2)) (by simp;omega) rfl (λk acc hk hP=>?_) (λacc hP=>?_)
  .subst hP;have hk':k<l.length:=by simpa using hk
   obtain⟨a1,a2,a3,a4,a5,_⟩:=all k (by omega);have n:=oI a1 a2 a3 (by omega) l[k];refine .inl ⟨_,?_,rfl⟩;rw[R9 hk',oU];show (if _ then _ else _)=_;rw[zb (by simpa using hk'),u6 hk,Yx,ut];dsimp only;rw[n.rf,Yx,C3 (by omega) (by rw[a5];simp;omega),Yx,p8]
  .subst hP;refine⟨(hO (runs x (l.take (l.map RR).length)).1,(runs x (l.take (l.map RR).length)).2),?_,?_⟩
   .show (if _ then _ else _)=_;rw[za (by simp)]
   .rw[wt,zT]
section
variable{x:Hp}(hB:HB x)
include hB
end
def Bm(k:Nat)(l:Int)(p:Nat):Hp:=⟨⟨⟨List.replicate k ⟨0,0,z0⟩,l⟩,0⟩,List.replicate 6 0,List.replicate 6 ⟨0,false,-1⟩,List.replicate p ⟨0,0,0⟩,⟨[],30⟩⟩
theorem Lf{k p:Nat}{l:Int}(hk:1<=k/\k<=24)(hl:0<=l/\l<=9)(hp:1<=p/\p<=8) :
  jJ k l p=some (Bm k l p)/\rJ k l p=some (hO (Bm k l p))/\O2 (Bm k l p)/\SL (Bm k l p)/\zr (Bm k l p) = []:=by
 have e1:gq k l=some (Bm k l p).S:=by
  unfold gq Y5;rw[za (by simp;omega),jO (by omega) (by omega)];rfl
 obtain⟨a,h1,h2,h3,_⟩:=Wz k l;rw[e1] at h1;have ha:=u8 h1;subst ha;have hR:SR (Bm k l p).S:=y4.1 h3;have hce:∀i,ce (Bm k l p).S i=⟨0,0,z0⟩:=λi=>by
  unfold ce Bm;dsimp only;rw[zf,List.getElem?_replicate];split <;> rfl
 have hlv:lv (Bm k l p).S = []:=zaz.2 λh hh=>by
  obtain⟨i,q⟩:=(fF hR).1 hh;have:=q.2.1;rw[hce] at this;cases this
 refine⟨?_,?_,⟨⟨hR,(Vi (V:=Int) (λ_ _=>True) hp.1 hp.2).1,rfl,rfl,rfl,t8 _,(λt ht=>nomatch ht),List.Pairwise.nil,(λh hh=>.inl (za3.1 hh).2),λh hh=>?_,λa v hv=>?_,λi hi=>?_⟩,λi hi ht=>?_,λh hh=>?_⟩,λh hh=>?_,?_⟩
 .unfold jJ;rw[za (by simp;omega),e1,Yx,show mk 8 6 (0:Int)=some (List.replicate 6 0) from rfl,Yx];refine Cp (a:=List.replicate 6 ⟨0,false,-1⟩) (by kernel_rfl) ?_;rw[TZ hp.1 hp.2,Yx];refine Cp (a:=⟨[],30⟩) (by kernel_rfl) ?_;rfl
 .unfold rJ;rw[za (by simp;omega),h2,Yx,show mk 8 6 (0:Int)=some (List.replicate 6 0) from rfl,Yx];refine Cp (a:=List.replicate 6 ⟨0,false,-1⟩) (by kernel_rfl) ?_;unfold Hz;rw[za (by simp;omega),jO (by omega) (by omega),Yx,Yx];refine Cp (a:=⟨[],30⟩) (by kernel_rfl) ?_;unfold hO Bm;dsimp only;rw[List.map_replicate,List.map_replicate];rfl
 .rw[hlv] at hh;cases hh
 .obtain⟨i,hi,_⟩:=hv;have:=hi.2.1;rw[show (Bm k l p).T=List.replicate p ⟨0,0,0⟩ from rfl,wL] at this;cases this
 .have:(Bm k l p).a8[i]=⟨0,false,-1⟩:=List.getElem_replicate ..;rw[this];exact⟨by decide,by decide,λ_=>rfl,λh=>absurd rfl h,λh=>by cases h⟩
 .rw[hce] at ht;rcases ht with h | h <;> cases h
 .rw[hlv] at hh;cases hh
 .rw[hlv] at hh;cases hh
 .unfold zr;rw[hlv];rfl
section
variable{x:Hp}(hB:HB x)
include hB
end
def DB(o:c8):au:=⟨o.Kind,o.A,o.B,o.C⟩
abbrev Az(o:c8):Int:=A8 o.Kind o.A o.B o.C
theorem AH(k a b c:Int):X6 [k,a,b,c]=some (if A8 k a b c≠0 then (⟨0,0,0,0⟩,A8 k a b c) else (⟨k,a,b,c⟩,0)):=by
 unfold X6;rw[za (by simp)];show (U2 ⟨k,a,b,c⟩).bind _=_;rw[mW,Yx];by_cases h:A8 k a b c=0
 .rw[za (by simpa using h),za (by simpa using h)]
 .rw[zb (by simpa using h),zb h]
theorem KB(k a b c:Int):gU [k,a,b,c]=some (if A8 k a b c≠0 then (⟨0,0,0,0⟩,A8 k a b c) else (⟨k,a,b,c⟩,0)):=by
 unfold gU;rw[za (by simp)];show (cD ⟨k,a,b,c⟩).bind _=_;rw[iH,Yx];by_cases h:A8 k a b c=0
 .rw[za (by simpa using h),za (by simpa using h)]
 .rw[zb (by simpa using h),zb h]
theorem four(l:List Int):(∃k a b c,l = [k,a,b,c])\/l.length≠4:=by
 match l with
 | []=>exact .inr (by simp)
 | [_]=>exact .inr (by simp)
 | [_,_]=>exact .inr (by simp)
 | [_,_,_]=>exact .inr (by simp)
 | [k,a,b,c]=>exact .inl ⟨k,a,b,c,rfl⟩
 | _::_::_::_::_::l=>exact .inr (by simp)
theorem uX{l:List Int}(h:l.length≠4):X6 l=some (⟨0,0,0,0⟩,14)/\gU l=some (⟨0,0,0,0⟩,14):=by
 unfold X6 gU;have:(((l.length:Int) != 4))=true:=by simp;omega
 rw[zb this,zb this];exact⟨rfl,rfl⟩
def ck(l:List Int):c8 × Int:=(X6 l).getD (⟨0,0,0,0⟩,0)
theorem Kz(l:List Int):X6 l=some (ck l)/\gU l=some (DB (ck l).1,(ck l).2):=by
 unfold ck;rcases four l with ⟨k,a,b,c,rfl⟩ | h
 .rw[AH,KB];refine⟨rfl,?_⟩;rw[zR];by_cases h:A8 k a b c≠0
  .rw[zb h,zb h];rfl
  .rw[za h,za h];rfl
 .rw[(uX h).1,(uX h).2];exact⟨rfl,rfl⟩
def rC(o:c8):Bool:=((decide (o.Kind>=1))&&(decide (o.Kind<=10)))&&(Az o==0)
def rF(p:List c8):Bool:=decide (p.length<=6)&&p.all rC
def Y3(l:List (List c8)):Bool:=decide (l.length<=6)&&l.all rF
section
variable{l:List (List c8)}(hl:l.length<=12)(hp:∀p∈l,p.length<=1000)
include hl hp
theorem Dv:dS l=some (Y3 l):=by
 unfold dS Y3;by_cases h6:l.length > 6
 .rw[zb (by simp;omega),zK (by omega)];rfl
 .rw[za (by simp;omega),zA (by omega),zak];simp only[jn];have key:=Bh (f:=λ(s23:Int)=>
   if (decide (s23<(l.length:Int))) then
     (ix l s23).bind λv34=>
     if (decide ((v34.length:Int) > 6)) then
      some (.inr (.inl false))
     else
     (lp (S:=Int) (E:=Bool ⊕ Unit) (λ(s36:Int)=>
      if (decide (s36<(v34.length:Int))) then
       (ix v34 s36).bind λv38=>
       (dR v38).bind λv39=>
       (z6 ((!v39)==false) 0 (U2 v38)).bind λv40=>
       if ((!v39)||(v40 != 0)) then
        some (.inr (.inl false))
       else
       some (.inl (z8 (s36+1)))
      else
      some (.inr (.inr ()))) 0).bind λe35=>
     match e35 with
     | .inl w=>some (.inr (.inl w))
     | .inr w=>some (Sum.inl (z8 (s23+1)))
   else
   some (.inr (.inr ()))) l rF (.inr ()) (Sum.inl (β:=Unit) false) (by omega) (λk hk=>?_) (by simp)
  .refine Cp key ?_;cases l.all rF <;> rfl
  .rw[zb (by simpa using hk),u6 hk,Yx];unfold rF;have hm:=hp _ (zj hk);generalize l[k]=p at hm |-;by_cases hq:p.length > 6
   .rw[zb (by simp;omega),zK (by omega)];rfl
   .rw[za (by simp;omega),zA (by omega),zak];have k2:=Bh (f:=λ(s36:Int)=>
      if (decide (s36<(p.length:Int))) then
       (ix p s36).bind λv38=>
       (dR v38).bind λv39=>
       (z6 ((!v39)==false) 0 (U2 v38)).bind λv40=>
       if ((!v39)||(v40 != 0)) then
        some (.inr (.inl false))
       else
       some (Sum.inl (z8 (s36+1)))
      else
      some (.inr (.inr ()))) p rC (.inr ()) (Sum.inl (β:=Unit) false) (by omega) (λj hj=>?_) (by simp)
    .refine zcg (Cp k2 (r:=if p.all rC=true then some (.inl (z8 ((k:Int)+1))) else some (.inr (.inl false))) ?_) ?_;·cases p.all rC <;> rfl
     .rw[p8]
    .rw[zb (by simpa using hj),u6 hj,Yx,mW];unfold rC dR;rw[Yx,p8];cases ((decide (p[j].Kind>=1))&&(decide (p[j].Kind<=10)));·rfl
     .by_cases h:Az p[j]=0
      .have e:A8 p[j].Kind p[j].A p[j].B p[j].C=0:=h;rw[e,h];rfl
      .have e1:(A8 p[j].Kind p[j].A p[j].B p[j].C != 0)=true:=by simpa using h
       have e2:(Az p[j]==0)=false:=by simpa using h
       rw[e2];refine Cp (a:=Az p[j]) rfl ?_;rw[show (Az p[j] != 0)=true from e1];rfl
theorem FA:oO (l.map (List.map DB))=some (Y3 l):=by
 unfold oO Y3;rw[wt];by_cases h6:l.length > 6
 .rw[zb (by simp;omega),zK (by omega)];rfl
 .rw[za (by simp;omega),zA (by omega),zak];simp only[jn];have key:=Bh (f:=λ(s23:Int)=>
   if (decide (s23<(l.length:Int))) then
     (ix (l.map (List.map DB)) s23).bind λv34=>
     if (decide ((v34.length:Int) > 6)) then
      some (.inr (.inl false))
     else
     (lp (S:=Int) (E:=Bool ⊕ Unit) (λ(s36:Int)=>
      if (decide (s36<(v34.length:Int))) then
       (ix v34 s36).bind λv38=>
       (ab v38).bind λv39=>
       (z6 ((!v39)==false) 0 (cD v38)).bind λv40=>
       if ((!v39)||(v40 != 0)) then
        some (.inr (.inl false))
       else
       some (.inl (z8 (s36+1)))
      else
      some (.inr (.inr ()))) 0).bind λe35=>
     match e35 with
     | .inl w=>some (.inr (.inl w))
     | .inr w=>some (Sum.inl (z8 (s23+1)))
   else
   some (.inr (.inr ()))) l rF (.inr ()) (Sum.inl (β:=Unit) false) (by omega) (λk hk=>?_) (by simp)
  .refine Cp key ?_;cases l.all rF <;> rfl
  .rw[zb (by simpa using hk),fR,u6 hk,wd,Yx,wt];unfold rF;have hm:=hp _ (zj hk);generalize l[k]=p at hm |-;by_cases hq:p.length > 6
   .rw[zb (by simp;omega),zK (by omega)];rfl
   .rw[za (by simp;omega),zA (by omega),zak];have k2:=Bh (f:=λ(s36:Int)=>
      if (decide (s36<(p.length:Int))) then
       (ix (p.map DB) s36).bind λv38=>
       (ab v38).bind λv39=>
       (z6 ((!v39)==false) 0 (cD v38)).bind λv40=>
       if ((!v39)||(v40 != 0)) then
        some (.inr (.inl false))
       else
       some (Sum.inl (z8 (s36+1)))
      else
      some (.inr (.inr ()))) p rC (.inr ()) (Sum.inl (β:=Unit) false) (by omega) (λj hj=>?_) (by simp)
    .refine zcg (Cp k2 (r:=if p.all rC=true then some (.inl (z8 ((k:Int)+1))) else some (.inr (.inl false))) ?_) ?_;·cases p.all rC <;> rfl
     .rw[p8]
    .rw[zb (by simpa using hj),fR,u6 hj,wd,Yx,iH];unfold rC ab;rw[Yx,p8];rw[show (DB p[j]).Kind=p[j].Kind from rfl];cases ((decide (p[j].Kind>=1))&&(decide (p[j].Kind<=10)));·rfl
     .by_cases h:Az p[j]=0
      .have e:A8 p[j].Kind (DB p[j]).A (DB p[j]).B (DB p[j]).C=0:=h;rw[e,h];rfl
      .have e1:(A8 p[j].Kind p[j].A p[j].B p[j].C != 0)=true:=by simpa using h
       have e2:(Az p[j]==0)=false:=by simpa using h
       rw[e2];refine Cp (a:=Az p[j]) rfl ?_;rw[show (Az p[j] != 0)=true from e1];rfl
end
noncomputable def NP(x:Hp):List Int:=TF x.S x.T
noncomputable def eF(x:Hp):List Int:=VZ x.S x.T (NP x)
theorem ba{x:Hp}{h:Int}:h∈eF x↔h∈lv x.S/\¬cJ x.S x.T (NP x) h:=by
 classical
 unfold eF VZ;rw[zy,zF]
section
variable{x:Hp}(hx:O2 x)
include hx
theorem gG:(eF x).Nodup:=zbv _ (ru (y4.2 hx.sh.sr))
theorem gD:∀d∈eF x,d∈lv x.S:=λd hd=>(ba.1 hd).1
theorem HM{h:Int}(hl:h∈lv x.S)(hs:(ob x.S h).Strong<12):Jr x.S x.T h=(aE (pk x) h:Int):=KI.2 hx.fair h hl hs
theorem GV{h:Int}(hl:h∈lv x.S)(ho:h∈pk x):h∈NP x:=by
 refine va.2 ⟨hl,?_⟩;by_cases hs:(ob x.S h).Strong<12
 .left;rw[HM hx hl hs];have:=dC.2 ⟨λe=>ph hx.sh.sr (e▸hl),ho⟩;omega
 .exact .inr (by omega)
theorem Le{h:Int}(hh:h∈NP x):h∈lv x.S/\(h∈pk x\/12<=(ob x.S h).Strong):=by
 obtain⟨hl,hs⟩:=va.1 hh;refine⟨hl,?_⟩;by_cases q:(ob x.S h).Strong<12
 .rcases hs with hs | hs
  .rw[HM hx hl q] at hs;exact .inl (dC.1 (by omega)).2
  .omega
 .exact .inr (by omega)
theorem Pm:∀d∈eF x,d∉pk x:=λd hd q=>by
 obtain⟨a,b⟩:=ba.1 hd;exact b (.base (GV hx a q) a)
theorem Pl:∀h∈lv x.S,h∉eF x->∀v∈(ob x.S h).Fields,v∉eF x:=λh hh hn v hv q=>by
 obtain⟨a,b⟩:=ba.1 q;have hr:cJ x.S x.T (NP x) h:=rg λr=>hn (ba.2 ⟨hh,r⟩);exact b (.step hr (lC.2 ⟨hv,λe=>ph hx.sh.sr (e▸a)⟩) a)
theorem Pn:∀k v,Has x.T k v->k∉eF x->v∉eF x:=λk v hk hn q=>by
 obtain⟨a,b⟩:=ba.1 q;have hr:cJ x.S x.T (NP x) k:=rg λr=>hn (ba.2 ⟨(hx.sh.pr k v hk).1,r⟩);exact b (.pair hk hr a)
theorem dW:O2 (gg x (eF x)):=yq hx (gG hx) (gD hx) (Pm hx) (Pl hx) (Pn hx)
end
theorem xd:∀(l:List Int) {x:Hp} (hR:SR x.S) {h:Int} (hh:h∈lv x.S) (hs:12<=(ob x.S h).Strong),12<=(ob (l.foldl R6 x).S h).Strong
 | [],_,_,_,_,hs=>hs
 | v::l,x,hR,h,hh,hs=>by
  have k1:=G3 hR v (f:=jE) λc=>P1;refine xd l (x:=R6 x v) k1.sr (by
   show h∈lv (sf x v jE).S;rw[k1.lv];exact hh) ?_
  show 12<=(ob (sf x v jE).S h).Strong;rw[tO (x:=x) hR (h:=v) (f:=jE) (λc=>P1) hh];split
  .unfold jE;rw[zb hs];omega
  .exact hs
section
variable{x:Hp}(hx:O2 x)
include hx
theorem wa{h:Int}:h∈lv (gg x (eF x)).S↔cJ x.S x.T (NP x) h:=by
 rw[Ez hx.sh.sr (gG hx) (gD hx),zy,zF,ba];constructor
 .rintro⟨a,b⟩;exact rg λr=>b ⟨a,r⟩
 .intro r;exact⟨r.live,λq=>q.2 r⟩
theorem Wc{h:Int}(hh:h∈lv (gg x (eF x)).S):(ob (gg x (eF x)).S h).Serial=(ob x.S h).Serial/\(ob (gg x (eF x)).S h).Prog=(ob x.S h).Prog/\(ob (gg x (eF x)).S h).Fields=(ob x.S h).Fields/\(ob (gg x (eF x)).S h).Started=(ob x.S h).Started:=by
 have r:=(wa hx).1 hh;obtain⟨n,e⟩:=EA hx.sh.sr (gG hx) (gD hx) r.live (λq=>(ba.1 q).2 r);rw[e];exact⟨rfl,rfl,rfl,rfl⟩
theorem KY{h:Int}(hh:h∈lv (gg x (eF x)).S)(hs:12<=(ob x.S h).Strong):12<=(ob (gg x (eF x)).S h).Strong:=by
 have r:=(wa hx).1 hh;have g:=cZ (eF x) hx.sh.sr (gG hx) (gD hx);have hn:h∉eF x:=λq=>(ba.1 q).2 r;refine xd _ (x:=iv x (eF x) (mi x.T (eF x)).1) g.sr ?_ ?_
 .show h∈lv (lh x.S (eF x));rw[g.lv,zy];exact⟨r.live,by simpa using hn⟩
 .show 12<=(ob (lh x.S (eF x)) h).Strong;rw[g.ob h r.live hn];exact hs
theorem Tt:pk (gg x (eF x))=pk x:=by
 obtain⟨e1,_,_,e4⟩:=qI hx.sh.sr (gG hx) (gD hx);unfold pk;rw[e1,e4,wg _ _ _ λt ht=>by
  obtain⟨w,_,rfl,_⟩:=fT.1 ht;simp]
theorem Pk{h:Int}(hh:cJ x.S x.T (NP x) h):cJ (gg x (eF x)).S (gg x (eF x)).T (NP (gg x (eF x))) h:=by
 have w:=dW hx;obtain⟨_,_,e3,_⟩:=qI hx.sh.sr (gG hx) (gD hx);have hlen:(eF x).length<=1000:=by
  have:=gO (gG hx) (gD hx);have:=M5 (y4.2 hx.sh.sr);omega
 obtain⟨_,_,_,_,w5,_⟩:=ir hx.sh.hr (eF x) hlen;induction hh with
 | base h1 h2=>
  have hl:=(wa hx).2 (.base h1 h2);refine .base ?_ hl;rcases (Le hx h1).2 with q | q
  .exact GV w hl (by rw[Tt hx];exact q)
  .exact va.2 ⟨hl,.inr (KY hx hl q)⟩
 | step q0 q1 q2 ih=>
  refine .step ih ?_ ((wa hx).2 (.step q0 q1 q2));unfold outs at q1 |-;rw[(Wc hx ((wa hx).2 q0)).2.2.1];exact q1
 | pair q1 q0 q2 ih=>
  refine .pair ?_ ih ((wa hx).2 (.pair q1 q0 q2));rw[e3];exact (w5 _ _).2 ⟨λq=>(ba.1 q).2 q0,q1⟩
theorem CM:eF (gg x (eF x)) = []:=zaz.2 λh hh=>by
 obtain⟨a,b⟩:=ba.1 hh;exact b (Pk hx ((wa hx).1 a))
end
theorem CC{x:Hp}(hx:O2 x)(hg:eF x = []):zr x = []:=zaz.2 λh hh=>by
 have hl:=(cd.1 hh).1;have hs:=(cd.1 hh).2;have hf:=Co hx hh;have h0:h≠0:=λe=>ph hx.sh.sr (e▸hl);have r:cJ x.S x.T (NP x) h:=rg λr=>by
  have:h∈eF x:=ba.2 ⟨hl,r⟩;rw[hg] at this;cases this
 unfold pj at hf;cases r with
 | base h1 h2=>
  rcases (Le hx h1).2 with q | q
  .have:=dC.2 ⟨h0,q⟩;omega
  .omega
 | step q0 q1 q2=>
  have:=Bd (y:=h) q0.live;have h1:=dC.2 ⟨h0,q1⟩;omega
 | pair q1 q0 q2=>
  have:=Bt q1 h0;omega
theorem EY{x:Hp}(hx:O2 x):dw (gg x (eF x))=gg x (eF x):=DN (CC (dW hx) (CM hx))
end Go.Sh
