/- A part. -/
import Derived.Test.YtjlokngooekbcaaGreatP21fT
set_option linter.unusedVariables false
set_option linter.unusedSimpArgs false
set_option linter.unusedSectionVars false
namespace Go.Sh
theorem jw(x:Hp)(h:Int):(B2 x h).Roots=x.Roots/\(B2 x h).a8=x.a8/\(B2 x h).T=x.T/\(B2 x h).Q=x.Q:=by
 rw[sM];exact⟨rfl,rfl,rfl,rfl⟩
theorem eW{x:Hp}(hR:SR x.S)(h:Int):SR (B2 x h).S:=(E5 hR h λc=>C5).sr
section
variable{x:Hp}(hx:L5 x)(hS:∀k∈lv x.S,(ob x.S k).Strong<=9223372036854775807)
include hx hS
theorem qE{h:Int}(hh:h=0\/h∈lv x.S):h<=9223372036854775807:=by
 rcases hh with q | q
 .omega
 .have:=F6 hx.sh.sr q;omega
theorem HO(k:Int){h:Int}(hh:h<=9223372036854775807):al x k h=some (if k<0\/5<k then (x,6) else if h=0\/h∈lv x.S then (E4 x k.toNat h,0) else (x,3)):=by
 have hR:=hx.sh.sr;have r6:=hx.sh.r6;unfold al;by_cases hk:k<0\/5<k
 .rw[zb hk,zb (by rw[r6];simp;omega)]
 .rw[za hk,za (by rw[r6];simp;omega),dm hR hh,XB];by_cases hn:h=0\/h∈lv x.S
  .rw[zb hn,zu hn,za (by simp)];obtain⟨n,rfl⟩:∃n:Nat,k=n:=⟨k.toNat,by omega⟩;have hn6:n<6:=by omega
   have hnl:n<x.Roots.length:=by omega
   have old:x.Roots[n]<=9223372036854775807:=qE hx hS (hx.sh.rt _ (zh hnl));have e1:=jw x h;have hn2:n<(B2 x h).Roots.length:=by rw[e1.1];exact hnl
   rw[o0 hnl,XB];unfold D7 N7 K4;rw[ju hR hh hS,XB];dsimp only;rw[I9 (by omega) (by rw[e1.1];omega),XB,o0 hn2,XB,XB];have hrel:=dx (x:=wR (B2 x h) (x.Roots.set n h)) (eW hR h) old;rw[zQ,e1.1,show B6 ⟨(B2 x h).S,x.Roots.set n h,(B2 x h).a8,(B2 x h).T,(B2 x h).Q⟩ x.Roots[n]=_ from hrel];unfold E4;rw[zd,zc hnl];rfl
  .rw[za hn,zI hn,zb (by simp)]
theorem FL(k:Int){h:Int}(hh:h<=9223372036854775807):V4 (hO x) k h=some (if k<0\/5<k then (hO x,6) else if h=0\/h∈lv x.S then (hO (E4 x k.toNat h),0) else (hO x,3)):=by
 have hR:=hx.sh.sr;have r6:=hx.sh.r6;unfold V4;by_cases hk:k<0\/5<k
 .rw[zb hk,zb (by simp;omega)]
 .rw[za hk,za (by simp;omega),qH hR hh,XB];by_cases hn:h=0\/h∈lv x.S
  .rw[zb hn,zu hn,za (by simp)];obtain⟨n,rfl⟩:∃n:Nat,k=n:=⟨k.toNat,by omega⟩;have hnl:n<x.Roots.length:=by omega
   have hnl':n<(hO x).Roots.length:=hnl;have old:x.Roots[n]<=9223372036854775807:=qE hx hS (hx.sh.rt _ (zh hnl));have e1:=jw x h;have r6':(hO x).Roots.length=6:=r6;rw[o0 hnl',XB,mU hR hh hS,XB,I9 (by omega) (by rw[r6'];omega),XB,o0 hnl',XB];have hrel:=fN (x:=wR (B2 x h) (x.Roots.set n h)) (eW hR h) old;rw[zQ];rw[show D9 ⟨(hO (B2 x h)).S,(hO x).Roots.set n h,(hO (B2 x h)).a8,(hO (B2 x h)).T,(hO (B2 x h)).Q⟩ (hO x).Roots[n]=_ from hrel];unfold E4;rw[zd,zc hnl];rfl
  .rw[za hn,zI hn,zb (by simp)]
omit hx hS in
theorem UM {l:List Int} {n:Nat} (hn:n<l.length):sZ l n=some (l[n],0)/\vW l n=some (l[n],0):=by
 constructor
 .unfold sZ lr;rw[XB,za (by simp;omega),o0 hn,XB]
 .unfold vW;rw[za (by simp;omega),o0 hn,XB]
omit hx hS in
theorem QH {l:List Int} {k:Int} (hk:¬(0<=k/\k<l.length)):sZ l k=some (0,5)/\vW l k=some (0,5):=by
 constructor
 .unfold sZ lr;rw[XB,zb (by simp;omega)]
 .unfold vW;rw[zb (by simp;omega)]
theorem tf(h k:Int)(hh:h<=9223372036854775807):(∃e,e≠0/\Z8 x.S h k=some (0,e)/\fM (sO x.S) h k=some (0,e)) \/
  (h∈lv x.S/\∃n:Nat,k=n/\∃hn:n<(ob x.S h).Fields.length,Z8 x.S h k=some ((ob x.S h).Fields[n],0)/\fM (sO x.S) h k=some ((ob x.S h).Fields[n],0)):=by
 have hR:=hx.sh.sr;obtain⟨e,h1,h2⟩:=Q2 (r9.2 hR) hh;have hg:E1 (sO x.S) h=some (oo (ob x.S h),e):=by
  rw[ja x.S (by have:=hR.len;omega) hh,h1];rfl
 unfold Z8 fM;rw[h1,XB,hg,XB];by_cases q:h∈lv x.S
 .have:=h2.2 q;subst this;rw[za (by simp),za (by simp),show (oo (ob x.S h),(0:Int)).1.Fields=(ob x.S h).Fields from rfl];by_cases hk:0<=k/\k<(ob x.S h).Fields.length
  .right;obtain⟨n,rfl⟩:∃n:Nat,k=n:=⟨k.toNat,by omega⟩;have hn:n<(ob x.S h).Fields.length:=by omega
   refine⟨q,n,rfl,hn,?_,?_⟩
   .rw[(UM hn).1];rfl
   .rw[(UM hn).2];rfl
  .left;refine⟨5,by decide,?_,?_⟩
   .rw[(QH hk).1];rfl
   .rw[(QH hk).2];rfl
 .left;have he:(e != 0)=true:=by simpa using λc=>q (h2.1 c)
  refine⟨e,by simpa using he,?_,?_⟩;·simp only[he,zH]
  .simp only[he,zH]
theorem Ms{s:a7}(hR:SR s){h:Int}(hh:h∈lv s){n:Nat}(hn:n<(ob s h).Fields.length)(v:Int) :
  nU s h n v=some (bR s h (ny (ob s h) ((ob s h).Fields.set n v)),0)/\Bd (sO s) h n v=some (sO (bR s h (ny (ob s h) ((ob s h).Fields.set n v))),0):=by
 have ok:=I3 hR hh;have hf:=ok.fl;have hle:=F6 hR hh;have ho:xi s (ny (ob s h) ((ob s h).Fields.set n v)):=⟨ok.s1,ok.s2,ok.st,ok.wk,ok.p1,ok.p2,by simpa using hf⟩;have h1:=rn (o:=ny (ob s h) ((ob s h).Fields.set n v)) hR hh rfl ho;have h2:=rp (o:=ny (ob s h) ((ob s h).Fields.set n v)) hR hh rfl ho;constructor
 .unfold nU;rw[vI (r9.2 hR) hh,XB,za (by simp)];unfold wN lr;dsimp only;rw[XB,za (by simp;omega),lF (by omega) (by omega),XB];have e:xe (List.replicate (ob s h).Fields.length (0:Int)) (ob s h).Fields=some (ob s h).Fields:=by
   unfold xe;rw[zb (by simp)];simp
  rw[e,XB,o0 hn,XB,XB,za (by simp),zQ];dsimp only;rw[show I5 s h ⟨(ob s h).Serial,(ob s h).Strong,(ob s h).Weak,(ob s h).Prog,(ob s h).Started,(ob s h).Fields.set n v⟩=_ from h1];rfl
 .unfold Bd;rw[ja s (by have:=hR.len;omega) (by omega),vI (r9.2 hR) hh,zM,XB,za (by simp)];unfold Dr;have hn':n<(oo (ob s h)).Fields.length:=hn;have hf':(oo (ob s h)).Fields.length<=4:=hf;dsimp only;rw[za (by simp;omega),I9 (by omega) (by omega),XB,o0 hn',XB,XB,za (by simp),zQ];dsimp only;rw[show M4 (sO s) h ⟨(oo (ob s h)).Serial,(oo (ob s h)).Strong,(oo (ob s h)).Weak,(oo (ob s h)).Prog,(oo (ob s h)).Started,(oo (ob s h)).Fields.set n v⟩=_ from h2];rfl
theorem KV(h k v:Int)(hh:h<=9223372036854775807)(hv:v<=9223372036854775807) :
  (∃e,e≠0/\dg x h k v=some (x,e)/\jr (hO x) h k v=some (hO x,e)) \/
  (h∈lv x.S/\(v=0\/v∈lv x.S)/\∃n:Nat,k=n/\n<(ob x.S h).Fields.length/\dg x h k v=some (bl x h n v,0)/\jr (hO x) h k v=some (hO (bl x h n v),0)):=by
 have hR:=hx.sh.sr;unfold dg jr;rcases tf hx hS h k hh with ⟨e,he,f1,f2⟩ | ⟨hl,n,rfl,hn,f1,f2⟩
 .left;have he':(e != 0)=true:=by simpa using he
  refine⟨e,he,?_,?_⟩;·rw[f1,XB,zb he']
  .rw[show (hO x).S=sO x.S from rfl,f2,XB,zb he']
 .rw[f1,XB,za (by simp),show (hO x).S=sO x.S from rfl,f2,XB,za (by simp),dm hR hv,XB,qH hR hv,XB];by_cases hn2:v=0\/v∈lv x.S
  .right;refine⟨hl,hn2,n,rfl,hn,?_⟩;rw[zu hn2,za (by simp),za (by simp)];have xt:=E5 hR v (f:=T0) λc=>C5;have hR1:SR (B2 x v).S:=xt.sr;have hl1:h∈lv (B2 x v).S:=by rw[show lv (B2 x v).S=lv x.S from xt.lv];exact hl
   have hof:(ob (B2 x v).S h).Fields=(ob x.S h).Fields:=by
    obtain⟨m,e⟩:=xt.ob h hh;show (ob (ru x v T0).S h).Fields=_;rw[e]
   have hn1:n<(ob (B2 x v).S h).Fields.length:=by rw[hof];exact hn
   have old:(ob x.S h).Fields[n]<=9223372036854775807:=qE hx hS (hx.sh.fl h hl _ (zh hn));have ok:=I3 hR1 hl1;have sr2:SR (bR (B2 x v).S h (ny (ob (B2 x v).S h) ((ob (B2 x v).S h).Fields.set n v))):=aL (o:=ny (ob (B2 x v).S h) ((ob (B2 x v).S h).Fields.set n v)) hR1 hl1 rfl ⟨ok.s1,ok.s2,ok.st,ok.wk,ok.p1,ok.p2,by simpa using ok.fl⟩;obtain⟨p1,p2⟩:=Ms hx hS hR1 hl1 hn1 v;have hd:(ob x.S h).Fields.getD n 0=(ob x.S h).Fields[n]:=by
    rw[zd,zc hn];rfl
   constructor
   .unfold G5 aH;rw[ju hR hv hS,XB];dsimp only;rw[p1,XB,XB];have hrel:=dx (x:=wS (B2 x v) (bR (B2 x v).S h (ny (ob (B2 x v).S h) ((ob (B2 x v).S h).Fields.set n v)))) sr2 old;rw[show B6 ⟨bR (B2 x v).S h (ny (ob (B2 x v).S h) ((ob (B2 x v).S h).Fields.set n v)),(B2 x v).Roots,(B2 x v).a8,(B2 x v).T,(B2 x v).Q⟩ (ob x.S h).Fields[n]=_ from hrel];unfold bl;rw[hd,hof];rfl
   .rw[mU hR hv hS,XB,show (hO (B2 x v)).S=sO (B2 x v).S from rfl,p2,XB];have hrel:=fN (x:=wS (B2 x v) (bR (B2 x v).S h (ny (ob (B2 x v).S h) ((ob (B2 x v).S h).Fields.set n v)))) sr2 old;dsimp only;rw[show D9 ⟨sO (bR (B2 x v).S h (ny (ob (B2 x v).S h) ((ob (B2 x v).S h).Fields.set n v))),(hO (B2 x v)).Roots,(hO (B2 x v)).a8,(hO (B2 x v)).T,(hO (B2 x v)).Q⟩ (ob x.S h).Fields[n]=_ from hrel];unfold bl;rw[hd,hof];rfl
  .left;refine⟨3,by decide,?_,?_⟩;·rw[zI hn2,zb (by simp)]
   .rw[zI hn2,zb (by simp)]
theorem PD(k v:Int)(hk:k<=9223372036854775807)(hv:v<=9223372036854775807) :
  (∃e,e≠0/\fI x k v=some (x,e)/\mL (hO x) k v=some (hO x,e)) \/
  (k∈lv x.S/\(v=0\/v∈lv x.S)/\∃r,R8 x.T k v=some r/\r.2.2=0/\fI x k v=some (jj x v r.1 r.2.1,0)/\mL (hO x) k v=some (hO (jj x v r.1 r.2.1),0)):=by
 have hR:=hx.sh.sr;unfold fI mL;by_cases k0:k=0
 .left;subst k0;exact⟨2,by decide,by simp,by simp⟩
 .rw[za (by simpa using k0),za (by simpa using k0),dm hR hk,XB,uu hR hk,XB,dm hR hv,qH hR hv];have hkk:(k=0\/k∈lv x.S)↔k∈lv x.S:=by simp[k0]
  by_cases hl:k∈lv x.S/\(v=0\/v∈lv x.S)
  .obtain⟨hl,hn⟩:=hl;rw[zu (hkk.2 hl),zu hl,zu hn];simp only[Bool.not_true,zW,aF,XB,Bool.or_self,zi,zV];obtain⟨r,r1,r2,r3,r4,r5⟩:=Ju hx.sh.hr k v;rw[r1,XB,show (hO x).T=x.T.map K1 from rfl,r4,XB];by_cases h0:r.2.2=0
   .right;refine⟨hl,hn,r,rfl,h0,?_⟩;have e1:(r.2.2 != 0)=false:=by simpa using h0
    have old:r.2.1<=9223372036854775807:=by
     rcases r5 with ⟨_,rfl⟩ | ⟨_,_,⟨i,hi,rfl⟩ | ⟨_,rfl⟩⟩ | ⟨_,_,⟨i,hi,rfl⟩ | ⟨d,_,_,_,_,rfl⟩ | ⟨_,_,rfl⟩⟩;·simp
     .exact qE hx hS (.inr (hx.sh.pr k _ ⟨i,hi,rfl⟩).2)
     .simp
     .exact qE hx hS (.inr (hx.sh.pr k _ ⟨i,hi,rfl⟩).2)
     .simp
     .simp
    constructor
    .rw[e1];simp only[zi,zV];unfold H6 U7;rw[ju hR hv hS,XB,XB];dsimp only;have hrel:=dx (x:=wT (B2 x v) r.1) (eW hR v) old;rw[show B6 ⟨(B2 x v).S,(B2 x v).Roots,(B2 x v).a8,r.1,(B2 x v).Q⟩ r.2.1=_ from hrel];rfl
    .dsimp only;rw[e1];simp only[zi,zV];rw[mU hR hv hS,XB];have hrel:=fN (x:=wT (B2 x v) r.1) (eW hR v) old;rw[show D9 ⟨(hO (B2 x v)).S,(hO (B2 x v)).Roots,(hO (B2 x v)).a8,r.1.map K1,(hO (B2 x v)).Q⟩ r.2.1=_ from hrel];rfl
   .left;have e1:(r.2.2 != 0)=true:=by simpa using h0
    refine⟨r.2.2,h0,by rw[zb e1],by dsimp only;rw[zb e1]⟩
  .left;refine⟨3,by decide,?_,?_⟩
   .by_cases hl2:k∈lv x.S
    .have:¬(v=0\/v∈lv x.S):=λq=>hl ⟨hl2,q⟩;rw[zu (hkk.2 hl2),zI this];rfl
    .rw[zI λq=>hl2 (hkk.1 q)];rfl
   .by_cases hl2:k∈lv x.S
    .have:¬(v=0\/v∈lv x.S):=λq=>hl ⟨hl2,q⟩;rw[zu hl2,zI this];rfl
    .rw[zI hl2];rfl
end
theorem GY{s:a7}(hR:SR s){h:Int}{i:Nat}(q:V6 s h i):L6 s.S h=some ((xZ s i).S,0):=by
 have hi:=q.1;have hc:=hR.cell i hi;have l9:=hR.l9;unfold L6 xZ;rw[jU hR q,XB,za (by simp),CP hi,XB];by_cases g:(ce s i).Gen=s.S.Last
 .rw[zb (by simpa using g),zb g,jJ rfl hi hR.len];rfl
 .rw[za (by simpa using g),za g,jJ rfl hi hR.len,D1 (by omega) (by omega)];rfl
theorem QU{s:a7}{i:Nat}(hi:i<s.S.a8.length):ix (sO s).a8 (i:Int)=some (cO (ce s i)):=by
 rw[HS,CP hi];rfl
theorem HT(s:a7)(i:Nat)(c:b7):sO (F3 s i c)=⟨(sO s).a8.set i (cO c),s.S.Last,s.Serial⟩:=by
 unfold sO F3;rw[zcc]
theorem wK(t:n7)(p:C3)(hl:t.a8.length<=1000)(hp:p.a8.length=t.a8.length):br t p=some ⟨(List.range t.a8.length).map λk=>⟨(p.a8.getD k ⟨0,0,0⟩).State,(p.a8.getD k ⟨0,0,0⟩).Gen,(t.a8.getD k ⟨0,0,oo z0⟩).Val⟩,t.Last,t.Serial⟩:=by
 unfold br;simp only[jn];rw[Lt (b:=80) t.a8.length (λk=>⟨(p.a8.getD k ⟨0,0,0⟩).State,(p.a8.getD k ⟨0,0,0⟩).Gen,(t.a8.getD k ⟨0,0,oo z0⟩).Val⟩) (by omega) (by omega) (λk acc hk=>?_) (λacc=>by simp)];·rfl
 .have hk2:k<p.a8.length:=by omega
  simp only[zB,hk,zD,zH,o0 hk,o0 hk2,XB];rw[zd,zc hk2,zd,zc hk];rfl
theorem Ld{s:a7}(hR:SR s){h:Int}{i:Nat}(q:V6 s h i):qP (sO s) h=some (sO (xZ s i)):=by
 have hi:=q.1;have hc:=hR.cell i hi;have l9:=hR.l9;have hlen:=hR.len;have hr:=q.MI hR;have hH:oA h:=((po hR).2 q).2.1;have hsl:(h-1) % 32=i:=((po hR).2 q).2.2.1;have K1:i<(pl (sO s)).a8.length:=by rw[bq,A8];exact hi
 have key:∀st g,(st:Int)=st->br (sO s) ⟨(pl (sO s)).a8.set i ⟨st,g,0⟩,(pl (sO s)).Last⟩=some ⟨(sO s).a8.set i ⟨st,g,oo (ce s i).Val⟩,s.S.Last,s.Serial⟩:=λst g _=>by
  rw[wK _ _ (by rw[A8];omega) (by simp[bq])];congr 1;congr 1;refine za5 (by simp) λk h1 h2=>?_;have hk:k<s.S.a8.length:=by simpa[A8] using h1
  have hk2:k<(sO s).a8.length:=by rw[A8];exact hk
  have hk3:k<(pl (sO s)).a8.length:=by rw[bq];exact hk2
  simp only[wl,List.getElem_range,zbx];have e1:(sO s).a8.getD k ⟨0,0,oo z0⟩=cO (ce s k):=by
   rw[zd,zc hk2,D3 hk];simp[sO]
  have e2:((pl (sO s)).a8.set i ⟨st,g,0⟩).getD k ⟨0,0,0⟩=if k=i then ⟨st,g,0⟩ else xv k (cO (ce s k)):=by
   rw[jb K1];split;·rfl
   .rw[zd,zc hk3,D3 hk];simp[pl,sO]
  rw[e1,e2];by_cases e:k=i
  .subst e;rw[zb rfl,zb rfl];rfl
  .rw[za e,za (zal e)];rw[D3 hk];simp[sO,xv,cO]
 have fin:∀st g,(ep ⟨(sO s).a8.set i ⟨st,g,oo (ce s i).Val⟩,s.S.Last,s.Serial⟩ (i:Int) ⟨0,0,0,0,false,[]⟩)=some (sO (F3 s i ⟨st,g,z0⟩)):=λst g=>by
  unfold ep;have hi2:i<((sO s).a8.set i ⟨st,g,oo (ce s i).Val⟩).length:=by simp[A8];exact hi
  rw[I9 (by omega) (by simp[A8];omega),XB,o0 hi2,XB,HT];simp[cO,oo,List.set_set]
 unfold qP Dp xZ;rw[ig _ (by rw[A8];omega),XB,rX s (by omega),jU hR q,XB,za (by simp)];rw[Dg (by rw[A8];exact hi),XB];have hgen:(xv i ((sO s).a8[i]'(by rw[A8];exact hi))).Gen=(ce s i).Gen:=by
  rw[D3 hi];simp[xv,sO,cO]
 have hlast:(pl (sO s)).Last=s.S.Last:=rfl;have w3:∀c:E8,aW (pl (sO s)) (i:Int) c=some ⟨(pl (sO s)).a8.set i c,(pl (sO s)).Last⟩:=λc=>by
  unfold aW;rw[I9 (by omega) (by rw[bq,A8];omega),XB,o0 K1,XB,zQ]
 rw[hgen,hlast,mF,zb hH,hsl];by_cases g:(ce s i).Gen=s.S.Last
 .rw[zb (by simp[g]),zb g,w3,XB,XB,za (by simp),key _ _ rfl,XB,XB,fin];rfl
 .rw[za (by simp;omega),za g,w3,XB,XB,za (by simp),key _ _ rfl,XB,XB,D1 (by omega) (by omega),fin];rfl
section
variable{x:Hp}(hR:SR x.S)
include hR
theorem yj{h d:Int}(hh:h<=9223372036854775807)(hw:V6 x.S h (C0 h) -> -1000<=(ce x.S (C0 h)).Val.Weak+d/\(ce x.S (C0 h)).Val.Weak+d<=1000):bH x h d=some (jg x h d):=by
 unfold bH jg;by_cases q:V6 x.S h (C0 h)
 .have:=hw q;rw[zb q,jU hR q,XB];simp only[zW,zH];rw[CP q.1,XB,D1 (by omega) (by omega),Bw hR q,XB];rfl
 .have hno:∀i,¬V6 x.S h i:=λi hi=>q (by rw[hi.C0 hR];exact hi);rw[za q,pb hR hh hno,XB];have:((if h=0 then 2 else 3:Int)==0)=false:=by simpa using dV h
  simp only[this,zi,zV]
theorem DT{h:Int}(hh:h<=9223372036854775807)(hw:V6 x.S h (C0 h)->1<=(ce x.S (C0 h)).Val.Weak/\(ce x.S (C0 h)).Val.Weak<=1000):dL x h=some (ni x h):=by
 unfold dL;rw[yj hR hh (λq=>by have:=hw q;omega),XB];unfold jg ni;by_cases q:V6 x.S h (C0 h)
 .have hw:=hw q;rw[zb q,zb q];have Ro:=vK hR q.1 q.2.1 (d:=-1) (by omega);have q1:V6 (nC x.S (C0 h) (-1)) h (C0 h):=(ug q.1 _).2 q;dsimp only;rw[jU Ro q1,XB,za (by simp),CP q1.1,XB,eR hR q.1 q.2.1,zb rfl];dsimp only;by_cases c:(ce x.S (C0 h)).State=2/\(ce x.S (C0 h)).Val.Weak=1
  .rw[zb c,zb (by simp[c.1,c.2]),GY Ro q1,XB];rfl
  .rw[za c,za (by simp only[zp,q9];omega)]
 .have hno:∀i,¬V6 x.S h i:=λi hi=>q (by rw[hi.C0 hR];exact hi);rw[za q,za q,pb hR hh hno,XB];have:((if h=0 then 2 else 3:Int) != 0)=true:=by simpa using dV h
  simp only[this,zH]
theorem JC{h:Int}(hh:h<=9223372036854775807)(hw:V6 x.S h (C0 h)->1<=(ce x.S (C0 h)).Val.Weak/\(ce x.S (C0 h)).Val.Weak<=1000):bJ (hO x) h=some (hO (ni x h)):=by
 have hl:=hR.len;unfold bJ;rw[show (hO x).S=sO x.S from rfl,ig _ (by rw[A8];omega),XB,rX x.S hh];unfold ni;by_cases q:V6 x.S h (C0 h)
 .have hw:=hw q;have hr:=q.MI hR;rw[zb q,jU hR q,XB,za (by simp),QU q.1,XB];have Ro:=vK hR q.1 q.2.1 (d:=-1) (by omega);have q1:V6 (nC x.S (C0 h) (-1)) h (C0 h):=(ug q.1 _).2 q;have hs:M4 (sO x.S) h (oo (UB (ce x.S (C0 h)).Val ((ce x.S (C0 h)).Val.Weak + -1)))=some (sO (nC x.S (C0 h) (-1)),0):=by
   rw[MU x.S hl hh,Bw hR q];rfl
  have hw64:u4 ((cO (ce x.S (C0 h))).Val.Weak-1)=(ce x.S (C0 h)).Val.Weak + -1:=by
   show u4 ((ce x.S (C0 h)).Val.Weak-1)=_;rw[D1 (by omega) (by omega)];omega
  rw[hw64];rw[show M4 (sO x.S) h ⟨(cO (ce x.S (C0 h))).Val.Serial,(cO (ce x.S (C0 h))).Val.Strong,(ce x.S (C0 h)).Val.Weak + -1,(cO (ce x.S (C0 h))).Val.Prog,(cO (ce x.S (C0 h))).Val.Started,(cO (ce x.S (C0 h))).Val.Fields⟩=_ from hs,XB,QU q1.1,XB,eR hR q.1 q.2.1,zb rfl];by_cases c:(ce x.S (C0 h)).State=2/\(ce x.S (C0 h)).Val.Weak=1
  .rw[zb c,zb (by simp[cO,c.1,c.2]),Ld Ro q1,XB];rfl
  .rw[za c,za (by simp only[cO,zp,q9,zb3];omega)];rfl
 .have hno:∀i,¬V6 x.S h i:=λi hi=>q (by rw[hi.C0 hR];exact hi);rw[za q,pb hR hh hno,XB];have:((if h=0 then 2 else 3:Int) != 0)=true:=by simpa using dV h
  simp only[this,zH]
end
theorem Nj{l:List c7}(hl:l.length<=1000){n:Nat}(hn:n<l.length)(h call:Int):rG l n h call=some (l.set n (iw h call),l[n].Target,0):=by
 unfold rG jI aa;simp only[XB];rw[za (by simp;omega),lF (by omega) (by omega),XB];have e:xe (List.replicate l.length (⟨0,false,0⟩:c7)) l=some l:=by
  unfold xe;rw[zb (by simp)];simp
 rw[e,XB,XB,o0 hn,XB,XB,zQ]
theorem Gi{l:List c7}(hl:l.length<=1000){n:Nat}(hn:n<l.length)(h call:Int):Be (l.map og) n h call=some ((l.set n (iw h call)).map og,l[n].Target,0):=by
 unfold Be;have hn':n<(l.map og).length:=by simpa using hn
 rw[za (by simp;omega),I9 (by omega) (by simp;omega),XB,o0 hn',XB,XB,zQ,zcc];simp[og]
theorem Ta(l:List c7)(h:Int):BW l h<=l.length:=zba
theorem Qz{x:Hp}(hx:L5 x)(k h call:Int)(hh:h<=9223372036854775807)(hc : -1<=call/\call<=5) :
  (∃e,e≠0/\ao x k h call=some (x,e)/\gk (hO x) k h call=some (hO x,e)) \/
  ((h=0\/h∈lv x.S)/\∃n:Nat,k=n/\n<6/\JF x.Q n=false/\ao x k h call=some (da x n h call,0)/\gk (hO x) k h call=some (hO (da x n h call),0)):=by
 have hR:=hx.sh.sr;have c6:=hx.sh.c6;have q30:=hx.sh.q30;unfold ao gk;by_cases hk:k<0\/5<k
 .left;have e1:((decide (k<0))||(decide (k>=(x.a8.length:Int))))=true:=by rw[c6];simp;omega
  have e2:((decide (k<0))||(decide (k > 5)))=true:=by simp;omega
  refine⟨7,by decide,?_,?_⟩;·rw[e1];rfl
  .rw[e2];rfl
 .obtain⟨n,rfl⟩:∃n:Nat,k=n:=⟨k.toNat,by omega⟩;have hn6:n<6:=by omega
  have e1:((decide ((n:Int)<0))||(decide ((n:Int)>=(x.a8.length:Int))))=false:=by rw[c6];simp;omega
  have e2:((decide ((n:Int)<0))||(decide ((n:Int) > 5)))=false:=by simp;omega
  rw[e1,e2];simp only[zW,aF,zbw];have hwq:gy x.Q n=some (JF x.Q n):=Qn (by omega);have hwr:jo (hO x).Q n=some (JF x.Q n):=PN (by omega);rw[hwq,XB,hwr,XB,dm hR hh,XB,qH hR hh,XB];by_cases hw:JF x.Q n=true
  .left;rw[zb hw,zb hw];exact⟨7,by decide,rfl,rfl⟩
  .have hw:JF x.Q n=false:=by simpa using hw
   rw[hw,za (show ¬(false=true) by decide),za (show ¬(false=true) by decide)];by_cases hl:h=0\/h∈lv x.S
   .right;refine⟨hl,n,rfl,hn6,hw,?_⟩;have hnl:n<x.a8.length:=by omega
    rw[zu hl,za (by simp),za (by simp),Nj (by omega) hnl,XB,show (hO x).a8=x.a8.map og from rfl,Gi (by omega) hnl,XB];have htg:rv x n=x.a8[n].Target:=by
     unfold rv;rw[zd,zc hnl];rfl
    have wkb:∀i,i<x.S.S.a8.length->Th (ce x.S i)->0<=(ce x.S i).Val.Weak/\(ce x.S i).Val.Weak<=6:=λi hi ht=>by
     have:=(hx.wk i hi ht).1;have:=Ta x.a8 (1+(i:Int)+32*(ce x.S i).Gen);omega
    have mk1:∃s2,jg (wC x (x.a8.set n (iw h call))) h 1=wS (wC x (x.a8.set n (iw h call))) s2/\SR s2/\(∀k i,V6 s2 k i↔V6 x.S k i)/\(∀i,i<x.S.S.a8.length->Th (ce x.S i)->(ce x.S i).Val.Weak<=(ce s2 i).Val.Weak/\(ce s2 i).Val.Weak<=(ce x.S i).Val.Weak+1) /\
      (h≠0->E1 (sO x.S) h=some (oo (ce x.S (C0 h)).Val,0)/\M4 (sO x.S) h (oo (UB (ce x.S (C0 h)).Val ((ce x.S (C0 h)).Val.Weak+1)))=some (sO s2,0))/\(h=0->s2=x.S):=by
     unfold jg;by_cases h0:h=0
     .have hno:¬V6 x.S h (C0 h):=λq=>by have:=q.MI hR;omega
      rw[za hno];exact⟨x.S,rfl,hR,λ_ _=>Iff.rfl,λi _ _=>by omega,λq=>absurd h0 q,λ_=>rfl⟩
     .have hll:=hl.resolve_left h0;have hp:=y5 hR hll;have hb:=wkb _ hp.1 (.inl hp.2.1);rw[zb hp.d];have kn:=kD hR hp.1 (.inl hp.2.1) (d:=1) (by omega);refine⟨_,rfl,kn.sr,kn.ad,λi hi ht=>?_,λ_=>⟨?_,?_⟩,λq=>absurd q h0⟩
      .rw[eR hR hp.1 (.inl hp.2.1)];split;·rename_i e;subst e;dsimp only;omega
       .omega
      .rw[ja x.S (by have:=hR.len;omega) hh,RW hR hp];rfl
      .rw[MU x.S hR.len hh,Bw hR hp.d];rfl
    obtain⟨s2,m1,m2,m3,m4,m5,m6⟩:=mk1;have hold:rv x n<=9223372036854775807:=by
     by_cases q:rv x n=0
     .omega
     .obtain⟨p,hp⟩:=(hx.sh.cl n hnl).2.2.2.1 (by rw[<-htg];exact q);have:=hp.MI hR;rw[htg];omega
    have hun:V6 s2 (rv x n) (C0 (rv x n))->1<=(ce s2 (C0 (rv x n))).Val.Weak/\(ce s2 (C0 (rv x n))).Val.Weak<=1000:=λq=>by
     have q':=(m3 _ _).1 q;have r:=q'.MI hR;have:=(hx.wk _ q'.1 q'.2.1).1;have hp:0<BW x.a8 x.a8[n].Target:=qJ hnl (by rw[<-htg];omega);rw[<-htg,q'.2.2] at hp;have:=m4 _ q'.1 q'.2.1;have:=wkb _ q'.1 q'.2.1;omega
    have u1:=DT (x:=wS (wC x (x.a8.set n (iw h call))) s2) m2 hold hun;have u2:=JC (x:=wS (wC x (x.a8.set n (iw h call))) s2) m2 hold hun;have hwb:V6 x.S h (C0 h) -> -1000<=(ce x.S (C0 h)).Val.Weak+1/\(ce x.S (C0 h)).Val.Weak+1<=1000:=λq=>by
     have:=wkb _ q.1 q.2.1;omega
    have mm:=yj (x:=wC x (x.a8.set n (iw h call))) (d:=1) hR hh hwb;constructor
    .dsimp only;rw[show bH ⟨x.S,x.Roots,x.a8.set n (iw h call),x.T,x.Q⟩ h 1=_ from mm,XB,m1,<-htg,u1,XB];unfold da;rw[m1]
    .unfold da;rw[m1];dsimp only;by_cases h0:h=0
     .rw[za (by simpa using h0),<-htg];rw[m6 h0] at u2 |-;rw[show bJ ⟨(hO x).S,(hO x).Roots,(x.a8.set n (iw h call)).map og,(hO x).T,(hO x).Q⟩ (rv x n)=_ from u2,XB]
     .obtain⟨g1,g2⟩:=m5 h0;have hp:=y5 hR (hl.resolve_left h0);have hb:=wkb _ hp.1 (.inl hp.2.1);rw[zb (by simpa using h0),show (hO x).S=sO x.S from rfl,g1,XB];have e:u4 ((oo (ce x.S (C0 h)).Val).Weak+1)=(ce x.S (C0 h)).Val.Weak+1:=by
       show u4 ((ce x.S (C0 h)).Val.Weak+1)=_;rw[D1 (by omega) (by omega)]
      dsimp only;rw[e];rw[show M4 (sO x.S) h ⟨(oo (ce x.S (C0 h)).Val).Serial,(oo (ce x.S (C0 h)).Val).Strong,(ce x.S (C0 h)).Val.Weak+1,(oo (ce x.S (C0 h)).Val).Prog,(oo (ce x.S (C0 h)).Val).Started,(oo (ce x.S (C0 h)).Val).Fields⟩=_ from g2,XB,<-htg];dsimp only;rw[show bJ ⟨sO s2,(hO x).Roots,(x.a8.set n (iw h call)).map og,(hO x).T,(hO x).Q⟩ (rv x n)=_ from u2,XB]
   .left;rw[zI hl];refine⟨3,by decide,?_,?_⟩ <;> rw[zb (by rfl)]
section
variable{x:Hp}(hx:L5 x)(hS:∀k∈lv x.S,(ob x.S k).Strong<=9223372036854775807)
include hx hS
end
theorem GW{α:Type}{l:List α}{i:Nat}(h:i<l.length)(d:α):l.getD i d=l[i]:=by
 rw[zd,zc h];rfl
def Xk(a b:g9):Prop:=a.Kind=b.Kind/\a.At=b.At
instance(a b:g9):Decidable (Xk a b):=by unfold Xk;infer_instance
section
variable{x:Hp}(hR:SR x.S)
include hR
omit hR in
theorem KP:QD x.S x.T (ow x)↔bA x []:=by
 constructor
 .intro h k hk hlt;have:=h k hk hlt;unfold yB inr at this;rw[zb hk] at this;rw[O7];unfold ov;omega
 .intro h k hk hlt;have:=h k hk hlt;rw[O7] at this;unfold ov at this;unfold yB inr;rw[zb hk];omega
end
section
variable{x:Hp}(hx:L5 x)(hB:HB x)
include hx hB
end
theorem TY{l:List o7}(h:l.length<=100000):qS l l=some true:=by
 unfold qS;rw[za (by simp)];simp only[jn];refine T1 l.length (λ_=>True) (by omega) trivial (λk hk _=>.inl ⟨?_,trivial⟩) (λ_=>⟨.inr (),by simp,rfl⟩);rw[zb (by simpa using hk),o0 hk,XB,XB,za (by simp),k8 (by omega)]
def SL(x:Hp):Prop:=∀k∈lv x.S,(ob x.S k).Strong<=9223372036854775807
theorem SB.sl{x:Hp}(hR:SR x.S)(h:SB x.S):SL x:=λk hk=>JA hR h k hk
theorem QQ{x:Hp}(hx:L5 x)(hS:SL x):HB x:=by
 have hR:=hx.sh.sr;have bd:∀v,v=0\/v∈lv x.S->v<=9223372036854775807:=λv q=>by
  rcases q with q | q
  .omega
  .have:=F6 hR q;omega
 refine⟨VQ.2 λi hi=>?_,Vc.2 λi hi v hv=>?_,λv hv=>bd v (hx.sh.rt v hv),λc hc=>?_,λp hp=>?_,λt ht=>?_⟩
 .by_cases t:Th (ce x.S i)
  .rcases t with t | t
   .have q:At x.S (1+(i:Int)+32*(ce x.S i).Gen) i:=⟨hi,t,rfl⟩;have:=hS _ ((dX hR).2 ⟨i,q⟩);rwa [N5 hR q] at this
   .have:=((hx.wk i hi (.inr t)).2 t).2.2;omega
  .have:=(hR.no i hi t).2.1;simp only[oo] at this;omega
 .by_cases t:Th (ce x.S i)
  .rcases t with t | t
   .have q:At x.S (1+(i:Int)+32*(ce x.S i).Gen) i:=⟨hi,t,rfl⟩;have hm:=(dX hR).2 ⟨i,q⟩;exact bd v (hx.sh.fl _ hm v (by rw[N5 hR q];exact hv))
   .rw[((hx.wk i hi (.inr t)).2 t).2.1] at hv;cases hv
  .have:=(hR.no i hi t).2.2.2.2.2;simp only[oo] at this;rw[zP this] at hv;cases hv
 .obtain⟨i,hi,rfl⟩:=zaz hc;by_cases e:x.a8[i].Target=0
  .omega
  .obtain⟨p,hp⟩:=(hx.sh.cl i hi).2.2.2.1 e;have:=hp.MI hR;omega
 .obtain⟨i,hi,rfl⟩:=zaz hp;have e:pt x.T i=x.T[i]:=by
   unfold pt;rw[zd,zc hi];rfl
  by_cases s1:(pt x.T i).State=1
  .obtain⟨a,b⟩:=hx.sh.pr (pt x.T i).Key (pt x.T i).Val ⟨i,⟨hi,s1,rfl⟩,rfl⟩;rw[e] at a b;exact⟨bd _ (.inr a),bd _ (.inr b)⟩
  .obtain⟨a,b⟩:=(hx.sh.hr.st i hi).2 s1;rw[e] at a b;omega
 .obtain⟨_,_,q | q⟩:=hx.sh.tk t ht;·exact bd _ (.inr q.2.1)
  .omega
theorem Rn{s:a7}(hR:SR s):Sm s:=by
 refine⟨by have:=hR.len;omega,λi hi=>?_⟩;by_cases t:Th (ce s i)
 .have:=(hR.ok i hi t).fl;rw[D3 hi] at this;omega
 .have:=(hR.no i hi t).2.2.2.2.2;simp only[oo] at this;rw[D3 hi] at this;omega
theorem TZ{x:Hp}(h:iR x):qZ (hO x) (hO x)=some true:=by
 have sm:=Rn h.sr;have h1:=h.r6;have h2:=h.c6;have h3:=h.hr.l8;have h4:=h.q30;unfold qZ;rw[show (hO x).S=sO x.S from rfl,Ij _ (by rw[A8];have:=sm.1;omega) (λi hi=>by
  have:=sm.2 i (by rw[A8] at hi;exact hi);simp only[sO,wl,cO,oo];omega),XB]
 simp only[zW,aF,ut];rw[show (hO x).Roots=x.Roots from rfl,EZ (by omega),XB];simp only[zW,aF,ut];rw[TY (by simp[hO];omega),XB];simp only[zW,aF,ut];rw[Jt (by simp[hO];omega),XB];simp only[zW,aF,ut];rw[show (hO x).Q=jD x.Q from rfl,TD (by omega),XB]
theorem OT(c:Int):T0 c<=12:=by unfold T0;split <;> (try split) <;> omega
theorem OC{c:Int}(h:c<=9223372036854775807):iY c<=9223372036854775807:=by unfold iY;split <;> (try split) <;> omega
theorem SL.of{x y:Hp}(h:SL x)(hl:lv y.S=lv x.S)(hs:∀k∈lv x.S,(ob y.S k).Strong=(ob x.S k).Strong):SL y:=λk hk=>by
 rw[hl] at hk;rw[hs k hk];exact h k hk
theorem SL.st{x:Hp}(h:SL x)(hR:SR x.S)(v:Int){f:Int->Int}(hf:∀c,0<=c->0<=f c)(hb:∀c,c<=9223372036854775807->f c<=9223372036854775807):SL (ru x v f):=λk hk=>by
 rw[(E5 hR v hf).lv] at hk;rw[sU hR v hf hk];split;·exact hb _ (h k hk)
 .exact h k hk
theorem SL.B2{x:Hp}(h:SL x)(hR:SR x.S)(v:Int):SL (B2 x v):=h.st hR v (λc=>C5) λc _=>by have:=OT c;omega
theorem SL.Wp{x:Hp}(h:SL x)(hR:SR x.S)(v:Int):SL (O9 x v):=h.st hR v (λc=>M0) λc hc=>OC hc
theorem FJ{x:Hp}(hR:SR x.S)(v:Int):SR (O9 x v).S:=(E5 hR v λc=>M0).sr
theorem gu{x:Hp}(hR:SR x.S)(h:SL x)(r:Nat)(v:Int):SL (E4 x r v):=by
 unfold E4;exact SL.Wp (x:=wR (B2 x v) (x.Roots.set r v)) (h.B2 hR v) (eW hR v) _
theorem IE{x:Hp}(hR:SR x.S)(hS:SL x){h:Int}(hh:h∈lv x.S)(k:Nat)(v:Int):SL (bl x h k v):=by
 have xt:=E5 hR v (f:=T0) λc=>C5;have hR1:SR (B2 x v).S:=xt.sr;have hl1:h∈lv (B2 x v).S:=by rw[show lv (B2 x v).S=lv x.S from xt.lv];exact hh
 have hof:(ob (B2 x v).S h).Fields=(ob x.S h).Fields:=by
  obtain⟨m,e⟩:=xt.ob h (by have:=F6 hR hh;omega);show (ob (ru x v T0).S h).Fields=_;rw[e]
 have ok:=I3 hR1 hl1;have ho:xi (B2 x v).S (ny (ob (B2 x v).S h) ((ob x.S h).Fields.set k v)):=⟨ok.s1,ok.s2,ok.st,ok.wk,ok.p1,ok.p2,by have:=ok.fl;rw[hof] at this;simpa using this⟩;have sr2:=aL (o:=ny (ob (B2 x v).S h) ((ob x.S h).Fields.set k v)) hR1 hl1 rfl ho;unfold bl;refine SL.Wp (x:=wS (B2 x v) (bR (B2 x v).S h (ny (ob (B2 x v).S h) ((ob x.S h).Fields.set k v)))) ?_ sr2 _;refine (hS.B2 hR v).of (eX hR1 hl1 rfl ho) λj hj=>?_;dsimp only;rw[dz (o:=ny (ob (B2 x v).S h) ((ob x.S h).Fields.set k v)) hR1 hl1 rfl ho (by have:=F6 hR1 hj;omega)];split;·rename_i e;rw[e]
 .rfl
theorem Mi{x:Hp}(hR:SR x.S)(hS:SL x)(v:Int)(t:Tb)(old:Int):SL (jj x v t old):=by
 unfold jj;exact SL.Wp (x:=wT (B2 x v) t) (hS.B2 hR v) (eW hR v) _
theorem SX{x:Hp}(hR:SR x.S)(hS:SL x)(h:Int){d:Int}(hd:V6 x.S h (C0 h)->0<=(ce x.S (C0 h)).Val.Weak+d):SL (jg x h d):=by
 unfold jg;split
 .rename_i q;exact hS.of (kD hR q.1 q.2.1 (hd q)).lv λk hk=>kE hR q.1 q.2.1 (hd q) hk
 .exact hS
theorem Ih{x:Hp}(hR:SR x.S)(hS:SL x)(h:Int)(hd:V6 x.S h (C0 h)->1<=(ce x.S (C0 h)).Val.Weak):SL (ni x h):=by
 unfold ni;split
 .rename_i q;have hd:=hd q;have kn:=kD (d:=-1) hR q.1 q.2.1 (by omega);have s1:SL (wS x (nC x.S (C0 h) (-1))):=hS.of kn.lv λk hk=>kE hR q.1 q.2.1 (by omega) hk;split
  .rename_i c;have hi1:C0 h<(nC x.S (C0 h) (-1)).S.a8.length:=by rw[kn.len];exact q.1
   have hce:ce (nC x.S (C0 h) (-1)) (C0 h)=⟨(ce x.S (C0 h)).State,(ce x.S (C0 h)).Gen,UB (ce x.S (C0 h)).Val ((ce x.S (C0 h)).Val.Weak + -1)⟩:=by
    rw[eR hR q.1 q.2.1,zb rfl]
   have h2:(ce (nC x.S (C0 h) (-1)) (C0 h)).State=2:=by rw[hce];exact c.1
   exact s1.of (Az kn.sr hi1 h2) λk hk=>by
    dsimp only;rw[AA kn.sr hi1 h2 hk]
  .exact s1
 .exact hS
theorem Nh{x:Hp}(hx:L5 x)(hS:SL x){n:Nat}(hn:n<6)(h call:Int):SL (da x n h call):=by
 have hR:=hx.sh.sr;have hnl:n<x.a8.length:=by have:=hx.sh.c6;omega
 have ok:∀k i,V6 x.S k i->0<=(ce x.S i).Val.Weak:=λk i q=>(hR.ok i q.1 q.2.1).wk;have tw:∀i,V6 x.S (rv x n) i->1<=(ce x.S i).Val.Weak:=λi q=>by
  have htg:rv x n=x.a8[n].Target:=by
   unfold rv;rw[zd,zc hnl];rfl
  have r:=q.MI hR;have p:=qJ hnl (by rw[<-htg];omega);rw[<-htg,q.2.2] at p;have:=(hx.wk i q.1 q.2.1).1;omega
 unfold da;have s1:SL (jg (wC x (x.a8.set n (iw h call))) h 1):=SX (x:=wC x (x.a8.set n (iw h call))) hR hS h λq=>by
  have:=ok _ _ q;dsimp only;omega
 by_cases q:V6 x.S h (C0 h)
 .have e:jg (wC x (x.a8.set n (iw h call))) h 1=wS (wC x (x.a8.set n (iw h call))) (nC x.S (C0 h) 1):=by
   unfold jg;rw[zb q]
  have hd:=ok _ _ q;have kn:=kD (d:=1) hR q.1 q.2.1 (by omega);rw[e] at s1 |-;refine Ih kn.sr s1 _ λq2=>?_;dsimp only at q2 |-;have q3:=(kn.ad _ _).1 q2;have:=tw _ q3;rw[eR hR q.1 q.2.1];split
  .rename_i e2;rw[e2] at this;show 1<=(ce x.S (C0 h)).Val.Weak+1;omega
  .exact this
 .have e:jg (wC x (x.a8.set n (iw h call))) h 1=wC x (x.a8.set n (iw h call)):=by
   unfold jg;rw[za q]
  rw[e] at s1 |-;exact Ih (x:=wC x (x.a8.set n (iw h call))) hR s1 _ λq2=>tw _ q2
section
variable{x:Hp}(hx:L5 x)(hS:SL x)
include hx hS
end
def BZ(x:Hp):Prop:=Sm x.S/\x.Roots.length<=20/\x.a8.length<=20/\x.T.length<=20/\x.Q.L.length<=60
instance(x:Hp):Decidable (BZ x):=by unfold BZ;infer_instance
theorem iR.WQ{x:Hp}(h:iR x):BZ x:=by
 have h1:=h.r6;have h2:=h.c6;have h3:=h.hr.l8;have h4:=h.q30;exact⟨Rn h.sr,by omega,by omega,by omega,by omega⟩
def IM:Hp:=⟨⟨⟨[],0⟩,0⟩,[],[],[],⟨[],0⟩⟩
theorem wG(x:Hp)(h:Int)(f:Int->Int):(ru x h f).Roots=x.Roots/\(ru x h f).a8=x.a8/\(ru x h f).T=x.T/\(ru x h f).Q=x.Q:=by
 unfold ru;split <;> exact⟨rfl,rfl,rfl,rfl⟩
theorem gr(x:Hp)(r:Nat)(h:Int):(E4 x r h).Roots=x.Roots.set r h/\(E4 x r h).a8=x.a8/\(E4 x r h).T=x.T/\(E4 x r h).Q=x.Q:=by
 obtain⟨a,b,c,d⟩:=wG (wR (B2 x h) (x.Roots.set r h)) (x.Roots.getD r 0) iY;obtain⟨a',b',c',d'⟩:=wG x h T0;exact⟨a,b.trans b',c.trans c',d.trans d'⟩
section
variable{x:Hp}(hB:HB x)
include hB
end
abbrev IA(o:k9):k9:=⟨o.Serial,0,o.Weak,o.Prog,o.Started,[]⟩
def JH(s:a7)(i:Nat):b7:=
 if (ce s i).Val.Weak=0 then (if (ce s i).Gen=s.S.Last then ⟨3,(ce s i).Gen,z0⟩ else ⟨0,(ce s i).Gen+1,z0⟩) else ⟨2,(ce s i).Gen,IA (ce s i).Val⟩
def Ax(s:a7)(d:Int):a7:=F3 s (C0 d) (JH s (C0 d))
def km(s:a7)(ds:List Int):a7:=ds.foldl Ax s
theorem Sz(s:a7)(i:Nat):(JH s i).State≠1:=by
 unfold JH;split;·split <;> simp
 .simp
theorem Fq{s:a7}(hR:SR s){a b:Int}(ha:a∈lv s)(hb:b∈lv s)(h:a≠b):C0 a≠C0 b:=λe=>by
 have h1:=y5 hR ha;have h2:=y5 hR hb;rw[e] at h1;exact h (h1.2.2.trans h2.2.2.symm)
section
variable{s:a7}(hR:SR s){d:Int}(hd:d∈lv s)
include hR hd
theorem EV:SR (Ax s d):=by
 have q:=y5 hR hd;have hc:=hR.cell _ q.1;have ho:=hR.ok _ q.1 (.inl q.2.1);have no:Ej (oo z0):=⟨rfl,rfl,rfl,rfl,rfl,rfl⟩;unfold Ax JH;split
 .split;·exact hR.F3 q.1 ⟨by simp,by simp,hc.2.2.1,hc.2.2.2⟩ (λ_=>no) (λq=>absurd q (by unfold Th;simp))
  .refine hR.F3 q.1 ⟨by simp,by simp,?_,?_⟩ (λ_=>no) (λq=>absurd q (by unfold Th;simp));·show 0<=(ce s (C0 d)).Gen+1;omega
   .show (ce s (C0 d)).Gen+1<=s.S.Last;omega
 .exact hR.F3 q.1 ⟨by simp,by simp,hc.2.2.1,hc.2.2.2⟩ (λq=>absurd (.inr rfl) q) (λ_=>⟨⟨ho.s1,ho.s2,pm _,ho.wk,ho.p1,ho.p2,un _⟩,.inl q.2.1,rfl⟩)
theorem Le(j:Nat):ce (Ax s d) j=if j=C0 d then JH s (C0 d) else ce s j:=J0 (y5 hR hd).1 _ j
theorem Sx:lv (Ax s d)=(lv s).filter λh=>decide (h≠d):=by
 have hS:=EV hR hd;unfold Ax at hS |-;have hc:=Sz s (C0 d);rw[Hk hR (y5 hR hd).1 hc hS];refine zar λh hh=>zay.2 ⟨λq e=>q (by rw[e]),λq=>Fq hR hh hd q⟩
theorem Sy{k:Int}(hk:k∈lv s)(hne:k≠d):ob (Ax s d) k=ob s k:=by
 have hS:=EV hR hd;unfold Ax at hS |-;exact Hr hR (y5 hR hd).1 hS hk (Fq hR hk hd hne)
end
structure Gn (s s':a7) (ds:List Int):Prop where
 sr:SR s'
 len:s'.S.a8.length=s.S.a8.length
 last:s'.S.Last=s.S.Last
 Z4:s'.Serial=s.Serial
 lv:lv s'=(lv s).filter λh=>decide (h∉ds)
 ob:∀k∈Sh.lv s,k∉ds->ob s' k=ob s k
 ce:∀j,ce s' j=if j∈ds.map C0 then JH s j else ce s j
theorem cc:∀(ds:List Int) {s:a7} (hR:SR s),ds.Nodup->(∀d∈ds,d∈lv s)->Gn s (km s ds) ds
 | [],s,hR,_,_=>⟨hR,rfl,rfl,rfl,(zan.2 (λa _=>by simp)).symm,λ_ _ _=>rfl,λj=>by simp[km]⟩
 | d::ds,s,hR,hn,hm=>by
  rw[zak] at hn;have hd:=hm d (zk ..);have hlv:=Sx hR hd;have hm':∀e∈ds,e∈lv (Ax s d):=λe he=>by
   rw[hlv,zm,zx];exact⟨hm e (zq _ he),λq=>hn.1 (q▸he)⟩
  have ih:=cc ds (EV hR hd) hn.2 hm';refine⟨ih.sr,ih.len.trans (V5 ..),ih.last,ih.Z4,?_,λk hk hne=>?_,λj=>?_⟩
  .show lv (km (Ax s d) ds)=_;rw[ih.lv,hlv,List.filter_filter];refine zar λh hh=>?_;rw[za2];simp only[zp,zx,zR,not_or];exact⟨λq=>⟨q.2,q.1⟩,λq=>⟨q.2,q.1⟩⟩
  .show ob (km (Ax s d) ds) k=_;rw[zR,not_or] at hne;rw[ih.ob k (by rw[hlv,zm,zx];exact⟨hk,hne.1⟩) hne.2,Sy hR hd hk hne.1]
  .show ce (km (Ax s d) ds) j=_;have hg:∀e∈ds,C0 e≠C0 d:=λe he=>Fq hR (hm e (zq _ he)) hd λq=>hn.1 (q▸he);rw[ih.ce];by_cases h1:j∈ds.map C0
   .obtain⟨e,he,rfl⟩:=zX.1 h1;rw[zb h1,zb (by rw[ul];exact zq _ h1)];unfold JH;rw[Le hR hd,za (hg e he)];rfl
   .rw[za h1,Le hR hd,ul];by_cases h2:j=C0 d
    .subst h2;rw[zb rfl,zb (zk ..)]
    .rw[za h2,za];rw[zR];exact λq=>q.elim h2 h1
theorem yI{α:Type}(p:α->Bool)(f:α->Nat):∀l:List α,(l.map f).sum=((l.filter p).map f).sum+((l.filter λx => !p x).map f).sum
 | []=>rfl
 | x::l=>by
  rw[ul,zbm,yI p f l,rx,rx];cases p x <;> simp <;> omega
theorem DR(f:Int->List Int)(y:Int):∀l:List Int,X6 (l.flatMap f) y=(l.map λx=>X6 (f x) y).sum
 | []=>O7 y
 | x::l=>by rw[za0,I6,DR f y l,ul,zbm]
theorem Gn.gU{s s':a7}{ds:List Int}(hR:SR s)(hn:ds.Nodup)(hm:∀d∈ds,d∈Sh.lv s)(g:Gn s s' ds)(y:Int):gU s' y+X6 (ds.flatMap (outs s)) y=gU s y:=by
 unfold Sh.gU;rw[g.lv,yI (λh=>decide (h∉ds)) (λx=>X6 (outs s x) y) (Sh.lv s),DR];have h1:((Sh.lv s).filter λh=>decide (h∉ds)).map (λx=>X6 (outs s' x) y)=((Sh.lv s).filter λh=>decide (h∉ds)).map λx=>X6 (outs s x) y:=zC λx hx=>by
  rw[zm,zx] at hx;unfold Sh.outs;rw[g.ob x hx.1 hx.2]
 have h2:((Sh.lv s).filter λx => !decide (x∉ds)).Perm ds:=by
  rw[List.perm_ext_iff_of_nodup ((qF (r9.2 hR)).filter _) hn];intro a;rw[zm];simp only[decide_not,Bool.not_not,zx];exact⟨λq=>q.2,λq=>⟨hm a q,q⟩⟩
 rw[h1,(h2.map λx=>X6 (outs s x) y).sum_nat]
theorem Da{L:List g9}(hd:L.Pairwise λa b=>¬(a.Kind=b.Kind/\a.At=b.At))(k:Int):((L.filter (·.Kind==k)).map (·.At)).Nodup:=by
 unfold List.Nodup;rw[List.pairwise_map];refine (hd.filter _).imp_of_mem λ{a b} ha hb h e=>?_;rw[zm,q9] at ha hb;exact h ⟨ha.2.trans hb.2.symm,e⟩
theorem wH{L:List g9}{m:List Int}(hd:L.Pairwise λa b=>¬(a.Kind=b.Kind/\a.At=b.At))(h:∀t∈L,(t.Kind=1/\t.At∈m)\/(t.Kind=2/\0<=t.At/\t.At<=5)):L.length<=m.length+6:=by
 have h1:L.length=(L.filter (·.Kind==1)).length+(L.filter (·.Kind==2)).length:=by
  rw[qh (λt:g9=>t.Kind==1) L];congr 2;refine zar λt ht=>?_;rcases h t ht with q | q
  .simp[q.1]
  .simp[q.1]
 have h2:=gi (Da hd 1) (m:=m) λa ha=>by
  obtain⟨t,ht,rfl⟩:=zX.1 ha;rw[zm,q9] at ht;rcases h t ht.1 with q | q
  .exact q.2
  .omega
 have h3:=gi (Da hd 2) (m:=[0,1,2,3,4,5]) λa ha=>by
  obtain⟨t,ht,rfl⟩:=zX.1 ha;rw[zm,q9] at ht;rcases h t ht.1 with q | q
  .omega
  .simp only[zR,List.not_mem_nil,or_false];omega
 rw[wt] at h2 h3;simp only[zA,wp] at h3;omega
theorem iy{q:TQ}{w:Int}:JF q w=true↔∃t∈q.L,t.Kind=2/\t.At=w:=by
 unfold JF;rw[List.any_eq_true];simp
theorem qI{q:TQ}{h:Int}:h∈xq q↔∃t∈q.L,t.Kind=1/\t.At=h:=by
 unfold xq;rw[zX];simp only[zm,q9];exact⟨λ⟨t,⟨a,b⟩,c⟩=>⟨t,a,b,c⟩,λ⟨t,a,b,c⟩=>⟨t,⟨a,b⟩,c⟩⟩
abbrev cz:c7:=⟨0,false,0⟩
def fu(ds:List Int)(c:c7):Bool:=c.Intact&&c.Target != 0&&decide (c.Target∈ds)
def mb(ds:List Int)(c:c7):c7:=if fu ds c then ⟨c.Target,false,c.Call⟩ else c
def ta(l:List c7)(ds:List Int):List c7:=l.map (mb ds)
def cls(l:List c7)(ds:List Int):List Nat:=(List.range l.length).filter λw=>fu ds (l.getD w cz)&&decide (0<=(l.getD w cz).Call)
def oG(l:List c7)(ds:List Int):List g9:=(cls l ds).map λ(w:Nat)=>⟨2,(w:Int),(l.getD w cz).Call⟩
theorem yY(ds:List Int)(c:c7):(mb ds c).Target=c.Target/\(mb ds c).Call=c.Call/\((mb ds c).Intact=true↔c.Intact=true/\fu ds c=false):=by
 unfold mb;cases h:fu ds c
 .rw[za (by simp)];simp
 .rw[zb rfl];simp
theorem Ph(l:List c7)(ds:List Int)(h:Int):BW (ta l ds) h=BW l h:=by
 unfold BW ta;rw[List.countP_map];congr 1;funext c
 simp only[Function.comp_apply,(yY ds c).1]
theorem fw{l:List c7}{ds:List Int}{t:g9}:t∈oG l ds↔∃w,∃hw:w<l.length,t=⟨2,(w:Int),l[w].Call⟩/\fu ds l[w]=true/\0<=l[w].Call:=by
 unfold oG cls;rw[zX];constructor
 .rintro⟨w,hw,rfl⟩;rw[zm,zb6] at hw;obtain⟨h1,h2⟩:=hw;have e:l.getD w cz=l[w]:=by rw[zd,zc h1];rfl
  rw[e] at h2 |-;rw[zp,zx] at h2;exact⟨w,h1,rfl,h2.1,h2.2⟩
 .rintro⟨w,hw,rfl,h2,h3⟩;have e:l.getD w cz=l[w]:=by rw[zd,zc hw];rfl
  refine⟨w,?_,by rw[e]⟩;rw[zm,zb6,e,zp,zx];exact⟨hw,h2,h3⟩
theorem xQ(l:List c7)(ds:List Int):(oG l ds).Pairwise λa b=>¬(a.Kind=b.Kind/\a.At=b.At):=by
 unfold oG cls;rw[List.pairwise_map];refine (zbt _ (List.nodup_range (n:=l.length))).imp λ{a b} h=>?_;rintro⟨_,e⟩;dsimp only at e;omega
def gC(x:Hp)(ds:List Int)(t:Tb):Hp:=⟨km x.S ds,x.Roots,ta x.a8 ds,t,⟨x.Q.L++oG x.a8 ds,x.Q.Cap⟩⟩
theorem vA(q:TQ)(l:List g9)(c:Int)(h:∀t∈l,t.Kind≠1):xq ⟨q.L++l,c⟩=xq q:=by
 unfold xq;dsimp only;rw[zaw];have:l.filter (λt=>t.Kind==1) = []:=by
  rw[List.filter_eq_nil_iff];intro t ht;simpa using h t ht
 rw[this,mt]
theorem Iv{x:Hp}(hx:L5 x){ds:List Int}(hn:ds.Nodup)(hm:∀d∈ds,d∈lv x.S)
  (ho:∀d∈ds,d∉ow x)(hf:∀h∈lv x.S,h∉ds->∀v∈(ob x.S h).Fields,v∉ds)(hp:∀k v,Has x.T k v->k∉ds->v∉ds)
  {t:Tb}{vals:List Int}(ht:HR t)(h1:∀k v,Has t k v↔k∉ds/\Has x.T k v)(h2:∀y,own t y+X6 vals y=own x.T y) :
  iR (gC x ds t)/\Wk (gC x ds t)/\bA (gC x ds t) (ds.flatMap (outs x.S)++vals):=by
 have hS:=hx.sh;have hR:=hS.sr;have g:=cc ds hR hn hm;have hlv:∀h,h∈lv (km x.S ds)↔h∈lv x.S/\h∉ds:=λh=>by rw[g.lv,zm,zx]
 have hlen:(lv x.S).length<=24:=E2 (r9.2 hR);have hcl:∀w (hw:w<x.a8.length),fu ds x.a8[w]=true->x.a8[w].Intact=true:=λw hw q=>by
  unfold fu at q;rw[zp,zp] at q;exact q.1.1
 have htd:(x.Q.L++oG x.a8 ds).Pairwise λa b=>¬(a.Kind=b.Kind/\a.At=b.At):=by
  rw[za4];refine⟨hS.td,xQ ..,λa ha b hb q=>?_⟩;obtain⟨w,hw,rfl,hh,_⟩:=fw.1 hb;have:=((hS.cl w hw).2.2.2.2 (hcl w hw hh)).2;rw[za9] at this;exact this (iy.2 ⟨a,ha,q.1,q.2⟩)
 have htk:∀t∈x.Q.L++oG x.a8 ds,0<=t.Prog/\t.Prog<=5/\((t.Kind=1/\t.At∈lv (km x.S ds)/\(ob (km x.S ds) t.At).Started=true)\/(t.Kind=2/\0<=t.At/\t.At<=5)):=λt htt=>by
  rcases zt.1 htt with q | q
  .obtain⟨a,b,c⟩:=hS.tk t q;refine⟨a,b,?_⟩;rcases c with ⟨c1,c2,c3⟩ | c
   .have hnd:t.At∉ds:=λhd=>ho _ hd (zt.2 (.inr (qI.2 ⟨t,q,c1,rfl⟩)));exact .inl ⟨c1,(hlv _).2 ⟨c2,hnd⟩,by rw[g.ob _ c2 hnd];exact c3⟩
   .exact .inr c
  .obtain⟨w,hw,rfl,hh,hc⟩:=fw.1 q;have c6:=hS.c6;have:=(hS.cl w hw).2.1;exact⟨hc,this,.inr ⟨rfl,by dsimp only;omega,by dsimp only;omega⟩⟩
 have hq30:(x.Q.L++oG x.a8 ds).length<=30:=by
  have:=wH (m:=lv x.S) htd λt htt=>by
   rcases (htk t htt).2.2 with q | q
   .exact .inl ⟨q.1,((hlv _).1 q.2.1).1⟩
   .exact .inr q
  omega
 have hwts:∀i:Nat,JF x.Q i=false->(∀hi:i<x.a8.length,fu ds x.a8[i]=false)->JF ⟨x.Q.L++oG x.a8 ds,x.Q.Cap⟩ i=false:=λi q1 q2=>by
  rw[za9] at q1 |-;intro q;obtain⟨t,ht,a,b⟩:=iy.1 q;rcases zt.1 ht with c | c
  .exact q1 (iy.2 ⟨t,c,a,b⟩)
  .obtain⟨w,hw,rfl,hh,_⟩:=fw.1 c;dsimp only at b;have:w=i:=by omega
   subst this;rw[q2 hw] at hh;cases hh
 refine⟨⟨g.sr,ht,hS.r6,?_,hS.cap,hq30,htk,htd,λh hh=>?_,λh hh v hv=>?_,λk v hkv=>?_,λi hi=>?_⟩,λi hi hti=>?_,λh hh hlt=>?_⟩
 .unfold gC ta;rw[wt];exact hS.c6
 .rcases hS.rt h hh with q | q
  .exact .inl q
  .have h0:h≠0:=λe=>ou hR (e▸q);exact .inr ((hlv h).2 ⟨q,λhd=>ho h hd (zt.2 (.inl (kI.2 ⟨hh,h0⟩)))⟩)
 .obtain⟨a,b⟩:=(hlv h).1 hh;have hv':v∈(ob x.S h).Fields:=by
   have e:=g.ob h a b;unfold gC at hv;rwa [e] at hv
  rcases hS.fl h a v hv' with q | q
  .exact .inl q
  .exact .inr ((hlv v).2 ⟨q,hf h a b v hv'⟩)
 .obtain⟨a,b⟩:=(h1 k v).1 hkv;obtain⟨c,d⟩:=hS.pr k v b;exact⟨(hlv k).2 ⟨c,a⟩,(hlv v).2 ⟨d,hp k v b a⟩⟩
 .have hi':i<x.a8.length:=by
   unfold gC ta at hi;simpa using hi
  have e:(gC x ds t).a8[i]=mb ds x.a8[i]:=wl _;obtain⟨a1,a2,a3,a4,a5⟩:=hS.cl i hi';obtain⟨b1,b2,b3⟩:=yY ds x.a8[i];rw[e,b1,b2];refine⟨a1,a2,λq=>?_,λq=>?_,λq=>?_⟩
  .rw[za9];intro q2;rw[a3 q] at b3;exact absurd (b3.1 q2).1 (by decide)
  .obtain⟨p,hp1,hp2,hp3⟩:=a4 q;refine⟨p,by show p<(km x.S ds).S.a8.length;rw[g.len];exact hp1,?_⟩;show Th (ce (km x.S ds) p)/\_=1+(p:Int)+32*(ce (km x.S ds) p).Gen;rw[g.ce];split
   .have hw:=(hx.wk p hp1 hp2).1;have:=qJ hi' q;rw[hp3] at this;unfold JH;rw[za (by omega)];exact⟨.inr rfl,hp3⟩
   .exact⟨hp2,hp3⟩
  .obtain⟨c1,c2⟩:=b3.1 q;obtain⟨d1,d2⟩:=a5 c1;have h0:x.a8[i].Target≠0:=λe=>ou hR (e▸d1);refine⟨(hlv _).2 ⟨d1,λhd=>?_⟩,hwts i d2 λ_=>c2⟩;have:fu ds x.a8[i]=true:=by
    unfold fu;simp[c1,h0,hd]
   rw[this] at c2;cases c2
 .have hi':i<x.S.S.a8.length:=by
   have:=g.len;have hi:i<(km x.S ds).S.a8.length:=hi;omega
  show (ce (km x.S ds) i).Val.Weak=(BW (ta x.a8 ds) (1+(i:Int)+32*(ce (km x.S ds) i).Gen):Int)/\((ce (km x.S ds) i).State=2->_);have hti':Th (ce (km x.S ds) i):=hti;show _/\((ce (km x.S ds) i).State=2->1<=(ce (km x.S ds) i).Val.Weak/\(ce (km x.S ds) i).Val.Fields = []/\(ce (km x.S ds) i).Val.Strong=0);rw[Ph];rw[g.ce] at hti' |-;split
  .rename_i q;rw[zb q] at hti';obtain⟨d,hd,rfl⟩:=zX.1 q;have hp:=y5 hR (hm d hd);have hw:=(hx.wk _ hi' (.inl hp.2.1)).1;unfold JH at hti' |-;split at hti'
   .exfalso;unfold Th at hti';split at hti' <;> simp at hti'
   .rename_i q2;rw[za q2];have:=(hR.ok _ hi' (.inl hp.2.1)).wk;exact⟨hw,λ_=>⟨by dsimp only;omega,rfl,rfl⟩⟩
  .rename_i q;rw[za q] at hti';exact hx.wk i hi' hti'
 .obtain⟨a,b⟩:=(hlv h).1 hh;have e:=g.ob h a b;have e':ob (gC x ds t).S h=ob x.S h:=e;rw[e'] at hlt |-;have hf:=hx.fair h a hlt;rw[O7] at hf;rw[hf];have i1:=g.gU hR hn hm h;have i2:=h2 h;have i3:xq ⟨x.Q.L++oG x.a8 ds,x.Q.Cap⟩=xq x.Q:=vA _ _ _ λt ht=>by
   obtain⟨w,_,rfl,_⟩:=fw.1 ht;simp
  unfold ov ow gC;dsimp only;rw[i3,I6 (ds.flatMap (outs x.S)),I6];omega
theorem wq:∀(l:List Int) {x:Hp},iR x->Wk x->bA x l->L5 (l.foldl O9 x)
 | [],x,h1,h2,h3=>⟨h1,h2,h3⟩
 | v::l,x,h1,h2,h3=>wq l (h1.st v λc=>M0) (h2.st h1.sr v λc=>M0) (rj h1.sr h3)
abbrev cZ(o:k9):k9:=⟨o.Serial,o.Strong,o.Weak,o.Prog,true,o.Fields⟩
abbrev tq(x:Hp)(h:Int):g9:=⟨1,h,(ob x.S h).Prog⟩
noncomputable def fK(x:Hp)(h:Int):Hp:=B2 ⟨bR x.S h (cZ (ob x.S h)),x.Roots,x.a8,x.T,⟨x.Q.L ++ [tq x h],x.Q.Cap⟩⟩ h
theorem sy{x:Hp}(hx:L5 x){h:Int}(hh:h∈lv x.S)(hp:0<=(ob x.S h).Prog)(hs:(ob x.S h).Started=false):L5 (fK x h):=by
 have hS:=hx.sh;have hR:=hS.sr;have oko:=I3 hR hh;have ho:xi x.S (cZ (ob x.S h)):=⟨oko.s1,oko.s2,oko.st,oko.wk,oko.p1,oko.p2,oko.fl⟩;have r1:=aL (o:=cZ (ob x.S h)) hR hh rfl ho;have l1:=eX (o:=cZ (ob x.S h)) hR hh rfl ho;have o1:∀j,j∈lv x.S->ob (bR x.S h (cZ (ob x.S h))) j=if j=h then cZ (ob x.S h) else ob x.S j:=λj hj=>by
  have:=F6 hR hj;exact dz (o:=cZ (ob x.S h)) hR hh rfl ho (by omega)
 have hlen:(lv x.S).length<=24:=E2 (r9.2 hR);have s1:iR (wS x (bR x.S h (cZ (ob x.S h)))):=hS.of r1 l1 (λk i q=>(FR (o:=cZ (ob x.S h)) hR hh rfl ho).2 q) (λk hk q=>by
  rw[o1 k hk];split;·rfl
  .exact q) λk hk v hv=>by
  rw[o1 k hk] at hv;split at hv;·rename_i e;subst e;exact hS.fl k hk v hv
  .exact hS.fl k hk v hv
 have w1:Wk (wS x (bR x.S h (cZ (ob x.S h)))):=λi hi ht=>by
  have K1:=y5 hR hh;have hc:=Bv (o:=cZ (ob x.S h)) hR hh rfl ho i;dsimp only at hi ht |-;rw[hc] at ht |-;have hi':i<x.S.S.a8.length:=by unfold bR at hi;rwa [K8] at hi
  split at ht
  .rename_i e;subst e;rw[zb rfl];dsimp only;have:=hx.wk _ hi' (.inl K1.2.1);rw[N5 hR K1];exact⟨this.1,λq=>absurd q (by rw[K1.2.1];decide)⟩
  .rename_i e;rw[za e];exact hx.wk i hi' ht
 have htd:(x.Q.L ++ [tq x h]).Pairwise λa b=>¬(a.Kind=b.Kind/\a.At=b.At):=by
  rw[za4];refine⟨hS.td,by simp,λa ha b hb q=>?_⟩;rw[zJ] at hb;subst hb;dsimp only at q;rcases (hS.tk a ha).2.2 with c | c
  .rw[q.2,hs] at c;exact absurd c.2.2 (by decide)
  .omega
 have htk:∀t∈x.Q.L ++ [tq x h],0<=t.Prog/\t.Prog<=5/\((t.Kind=1/\t.At∈lv (bR x.S h (cZ (ob x.S h)))/\(ob (bR x.S h (cZ (ob x.S h))) t.At).Started=true)\/(t.Kind=2/\0<=t.At/\t.At<=5)):=λt ht=>by
  rcases zt.1 ht with q | q
  .exact s1.tk t q
  .rw[zJ] at q;subst q;refine⟨hp,oko.p2,.inl ⟨rfl,by rw[l1];exact hh,?_⟩⟩;dsimp only;rw[o1 h hh,zb rfl]
 have hq30:(x.Q.L ++ [tq x h]).length<=30:=by
  have:=wH (m:=lv x.S) htd λt ht=>by
   rcases (htk t ht).2.2 with q | q
   .exact .inl ⟨q.1,by rw[<-l1];exact q.2.1⟩
   .exact .inr q
  omega
 have s2:iR ⟨bR x.S h (cZ (ob x.S h)),x.Roots,x.a8,x.T,⟨x.Q.L ++ [tq x h],x.Q.Cap⟩⟩:=by
  refine⟨s1.sr,s1.hr,s1.r6,s1.c6,s1.cap,hq30,htk,htd,s1.rt,s1.fl,s1.pr,λi hi=>?_⟩;obtain⟨a,b,c,d,e⟩:=s1.cl i hi;refine⟨a,b,c,d,λq=>⟨(e q).1,?_⟩⟩;have:=(e q).2;rw[za9] at this |-;intro q2;obtain⟨t,ht,k1,k2⟩:=iy.1 q2;rcases zt.1 ht with q3 | q3
  .exact this (iy.2 ⟨t,q3,k1,k2⟩)
  .rw[zJ] at q3;subst q3;dsimp only at k1;omega
 have w2:Wk ⟨bR x.S h (cZ (ob x.S h)),x.Roots,x.a8,x.T,⟨x.Q.L ++ [tq x h],x.Q.Cap⟩⟩:=w1;refine⟨s2.st h λc=>C5,w2.st s2.sr h λc=>C5,λk hk hlt=>?_⟩;have hk':k∈lv x.S:=by
  have:lv (fK x h).S=lv x.S:=(E5 s2.sr h λc=>C5).lv.trans l1;rw[<-this];exact hk
 have hst:(ob (fK x h).S k).Strong=if k=h then T0 (ob x.S k).Strong else (ob x.S k).Strong:=by
  have:=sU (x:=⟨bR x.S h (cZ (ob x.S h)),x.Roots,x.a8,x.T,⟨x.Q.L ++ [tq x h],x.Q.Cap⟩⟩) s2.sr h (f:=T0) (λc=>C5) (k:=k) (by rw[<-l1] at hk';exact hk');refine zbk this ?_;dsimp only;rw[o1 k hk'];by_cases e:k=h
  .subst e;rw[zb rfl,zb rfl,zb rfl]
  .rw[za e,za e,za e]
 have hnm:ov (fK x h) k=ov x k+if k=h then 1 else 0:=by
  have:=uJ (x:=⟨bR x.S h (cZ (ob x.S h)),x.Roots,x.a8,x.T,⟨x.Q.L ++ [tq x h],x.Q.Cap⟩⟩) s2.sr h (f:=T0) (λc=>C5) k;refine zbk this ?_;have hi:=Hc (o:=cZ (ob x.S h)) hR hh rfl ho k;dsimp only at hi;have h0:k≠0:=λe=>ou hR (e▸hk');unfold ov ow xq;dsimp only;rw[zaw,my,I6,I6,I6];have:X6 (List.map (·.At) (List.filter (λt:g9=>t.Kind==1) [tq x h])) k=if k=h then 1 else 0:=by
   show X6 [h] k=_;rw[E9,O7];by_cases e:k=h
   .rw[zb ⟨e.symm,h0⟩,zb e]
   .rw[za (λq=>e q.1.symm),za e]
  rw[this];omega
 rw[hst] at hlt |-;rw[hnm,O7];have hpos:=(I3 hR hk').st;by_cases e:k=h
 .rw[zb e] at hlt |-;rw[zb e];have:=hx.fair k hk' (by unfold T0 at hlt;split at hlt <;> omega);rw[O7] at this;unfold T0 at hlt |-;split at hlt;·omega
  .rename_i q;rw[za q,za (by omega)];omega
 .rw[za e] at hlt |-;rw[za e];have:=hx.fair k hk' hlt;rw[O7] at this;exact this
noncomputable def zr(x:Hp):List Int:=(lv x.S).filter λh=>(ob x.S h).Strong==0
theorem bz{x:Hp}{h:Int}:h∈zr x↔h∈lv x.S/\(ob x.S h).Strong=0:=by
 unfold zr;rw[zm,q9]
theorem BS{x:Hp}(hx:L5 x){z:Int}(hz:z∈zr x):ov x z=0:=by
 obtain⟨a,b⟩:=bz.1 hz;have:=hx.fair z a (by omega);rw[O7] at this;omega
theorem DS{l:List Int}{h:Int}(h0:h≠0)(e:X6 l h=0):h∉l:=λq=>by
 have:=cM.2 ⟨h0,q⟩;omega
theorem Lr{α:Type}(f:α->Nat):∀ {l:List α} {a:α},a∈l->f a<=(l.map f).sum
 | b::l,a,h=>by
  rw[ul,zbm];rcases zR.1 h with e | e
  .subst e;omega
  .have:=Lr f e;omega
theorem AG{s:a7}{a y:Int}(ha:a∈lv s):X6 (outs s a) y<=gU s y:=Lr (λx=>X6 (outs s x) y) ha
theorem AU{t:Tb}{k v:Int}(h:Has t k v)(h0:v≠0):0<own t v:=zbj.2 ⟨⟨k,v⟩,fy.2 h,by simp[h0]⟩
def lu(t:Tb)(ks:List Int):Tb × List Int:=(V7 t ks).getD (t,[])
theorem gB{t:Tb}(hT:HR t)(ks:List Int)(hks:ks.length<=1000):V7 t ks=some (lu t ks)/\HR (lu t ks).1/\(lu t ks).2.length<=ks.length/\il (t.map K1) ks=some ((lu t ks).1.map K1,(lu t ks).2) /\
  (∀k v,Has (lu t ks).1 k v↔k∉ks/\Has t k v)/\∀y,own (lu t ks).1 y+X6 (lu t ks).2 y=own t y:=by
 obtain⟨a,had,h1,h2,h3,h4,h5,h6,h7,h8,h9⟩:=Ec hT ks hks;have:lu t ks=(a,had):=by unfold lu;rw[h1];rfl
 rw[this];exact⟨h1,h2,h4,h5,h6,h9⟩
noncomputable def eI(x:Hp)(ds:List Int):Hp:=(ds.flatMap (outs x.S)++(lu x.T ds).2).foldl O9 (gC x ds (lu x.T ds).1)
theorem gp:∀(l:List Int) {x:Hp},SR x.S->tF x.S (l.foldl O9 x).S/\l.foldl O9 x=wS x (l.foldl O9 x).S
 | [],x,h=>⟨tF.refl h,rfl⟩
 | v::l,x,h=>by
  have k1:=E5 h v (f:=iY) λc=>M0;obtain⟨k2,e⟩:=gp l (x:=O9 x v) k1.sr;refine⟨k1.trans k2,?_⟩;show l.foldl O9 (O9 x v)=wS x (l.foldl O9 (O9 x v)).S;rw[e,TT x v]
theorem xN{x:Hp}(hx:L5 x){ds:List Int}(hn:ds.Nodup)(hm:∀d∈ds,d∈lv x.S)
  (ho:∀d∈ds,d∉ow x)(hf:∀h∈lv x.S,h∉ds->∀v∈(ob x.S h).Fields,v∉ds)(hp:∀k v,Has x.T k v->k∉ds->v∉ds):L5 (eI x ds):=by
 have hl:ds.length<=24:=wd (gi hn hm) (E2 (r9.2 hx.sh.sr));obtain⟨_,w1,_,_,w2,w3⟩:=gB hx.sh.hr ds (by omega);obtain⟨a,b,c⟩:=Iv hx hn hm ho hf hp w1 w2 w3;exact wq _ a b c
theorem Ez{x:Hp}(hR:SR x.S){ds:List Int}(hn:ds.Nodup)(hm:∀d∈ds,d∈lv x.S):lv (eI x ds).S=(lv x.S).filter λh=>decide (h∉ds):=by
 have g:=cc ds hR hn hm;exact (gp (ds.flatMap (outs x.S)++(lu x.T ds).2) (x:=gC x ds (lu x.T ds).1) g.sr).1.lv.trans g.lv
theorem EA{x:Hp}(hR:SR x.S){ds:List Int}(hn:ds.Nodup)(hm:∀d∈ds,d∈lv x.S){k:Int}(hk:k∈lv x.S)(hd:k∉ds):∃n,ob (eI x ds).S k=yH (ob x.S k) n:=by
 have g:=cc ds hR hn hm;have hr:=F6 hR hk;obtain⟨n,e⟩:=(gp (ds.flatMap (outs x.S)++(lu x.T ds).2) (x:=gC x ds (lu x.T ds).1) g.sr).1.ob k (by omega);refine⟨n,?_⟩;have e':ob (eI x ds).S k=_:=e;have g':ob (gC x ds (lu x.T ds).1).S k=ob x.S k:=g.ob k hk hd;rw[e',g']
theorem pY{x:Hp}(hR:SR x.S){ds:List Int}(hn:ds.Nodup)(hm:∀d∈ds,d∈lv x.S):(eI x ds).Roots=x.Roots/\(eI x ds).a8=ta x.a8 ds/\(eI x ds).T=(lu x.T ds).1/\(eI x ds).Q=⟨x.Q.L++oG x.a8 ds,x.Q.Cap⟩:=by
 have g:=cc ds hR hn hm;have e:=(gp (ds.flatMap (outs x.S)++(lu x.T ds).2) (x:=gC x ds (lu x.T ds).1) g.sr).2;have e':eI x ds=wS (gC x ds (lu x.T ds).1) (eI x ds).S:=e;rw[e'];exact⟨rfl,rfl,rfl,rfl⟩
theorem xc{x:Hp}(hx:L5 x){z:Int}(hz:z∈zr x):L5 (eI x [z]):=by
 obtain⟨a,b⟩:=bz.1 hz;have h0:z≠0:=λe=>ou hx.sh.sr (e▸a);have hn:=BS hx hz;unfold ov at hn;refine xN hx (by simp) (by simpa using a) (λd hd=>?_) (λh hh hne v hv q=>?_) (λk v hkv _ q=>?_)
 .rw[zJ] at hd;subst hd;exact DS h0 (by omega)
 .rw[zJ] at q;subst q;have:=AG (y:=v) hh;have h1:=cM.2 ⟨h0,show v∈outs x.S h from kI.2 ⟨hv,h0⟩⟩;omega
 .rw[zJ] at q;subst q;have:=AU hkv h0;omega
def due(o:k9):Bool:=decide (0<=o.Prog) && !o.Started
noncomputable def HZ(x:Hp):Hp:=match zr x with
 | []=>x
 | z::_=>if due (ob x.S z) then fK x z else eI x [z]
noncomputable def tS:Nat->Hp->Hp
 | 0,x=>x
 | n+1,x=>tS n (HZ x)
theorem cL(n:Nat)(x:Hp):tS (n+1) x=HZ (tS n x):=by
 induction n generalizing x with
 | zero=>rfl
 | succ n ih=>exact ih (HZ x)
theorem nV{x:Hp}(h:zr x = []):HZ x=x:=by unfold HZ;rw[h]
theorem gx{x:Hp}{z:Int}{l:List Int}(h:zr x=z::l):HZ x=if due (ob x.S z) then fK x z else eI x [z]:=by unfold HZ;rw[h]
theorem Jz{x:Hp}(hx:L5 x):L5 (HZ x):=by
 cases h:zr x with
 | nil=>rw[nV h];exact hx
 | cons z l=>
  have hz:z∈zr x:=by rw[h];exact zk ..
  rw[gx h];split
  .rename_i q;unfold due at q;rw[zp,zx,zb4] at q;exact sy hx (bz.1 hz).1 q.1 q.2
  .exact xc hx hz
theorem az{x:Hp}(hx:L5 x)(n:Nat):L5 (tS n x):=by
 induction n with
 | zero=>exact hx
 | succ n ih=>rw[cL];exact Jz ih
section
variable{x:Hp}(hR:SR x.S){h:Int}(hh:h∈lv x.S)
include hR hh
theorem kN:tF (bR x.S h (cZ (ob x.S h))) (fK x h).S/\(fK x h).Roots=x.Roots/\(fK x h).a8=x.a8/\(fK x h).T=x.T/\(fK x h).Q=⟨x.Q.L ++ [tq x h],x.Q.Cap⟩:=by
 have oko:=I3 hR hh;have r1:=aL (o:=cZ (ob x.S h)) hR hh rfl ⟨oko.s1,oko.s2,oko.st,oko.wk,oko.p1,oko.p2,oko.fl⟩;refine⟨E5 (x:=⟨bR x.S h (cZ (ob x.S h)),x.Roots,x.a8,x.T,⟨x.Q.L ++ [tq x h],x.Q.Cap⟩⟩) r1 h λc=>C5,?_⟩;have e:fK x h=wS ⟨bR x.S h (cZ (ob x.S h)),x.Roots,x.a8,x.T,⟨x.Q.L ++ [tq x h],x.Q.Cap⟩⟩ (fK x h).S:=sM _ h;rw[e];exact⟨rfl,rfl,rfl,rfl⟩
theorem AY:lv (fK x h).S=lv x.S:=by
 have oko:=I3 hR hh;exact (kN hR hh).1.lv.trans (eX (o:=cZ (ob x.S h)) hR hh rfl ⟨oko.s1,oko.s2,oko.st,oko.wk,oko.p1,oko.p2,oko.fl⟩)
theorem vU{k:Int}(hk:k∈lv x.S):∃n,ob (fK x h).S k=yH (if k=h then cZ (ob x.S h) else ob x.S k) n:=by
 have oko:=I3 hR hh;have hr:=F6 hR hk;obtain⟨n,e⟩:=(kN hR hh).1.ob k (by omega);refine⟨n,?_⟩;rw[e,dz (o:=cZ (ob x.S h)) hR hh rfl ⟨oko.s1,oko.s2,oko.st,oko.wk,oko.p1,oko.p2,oko.fl⟩ (by omega)]
end
noncomputable def mu(x:Hp):Nat:=(lv x.S).length+((lv x.S).filter λh => !(ob x.S h).Started).length
theorem Vt{x:Hp}(hR:SR x.S):mu x<=48:=by
 have h1:(lv x.S).length<=24:=E2 (r9.2 hR);have h2:((lv x.S).filter λh => !(ob x.S h).Started).length<=(lv x.S).length:=zO ..;unfold mu;omega
theorem Ui{x:Hp}(hx:L5 x)(h:zr x ≠ []):mu (HZ x)<mu x:=by
 cases hz:zr x with
 | nil=>exact absurd hz h
 | cons z l=>
  have hzm:z∈zr x:=by rw[hz];exact zk ..
  have hzl:=(bz.1 hzm).1;have hR:=hx.sh.sr;rw[gx hz];split
  .rename_i q;unfold due at q;rw[zp,zx,zb4] at q;unfold mu;rw[AY hR hzl];have:=filter_lt (p:=λh => !(ob (fK x z).S h).Started) (q:=λh => !(ob x.S h).Started) (l:=lv x.S) (λk hk hp=>by
    obtain⟨n,e⟩:=vU hR hzl hk;rw[e] at hp;split at hp;·exact absurd hp (by simp)
    .exact hp) z hzl (by rw[q.2];rfl) (by
    obtain⟨n,e⟩:=vU hR hzl hzl;rw[e,zb rfl];rfl)
   omega
  .unfold mu;have hn:([z]:List Int).Nodup:=by simp
   have hm:∀d ∈ [z],d∈lv x.S:=by simpa using hzl
   rw[Ez hR hn hm,List.filter_filter];have h1:((lv x.S).filter λh=>decide (h ∉ [z])).length<((lv x.S).filter λ_=>true).length:=filter_lt (λ_ _ _=>rfl) z hzl rfl (by simp);rw[zan.2 (λ_ _=>rfl)] at h1;have h2:((lv x.S).filter λa=>(!(ob (eI x [z]).S a).Started)&&decide (a ∉ [z])).length<=((lv x.S).filter λh => !(ob x.S h).Started).length:=by
    rw[<-zbi,<-zbi];refine List.countP_mono_left λa ha hp=>?_;rw[zp,zx] at hp;obtain⟨n,e⟩:=EA hR hn hm ha hp.2;rw[e] at hp;exact hp.1
   omega
noncomputable def bS(x:Hp):Hp:=tS 100 x
theorem sQ{x:Hp}(hx:L5 x):∃n,n<=48/\zr (tS n x) = []/\(∀j,j<n->zr (tS j x) ≠ [])/\bS x=tS n x:=by
 have key:∀m,(∃n,n<=m/\zr (tS n x) = [])\/mu (tS m x)+m<=mu x:=by
  intro m;induction m with
  | zero=>exact .inr (zF _)
  | succ m ih=>
   rcases ih with ⟨n,h1,h2⟩ | ih;·exact .inl ⟨n,by omega,h2⟩
   .by_cases q:zr (tS m x) = []
    .exact .inl ⟨m,by omega,q⟩
    .have:=Ui (az hx m) q;rw[<-cL] at this;exact .inr (by omega)
 have h48:=Vt hx.sh.sr;have hex:∃n,n<=48/\zr (tS n x) = []:=by
  rcases key 49 with ⟨n,h1,h2⟩ | h
  .rcases zy n 49 with q | q
   .exact⟨n,by omega,h2⟩
   .rcases key 48 with h | h
    .exact h
    .have:mu (tS 48 x)=0:=by omega
     refine⟨48,zF _,?_⟩;have hl:(lv (tS 48 x).S).length=0:=by unfold mu at this;omega
     unfold zr;rw[zP hl];rfl
  .omega
 obtain⟨n,⟨hn,hz⟩,hmin⟩:=bk hex;refine⟨n,hn,hz,λj hj q=>?_,?_⟩
 .have:=hmin j ⟨by omega,q⟩;omega
 .have:∀k,tS (n+k) x=tS n x:=λk=>by
   induction k with
   | zero=>rfl
   | succ k ih=>rw[show n+(k+1)=(n+k)+1 by omega,cL,ih,nV hz]
  have h100:=this (100-n);rw[show n+(100-n)=100 by omega] at h100;exact h100
theorem dA{x:Hp}(hx:L5 x):L5 (bS x):=az hx 100
theorem yF{x:Hp}(hx:L5 x):zr (bS x) = []:=by
 obtain⟨n,_,h,_,e⟩:=sQ hx;rw[e];exact h
theorem DJ{x:Hp}(h:zr x = []):bS x=x:=by
 have:∀n,tS n x=x:=λn=>by
  induction n with
  | zero=>rfl
  | succ n ih=>rw[cL,ih,nV h]
 exact this 100
section
variable{x:Hp}(hR:SR x.S)
include hR
theorem cr{h:Int}(hh:h∈lv x.S):h<=9223372036854775807:=by have:=F6 hR hh;omega
theorem sa{h:Int}(hh:h∈lv x.S):u9 x.S h=some (ob x.S h,0):=by
 obtain⟨e,h1,h2⟩:=Q2 (r9.2 hR) (cr hR hh);rw[h1,h2.2 hh]
theorem qo{h:Int}(hh:h∈lv x.S):E1 (sO x.S) h=some (oo (ob x.S h),0):=by
 have:=hR.len;rw[ja x.S (by omega) (cr hR hh),sa hR hh];rfl
theorem zero_eq:bO x=some (zr x):=by
 have h24:(lv x.S).length<=24:=E2 (r9.2 hR);unfold bO;simp only[jn];rw[cq (r9.2 hR),XB];rw[E7 (lv x.S) (λb h=>if (ob x.S h).Strong==0 then b ++ [h] else b) id (λk b=>b.length<=k) (by omega) (zF _) (λk hk b hb=>?_) (λb hb=>by simp)]
 .rw[foldl_filter];rfl
 .simp only[zB,hk,zD,zH,o0 hk,XB,sa hR (zh hk)];by_cases c:((ob x.S (lv x.S)[k]).Strong==0)=true
  .rw[zb c,zb c,y4 (by omega) (by simp;omega),XB,k8];exact⟨rfl,by simp;omega⟩
  .rw[za c,za c,k8];exact⟨rfl,by omega⟩
theorem Np:mN (hO x)=some (zr x):=by
 have h24:(lv x.S).length<=24:=E2 (r9.2 hR);unfold mN;simp only[jn];rw[show (hO x).S=sO x.S from rfl,mA (r9.2 hR),XB];rw[E7 (lv x.S) (λb h=>if (ob x.S h).Strong==0 then b ++ [h] else b) id (λk b=>b.length<=k) (by omega) (zF _) (λk hk b hb=>?_) (λb hb=>by simp)]
 .rw[foldl_filter];rfl
 .simp only[zB,hk,zD,zH,o0 hk,XB,qo hR (zh hk)];by_cases c:((ob x.S (lv x.S)[k]).Strong==0)=true
  .rw[show ((oo (ob x.S (lv x.S)[k])).Strong==0)=true from c,zb rfl,zb c,y4 (by omega) (by simp;omega),XB,k8];exact⟨rfl,by simp;omega⟩
  .rw[za (show ¬((oo (ob x.S (lv x.S)[k])).Strong==0)=true from c),za c,k8];exact⟨rfl,by omega⟩
end
noncomputable def Ri(x:Hp)(h:Int):Hp:=if h∈lv x.S/\due (ob x.S h)=true then fK x h else x
theorem BA{s:a7}(hR:SR s){h:Int}(hl:h∈lv s):xi s (cZ (ob s h)):=by
 have oko:=I3 hR hl;exact⟨oko.s1,oko.s2,oko.st,oko.wk,oko.p1,oko.p2,oko.fl⟩
theorem Hw(o:k9):K3 o=some (due o):=by
 unfold K3 due;congr 1
section
variable{x:Hp}(hx:L5 x)(hS:SL x){h:Int}(hh:h<=9223372036854775807)
include hx hS hh
theorem vV(hl:h∈lv x.S)(hd:due (ob x.S h)=true):x.Q.L.length<30:=by
 have hb:0<=(ob x.S h).Prog/\(ob x.S h).Started=false:=by
  unfold due at hd;rw[zp,zx,zb4] at hd;exact hd
 have:=(sy hx hl hb.1 hb.2).sh.q30;rw[(kN hx.sh.sr hl).2.2.2.2] at this;simp at this;omega
theorem yt:Q6 x h=some (Ri x h):=by
 have hR:=hx.sh.sr;have cap:=hx.sh.cap;obtain⟨e,h1,h2⟩:=Q2 (r9.2 hR) hh;unfold Q6 Ri;rw[h1,XB];by_cases hl:h∈lv x.S
 .have e0:e=0:=h2.2 hl;subst e0;have e1:(((0:Int) != 0)==false)=true:=rfl;simp only[e1,aF,Hw,XB];cases hd:due (ob x.S h);·rw[zb (by simp),za (by simp)]
  .rw[za (by simp),zb ⟨hl,rfl⟩];have hr:=vV hx hS hh hl hd;have hok:=BA hR hl;have l1:=eX (o:=cZ (ob x.S h)) hR hl rfl hok;have r1:=aL (o:=cZ (ob x.S h)) hR hl rfl hok;rw[rn (o:=cZ (ob x.S h)) hR hl rfl hok,XB,Rp _ (by omega),XB];have et:MY x.Q ⟨1,h,(ob x.S h).Prog⟩=(⟨x.Q.L ++ [tq x h],x.Q.Cap⟩,0):=by
    unfold MY;rw[za (by omega)]
   rw[et];dsimp only;rw[ju r1 hh (λk hk=>?_),XB];·rfl
   .dsimp only at hk |-;rw[l1] at hk;rw[dz (o:=cZ (ob x.S h)) hR hl rfl hok (cr hR hk)];split;·exact hS h hl
    .exact hS k hk
 .have e0:e≠0:=λq=>hl (h2.1 q);have e1:(e != 0)=true:=by simpa using e0
  rw[e1];simp only[show ((true==false)=true)=False by simp,p7,zV,XB,Bool.true_or,zH];rw[za (λq=>hl q.1)]
theorem KI:nI (hO x) h=some (decide (h∈lv x.S)&&due (ob x.S h)):=by
 have hR:=hx.sh.sr;have hlen:=hR.len;obtain⟨e,h1,h2⟩:=Q2 (r9.2 hR) hh;unfold nI;rw[show (hO x).S=sO x.S from rfl,ja x.S (by omega) hh,h1,zM,XB,uu hR hh,XB];unfold due oo;rw[Bool.and_assoc]
theorem Dm:gl (hO x) h=some (hO (Ri x h)):=by
 have hR:=hx.sh.sr;have cap:=hx.sh.cap;unfold gl Ri;rw[KI hx hS hh,XB];by_cases hl:h∈lv x.S
 .rw[zu hl,ut];cases hd:due (ob x.S h);·rw[zb (by simp),za (by simp)]
  .rw[za (by simp),zb ⟨hl,rfl⟩];have hr:=vV hx hS hh hl hd;have hok:=BA hR hl;have l1:=eX (o:=cZ (ob x.S h)) hR hl rfl hok;have r1:=aL (o:=cZ (ob x.S h)) hR hl rfl hok;rw[show (hO x).S=sO x.S from rfl,qo hR hl,XB];have es:M4 (sO x.S) h (oo (cZ (ob x.S h)))=some (sO (bR x.S h (cZ (ob x.S h))),0):=rp hR hl rfl hok;have es':M4 (sO x.S) h ⟨(oo (ob x.S h)).Serial,(oo (ob x.S h)).Strong,(oo (ob x.S h)).Weak,(oo (ob x.S h)).Prog,true,(oo (ob x.S h)).Fields⟩=some (sO (bR x.S h (cZ (ob x.S h))),0):=es;rw[es',XB];have ea:kQ (hO x).Q ⟨1,h,(oo (ob x.S h)).Prog⟩=some (jD ⟨x.Q.L ++ [tq x h],x.Q.Cap⟩,0):=by
    have:=Rk (q:=x.Q) (tq x h) (by omega);have et:MY x.Q (tq x h)=(⟨x.Q.L ++ [tq x h],x.Q.Cap⟩,0):=by
     unfold MY;rw[za (by omega)]
    rw[et] at this;exact this
   rw[ea,XB];have er:=mU (x:=⟨bR x.S h (cZ (ob x.S h)),x.Roots,x.a8,x.T,⟨x.Q.L ++ [tq x h],x.Q.Cap⟩⟩) r1 hh (λk hk=>by
    dsimp only at hk |-;rw[l1] at hk;rw[dz (o:=cZ (ob x.S h)) hR hl rfl hok (cr hR hk)];split;·exact hS h hl
    .exact hS k hk)
   have er':bt ⟨sO (bR x.S h (cZ (ob x.S h))),(hO x).Roots,(hO x).a8,(hO x).T,jD ⟨x.Q.L ++ [tq x h],x.Q.Cap⟩⟩ h=_:=er;dsimp only;rw[er',XB];rfl
 .rw[zI hl,zbe];rw[zb (by simp),za (λq=>hl q.1)]
end
noncomputable def Vl(x:Hp)(l:List Int):List Int:=l.foldl (λb h=>if h∈lv x.S/\h∉b then b ++ [h] else b) []
theorem CV{x:Hp}{z:Int}(hz:z∈lv x.S):Vl x [z] = [z]:=by
 unfold Vl;simp[hz]
section
variable{x:Hp}(hR:SR x.S)
include hR
theorem qD(l:List Int)(hl:l.length<=1000)(hb:∀h∈l,h<=9223372036854775807):T8 x l=some (Vl x l):=by
 unfold T8;simp only[jn];have key:=E7 (f:=λ((s20,s21,s22):Int × (List (Int × Bool)) × (List Int))=>
   if (decide (s20<(l.length:Int))) then
     (ix l s20).bind λv32=>
     (u9 x.S v32).bind λv33=>
     if ((v33.2==0)==true) then
      if (!((A6 s21 v32).getD (false:Bool))) then
       (app 8 s22 [v32]).bind λv34=>
       some (Sum.inl (u4 (s20+1),(o8 s21 v32 true),v34))
      else
      some (.inl (u4 (s20+1),s21,s22))
     else
     some (.inl (u4 (s20+1),s21,s22))
   else
   some (.inr s22)) l (λ(b:List (Int × Bool) × List Int) h=>if h∈lv x.S/\h∉b.2 then (o8 b.1 h true,b.2 ++ [h]) else b) (λb=>b.2) (λk b=>b.2.length<=k/\∀d,(A6 b.1 d).getD false=decide (d∈b.2)) (b0:=([],[])) (by omega) ⟨zF _,λd=>by simp[A6]⟩ (λk hk b hb2=>?_) (λb hb2=>by simp)
 .rw[key,XB];congr 1;have:∀(l:List Int) (m:List (Int × Bool)) (b:List Int),(l.foldl (λ(b:List (Int × Bool) × List Int) h=>if h∈lv x.S/\h∉b.2 then (o8 b.1 h true,b.2 ++ [h]) else b) (m,b)).2=l.foldl (λb h=>if h∈lv x.S/\h∉b then b ++ [h] else b) b:=λl=>by
   induction l with
   | nil=>intro m b;rfl
   | cons h l ih=>
    intro m b;rw[zaj,zaj];by_cases c:h∈lv x.S/\h∉b
    .rw[zb c,zb c,ih]
    .rw[za c,za c,ih]
  exact this l [] []
 .obtain⟨hb1,hb3⟩:=hb2;obtain⟨e,h1,h2⟩:=Q2 (r9.2 hR) (hb _ (zh hk));simp only[zB,hk,zD,zH,o0 hk,XB,h1,hb3];by_cases hl:l[k]∈lv x.S
  .have e0:e=0:=h2.2 hl;subst e0;by_cases hm:l[k]∈b.2
   .rw[zb (by rfl),za (by simp[hm]),za (λq=>q.2 hm),k8];exact⟨rfl,by omega,hb3⟩
   .rw[zb (by rfl),zb (by simp[hm]),zb ⟨hl,hm⟩,y4 (by omega) (by simp;omega),XB,k8];refine⟨rfl,by simp;omega,λd=>?_⟩;rw[nB];by_cases q:d=l[k]
    .rw[zb q];simp[q]
    .rw[za q,hb3];simp[q]
  .have e0:e≠0:=λq=>hl (h2.1 q);rw[za (by simp[e0]),za (λq=>hl q.1),k8];exact⟨rfl,by omega,hb3⟩
theorem KJ(l:List Int)(hl:l.length<=1000)(hb:∀h∈l,h<=9223372036854775807):ra (hO x) l=some (Vl x l):=by
 unfold ra;simp only[jn];rw[E7 l (λb h=>if h∈lv x.S/\h∉b then b ++ [h] else b) id (λk b=>b.length<=k) (by omega) (zF _) (λk hk b hb2=>?_) (λb hb=>by simp)];·rfl
 .simp only[zB,hk,zD,zH,o0 hk,XB,uu hR (hb _ (zh hk))];by_cases hl:l[k]∈lv x.S
  .have h0:l[k]≠0:=λe=>ou hR (e▸hl);rw[zu hl];simp only[zW,aF,qq b _ (by omega:b.length<=1000000),XB,ut];by_cases hm:l[k]∈b
   .rw[za (by simp[hm,h0]),za (λq=>q.2 hm),k8];exact⟨rfl,by omega⟩
   .rw[zb (by simp[hm]),zb ⟨hl,hm⟩,y4 (by omega) (by simp;omega),XB,k8];exact⟨rfl,by simp;omega⟩
  .rw[zI hl];simp only[show ((false==true)=true)=False by simp,p7,zV,XB,zbe];rw[za (by simp),za (λq=>hl q.1),k8];exact⟨rfl,by omega⟩
end
theorem vt{α β:Type}(p:α->Bool)(f:α->β):∀(xs:List α) (acc:List β),xs.foldl (λb x=>if p x then b ++ [f x] else b) acc=acc++(xs.filter p).map f
 | [],acc=>by simp
 | x::xs,acc=>by
  rw[zaj,vt p f xs];by_cases h:p x=true
  .simp[h]
  .simp[h]
theorem bb{α:Type}{l:List α}{i:Nat}(h:i<l.length)(d:α):l.getD i d=l[i]:=by
 rw[zd,zc h];rfl
theorem Iw(c:c7)(ds:List Int)(hl:ds.length<=1000):aB c ds=some (fu ds c):=by
 unfold aB fu;rw[contains_eq _ _ (by omega)];cases (c.Intact&&c.Target != 0);·rfl
 .simp[p7]
def lP(l:List c7)(ds:List Int):List Nat:=(List.range l.length).filter λw=>fu ds (l.getD w cz)
theorem Ts{l:List c7}{ds:List Int}{w:Nat}(h:w∈lP l ds):w<l.length:=by
 unfold lP at h;rw[zm,zb6] at h;exact h.1
theorem PE(l:List c7)(ds:List Int):(lP l ds).length<=l.length:=by
 unfold lP;exact wd (zO ..) (by simp)
theorem Tt(l:List c7)(ds:List Int):(lP l ds).Nodup:=zbt _ List.nodup_range
theorem Oz(l:List c7)(ds:List Int):cls l ds=(lP l ds).filter λw=>decide (0<=(l.getD w cz).Call):=by
 unfold cls lP;rw[List.filter_filter];refine zar λw _=>?_;rw[Bool.and_comm]
def kz(l:List Nat):List Int:=l.map λ(n:Nat)=>(n:Int)
theorem AH{l:List Nat}{k:Nat}(h:k<l.length):ix (kz l) (k:Int)=some ((l[k]:Nat):Int):=by
 unfold kz;rw[bc,o0 h];rfl
theorem jf(l:List Nat):(kz l).length=l.length:=wt ..
theorem Jb(l:List c7)(ds:List Int)(hl:l.length<=1000)(hd:ds.length<=1000):H9 l ds=some (kz (lP l ds)):=by
 unfold H9;simp only[jn];have hr:(List.range l.length).length=l.length:=by simp
 have key:=E7 (List.range l.length) (λ(b:List Int) (w:Nat)=>if fu ds (l.getD w cz) then b ++ [(w:Int)] else b) id (λk b=>b.length<=k) (b0:=[]) (f:=λ((s17,s18):Int × (List Int))=>
   if (decide (s17<(l.length:Int))) then
     (ix l s17).bind λv26=>
     (aB v26 ds).bind λv27=>
     if v27 then
      (app 8 s18 [s17]).bind λv28=>
      some (Sum.inl (u4 (s17+1),v28))
     else
     some (.inl (u4 (s17+1),s18))
   else
   some (.inr s18)) (by omega) (zF _) (λk hk b hb=>?_) (λb hb=>by simp)
 .rw[key,vt];rfl
 .rw[hr] at hk;simp only[zB,hk,zD,zH,o0 hk,XB,Iw _ _ hd,List.getElem_range,bb hk];by_cases c:fu ds l[k]=true
  .rw[zb c,zb c,y4 (by omega) (by simp;omega),XB,k8];exact⟨rfl,by simp;omega⟩
  .rw[za c,za c,k8];exact⟨rfl,by omega⟩
theorem Iz(l:List c7)(hl:l.length<=1000):aa l=some l:=by
 unfold aa;rw[lF (by omega) (by omega),XB];unfold xe;rw[zb (by simp),XB];simp
def qc(l:List c7)(K:List Nat):List c7:=(List.range l.length).map λi=>if i∈K then ⟨(l.getD i cz).Target,false,(l.getD i cz).Call⟩ else l.getD i cz
theorem iW(l:List c7)(K:List Nat):(qc l K).length=l.length:=by simp[qc]
theorem qd{l:List c7}{K:List Nat}{i:Nat}(h:i<(qc l K).length):(qc l K)[i]=if i∈K then ⟨(l.getD i cz).Target,false,(l.getD i cz).Call⟩ else l.getD i cz:=by simp[qc]
theorem Kv(l:List c7):qc l []=l:=by
 refine za5 (iW ..) λi h1 h2=>?_;rw[qd,za (by simp),bb h2]
theorem Iy{l:List c7}{K:List Nat}{w:Nat}(hw:w<l.length):qc l (K ++ [w])=(qc l K).set w ⟨(l.getD w cz).Target,false,(l.getD w cz).Call⟩:=by
 refine za5 (by rw[zbh,iW,iW]) λi h1 h2=>?_;rw[qd,zbx];by_cases e:w=i
 .subst e;rw[zb rfl,zb (by simp)]
 .rw[za e,qd];by_cases q:i∈K
  .rw[zb (qr _ q),zb q]
  .rw[za,za q];rw[zt,zJ];exact λq2=>q2.elim q λq3=>e q3.symm
theorem Ku(l:List c7)(ds:List Int):qc l (lP l ds)=ta l ds:=by
 refine za5 (by rw[iW];simp[ta]) λi h1 h2=>?_;have hi:i<l.length:=by rw[iW] at h1;exact h1
 have ec:(ta l ds)[i]=mb ds l[i]:=wl _;rw[qd,ec,bb hi];unfold mb;by_cases c:fu ds l[i]=true
 .rw[zb c,zb];unfold lP;rw[zm,zb6,bb hi];exact⟨hi,c⟩
 .rw[za c,za];unfold lP;rw[zm,zb6,bb hi];exact λq=>c q.2
theorem L0{α:Type}{l:List α}{k:Nat}(h:k<l.length):l.take (k+1)=l.take k ++ [l[k]]:=zw h
theorem Kt(l:List c7)(ds:List Int)(hl:l.length<=1000)(hd:ds.length<=1000):gA l ds=some (ta l ds,kz (cls l ds)):=by
 unfold gA;rw[Jb l ds hl hd,XB,Iz l hl,XB];simp only[jn,jf];have hp:=PE l ds;refine M2 (lP l ds).length (λk (b:List c7 × List Int)=>b.1=qc l ((lP l ds).take k)/\b.2=kz (((lP l ds).take k).filter λw=>decide (0<=(l.getD w cz).Call))) (by omega) ⟨by simp[Kv],by simp[kz]⟩ ?_ ?_
 .rintro k ⟨b1,b2⟩ hk ⟨rfl,rfl⟩;left;have hw:=Ts (zh hk);have hnm:(lP l ds)[k]∉(lP l ds).take k:=λq=>by
   have hn:=Tt l ds;rw[<-List.take_append_drop k (lP l ds),zbv] at hn;exact hn.2.2 _ q (lP l ds)[k] (by rw[List.drop_eq_getElem_cons hk];exact zk ..) rfl
  have h1:(lP l ds)[k]<(qc l ((lP l ds).take k)).length:=by rw[iW];exact hw
  have e1:ix (qc l ((lP l ds).take k)) (((lP l ds)[k]:Nat):Int)=some (l.getD (lP l ds)[k] cz):=by rw[o0 h1,qd,za hnm]
  have h2:(lP l ds)[k]<((qc l ((lP l ds).take k)).set (lP l ds)[k] ⟨(l.getD (lP l ds)[k] cz).Target,false,(l.getD (lP l ds)[k] cz).Call⟩).length:=by rw[zbh];exact h1
  have e2:ix ((qc l ((lP l ds).take k)).set (lP l ds)[k] ⟨(l.getD (lP l ds)[k] cz).Target,false,(l.getD (lP l ds)[k] cz).Call⟩) (((lP l ds)[k]:Nat):Int)=some ⟨(l.getD (lP l ds)[k] cz).Target,false,(l.getD (lP l ds)[k] cz).Call⟩:=by rw[o0 h2,List.getElem_set_self]
  dsimp only;simp only[zB,hk,zD,zH,AH hk,XB,e1,zQ,e2];have hle:(kz (((lP l ds).take k).filter λw=>decide (0<=(l.getD w cz).Call))).length<=1000:=by
   rw[jf];exact wd (zO ..) (by simp;omega)
  rw[L0 hk,Iy hw,zaw];by_cases c:0<=(l.getD (lP l ds)[k] cz).Call
  .rw[zb (zu c),y4 (by omega) (by simp only[zA,wp];omega),XB,k8];refine⟨_,rfl,rfl,?_⟩;rw[rx,zb (zu c)];simp[kz]
  .rw[za (λq=>c (za8 q)),k8];refine⟨_,rfl,rfl,?_⟩;rw[rx,za (λq=>c (za8 q))];simp[kz]
 .rintro⟨b1,b2⟩ ⟨rfl,rfl⟩;refine⟨_,za (by simp),?_⟩;dsimp only;rw[zL,Ku,<-Oz]
theorem Vg(c:c7)(ds:List Int)(hd:ds.length<=1000):((p7 ((og c).Intact==true) 0 (dt ds (og c).Target)).bind λv=>some ((og c).Intact&&decide (v > 0)))=some (fu ds c):=by
 unfold fu og;dsimp only;cases hI:c.Intact;·rfl
 .simp only[zW,aF];rw[pH _ _ (by omega),XB];congr 1;rw[ut,ut,za2];simp only[zx,zp,bne_iff_ne];have:=cM (l:=ds) (h:=c.Target);constructor
  .intro q;exact this.1 (by omega)
  .intro q;have:=this.2 q;omega
theorem Oy(l:List c7)(ds:List Int)(hl:l.length<=1000)(hd:ds.length<=1000):sC (l.map og) ds=some ((ta l ds).map og,kz (cls l ds)):=by
 unfold sC;simp only[jn,wt];refine M2 l.length (λk (b:List o7 × List Int)=>b.1=((ta l ds).take k).map og/\b.2=kz ((List.range k).filter λw=>fu ds (l.getD w cz)&&decide (0<=(l.getD w cz).Call))) (by omega) ⟨by simp,by simp[kz]⟩ ?_ ?_
 .rintro k ⟨b1,b2⟩ hk ⟨rfl,rfl⟩;left;have hk2:k<(ta l ds).length:=by simp[ta];exact hk
  have e1:ix (l.map og) (k:Int)=some (og l[k]):=by rw[bc,o0 hk];rfl
  have hle:(kz ((List.range k).filter λw=>fu ds (l.getD w cz)&&decide (0<=(l.getD w cz).Call))).length<=1000:=by
   rw[jf];exact wd (zO ..) (by simp;omega)
  dsimp only;simp only[zB,hk,zD,zH,e1,XB];obtain⟨v,hv,hv2⟩:=oE (Vg l[k] ds hd);rw[hv,XB];have hv2:=zac hv2;rw[hv2,L0 hk2,my,List.range_succ,zaw];have ec:(ta l ds)[k]=mb ds l[k]:=wl _;have lc:(List.map og (List.take k (ta l ds))).length<=1000:=by simp[ta];omega
  rw[ec];unfold mb;by_cases c:fu ds l[k]=true
  .rw[zb c,zb c];by_cases c2:0<=l[k].Call
   .rw[zb (by simpa[og] using c2),y4 (by omega) (by simp only[zA,wp];omega),XB,y4 (by omega) (by simp only[zA,wp];omega),XB,k8];refine⟨_,rfl,rfl,?_⟩;simp only[rx,zca,bb hk,c,c2,zD,zb8,zH];simp[kz]
   .rw[za (by simpa[og] using c2),y4 (by omega) (by simp only[zA,wp];omega),XB,k8];refine⟨_,rfl,rfl,?_⟩;simp only[rx,zca,bb hk,c,c2,or,Bool.and_false,zi,zV,mt]
  .rw[za c,za c,y4 (by omega) (by simp only[zA,wp];omega),XB,k8];refine⟨_,rfl,rfl,?_⟩;have c:fu ds l[k]=false:=by simpa using c
   simp only[rx,zca,bb hk,c,zbe,zi,zV,mt]
 .rintro⟨b1,b2⟩ ⟨rfl,rfl⟩;refine⟨_,za (by simp),?_⟩;dsimp only;rw[List.take_of_length_le (by simp[ta])];rfl
def xd(x:Hp)(ds:List Int):Hp:=⟨x.S,x.Roots,ta x.a8 ds,x.T,⟨x.Q.L++oG x.a8 ds,x.Q.Cap⟩⟩
theorem dD(l:List c7)(ds:List Int):(oG l ds).length=(cls l ds).length:=wt ..
theorem Kw{l:List c7}{ds:List Int}{w:Nat}(h:w∈cls l ds):w<l.length:=by
 unfold cls at h;rw[zm,zb6] at h;exact h.1
theorem Kx{l:List c7}{ds:List Int}{k:Nat}(h:k<(oG l ds).length):(oG l ds)[k]=⟨2,(((cls l ds)[k]'(by rw[<-dD];exact h):Nat):Int),(l.getD ((cls l ds)[k]'(by rw[<-dD];exact h)) cz).Call⟩:=wl _
theorem Cx{l:List c7}{ds:List Int}{w:Nat}(h:w<l.length):ix (ta l ds) (w:Int)=some (mb ds l[w]):=by
 unfold ta;rw[bc,o0 h];rfl
section
variable{x:Hp}{ds:List Int}(hc:x.a8.length<=6)(hd:ds.length<=1000)(hq:(x.Q.L++oG x.a8 ds).length<=30)(hcap:x.Q.Cap=30)
include hc hd hq hcap
theorem xK{k:Nat}(hk:k<(oG x.a8 ds).length):MY ⟨x.Q.L++(oG x.a8 ds).take k,x.Q.Cap⟩ (oG x.a8 ds)[k]=(⟨x.Q.L++(oG x.a8 ds).take (k+1),x.Q.Cap⟩,0):=by
 rw[zY] at hq;unfold MY;rw[za (by dsimp only;rw[zY,zbb,hcap];omega),L0 hk,zad]
theorem ED:cJ x ds=some (xd x ds):=by
 unfold cJ;rw[Kt _ _ (by omega) hd,XB];dsimp only;simp only[jn,jf];have hq2:=hq;rw[zY] at hq2;refine M2 (cls x.a8 ds).length (λk (q:TQ)=>q=⟨x.Q.L++(oG x.a8 ds).take k,x.Q.Cap⟩) (by rw[<-dD];omega) (by simp) ?_ ?_
 .rintro k q hk rfl;left;have hw:=Kw (zh hk);have hk2:k<(oG x.a8 ds).length:=by rw[dD];exact hk
  simp only[zB,hk,zD,zH,AH hk,XB,Cx hw];have et:(⟨2,(((cls x.a8 ds)[k]:Nat):Int),(mb ds x.a8[(cls x.a8 ds)[k]]).Call⟩:g9)=(oG x.a8 ds)[k]:=by
   rw[Kx,(yY ds _).2.1,bb hw]
  rw[et,Rp _ (by dsimp only;rw[zY,zbb];omega),xK hc hd hq hcap hk2,XB,k8 (by rw[<-dD] at hk;omega)];exact⟨_,rfl,rfl⟩
 .rintro q rfl;refine⟨_,za (by simp),?_⟩;rw[<-dD,zL];rfl
theorem RT{K:u7->Option g6}:((lp (S:=Int × u7) (E:=u7) (λ((s68,s69):Int × u7)=>
   if (decide (s68<((kz (cls x.a8 ds)).length:Int))) then
    (ix (kz (cls x.a8 ds)) s68).bind λv72=>
    (ix ((ta x.a8 ds).map og) v72).bind λv73=>
    (kQ s69 (⟨2,v72,v73.Call⟩:u5)).bind λv74=>
    some (.inl (u4 (s68+1),v74.1))
   else
   some (.inr s69)) (0,jD x.Q)).bind K)=K (jD (xd x ds).Q):=by
 have hq2:=hq;rw[zY] at hq2;have key:=dj (f:=λ((s68,s69):Int × u7)=>
   if (decide (s68<((kz (cls x.a8 ds)).length:Int))) then
    (ix (kz (cls x.a8 ds)) s68).bind λv72=>
    (ix ((ta x.a8 ds).map og) v72).bind λv73=>
    (kQ s69 (⟨2,v72,v73.Call⟩:u5)).bind λv74=>
    some (Sum.inl (u4 (s68+1),v74.1))
   else
   some (.inr s69)) (t0:=jD x.Q) (cls x.a8 ds).length (λk (q:u7)=>q=jD ⟨x.Q.L++(oG x.a8 ds).take k,x.Q.Cap⟩) (λq=>q=jD (xd x ds).Q) (by rw[<-dD];omega) (by simp) ?_ ?_
 .obtain⟨e,h1,h2⟩:=key;rw[h1,XB,h2]
 .rintro k q hk rfl;left;have hw:=Kw (zh hk);have hk2:k<(oG x.a8 ds).length:=by rw[dD];exact hk
  have ei:ix ((ta x.a8 ds).map og) (((cls x.a8 ds)[k]:Nat):Int)=some (og (mb ds x.a8[(cls x.a8 ds)[k]])):=by rw[bc,Cx hw];rfl
  simp only[jf,zB,hk,zD,zH,AH hk,XB,ei];have et:(⟨2,(((cls x.a8 ds)[k]:Nat):Int),(og (mb ds x.a8[(cls x.a8 ds)[k]])).Call⟩:u5)=tU (oG x.a8 ds)[k]:=by
   rw[Kx,bb hw];show (⟨2,_,(mb ds x.a8[(cls x.a8 ds)[k]]).Call⟩:u5)=_;rw[(yY ds _).2.1];rfl
  rw[et,Rk _ (by dsimp only;rw[zY,zbb];omega),xK hc hd hq hcap hk2,XB,k8 (by rw[<-dD] at hk;omega)];exact⟨_,rfl,rfl⟩
 .rintro q rfl;refine⟨_,za (by rw[jf];simp),?_⟩;rw[<-dD,zL];rfl
end
theorem sP(s:a7)(i:Nat)(c d:b7):F3 (F3 s i c) i d=F3 s i d:=by
 unfold F3;dsimp only;rw[List.set_set]
section
variable{s:a7}(hR:SR s){d:Int}(hd:d∈lv s)
include hR hd
def k1(s:a7)(d:Int):a7:=F3 s (C0 d) ⟨1,(ce s (C0 d)).Gen,IA (ob s d)⟩
def k2(s:a7)(d:Int):a7:=F3 s (C0 d) ⟨2,(ce s (C0 d)).Gen,IA (ob s d)⟩
theorem Af:xi s (IA (ob s d)):=by
 have ho:=I3 hR hd;exact⟨ho.s1,ho.s2,pm _,ho.wk,ho.p1,ho.p2,un _⟩
theorem Fa:bR s d (IA (ob s d))=k1 s d:=by
 have q:=y5 hR hd;unfold bR cy k1 F3;rw[q.2.1]
theorem QW:At (k1 s d) d (C0 d):=by
 have q:=y5 hR hd;refine⟨by unfold k1;rw[V5];exact q.1,?_,?_⟩;·unfold k1;rw[J0 q.1,zb rfl]
 .unfold k1;rw[J0 q.1,zb rfl];exact q.2.2
theorem QX:SR (k1 s d):=by rw[<-Fa hR hd];exact aL (o:=IA (ob s d)) hR hd rfl (Af hR hd)
theorem Ra:SR (k2 s d):=by
 have q:=y5 hR hd;have hc:=hR.cell _ q.1;unfold k2;refine hR.F3 q.1 ⟨by simp,by simp,hc.2.2.1,hc.2.2.2⟩ (λq=>absurd (.inr rfl) q) (λ_=>⟨Af hR hd,.inl q.2.1,?_⟩);show (ob s d).Serial=_;rw[N5 hR q]
theorem QY:V6 (k2 s d) d (C0 d):=by
 have q:=y5 hR hd;refine⟨by unfold k2;rw[V5];exact q.1,?_,?_⟩;·unfold k2;rw[J0 q.1,zb rfl];exact .inr rfl
 .unfold k2;rw[J0 q.1,zb rfl];exact q.2.2
theorem OW:R3 (k1 s d).S d=some ((k2 s d).S,0):=by
 have q:=y5 hR hd;have hR1:=QX hR hd;have q1:=QW hR hd;have hr:=F6 hR hd;have hlen:=hR1.len;have hH:oA d:=((po hR1).2 q1.d).2.1;have hsl:(d-1) % 32=(C0 d:Nat):=((po hR1).2 q1.d).2.2.1;have hg:(d-1) / 32=(ce s (C0 d)).Gen:=by
  have:=q.2.2;have h24:=hR.len;have:=q.1;omega
 unfold R3 C6;rw[jU hR1 q1.d,XB,za (by simp),CP q1.1,XB,q1.2.1,za (by simp),XB,za (by simp),ga (by omega),XB,zb hH,hsl,iH (by omega),XB,zb hH,hg,jJ rfl q1.1 hlen,XB];have e:(ce (k1 s d) (C0 d)).Val=IA (ob s d):=by unfold k1;rw[J0 q.1,zb rfl]
 rw[e];congr 2;show (F3 (k1 s d) (C0 d) _).S=(k2 s d).S;unfold k1 k2;rw[sP]
theorem QO(hw:(ob s d).Weak=0):xZ (k2 s d) (C0 d)=Ax s d:=by
 have q:=y5 hR hd;have e:ce (k2 s d) (C0 d)=⟨2,(ce s (C0 d)).Gen,IA (ob s d)⟩:=by unfold k2;rw[J0 q.1,zb rfl]
 unfold xZ Ax JH;rw[e];rw[N5 hR q] at hw;rw[zb hw];unfold k2;rw[sP];rfl
theorem QZ(hw:(ob s d).Weak≠0):k2 s d=Ax s d:=by
 have q:=y5 hR hd;unfold k2 Ax JH;rw[N5 hR q] at hw |-;rw[za hw]
end
theorem IS{x:Hp}(hR:SR x.S){d:Int}(hd:d∈lv x.S):W3 x d=some (wS x (Ax x.S d)):=by
 unfold W3;rw[sa hR hd,XB];have e1:I5 x.S d (⟨(ob x.S d).Serial,0,(ob x.S d).Weak,(ob x.S d).Prog,(ob x.S d).Started,[]⟩:k9)=some (k1 x.S d,0):=by
  rw[<-Fa hR hd];exact rn (o:=IA (ob x.S d)) hR hd rfl (Af hR hd)
 rw[e1,XB,OW hR hd,XB];by_cases hw:(ob x.S d).Weak=0
 .rw[zb (by simpa using hw),GY (Ra hR hd) (QY hR hd),XB,QO hR hd hw];rfl
 .rw[za (by simpa using hw)];show some (wS x (k2 x.S d))=_;rw[QZ hR hd hw]
theorem SP{s:a7}(hR:SR s){d:Int}(hd:d∈lv s):vX (sO (k1 s d)) d=some (sO (k2 s d)):=by
 have q:=y5 hR hd;have hR1:=QX hR hd;have q1:=QW hR hd;have hlen:=hR1.len;have hr:=F6 hR hd;have hi:=q1.1;have hi2:C0 d<(sO (k1 s d)).a8.length:=by rw[A8];exact hi
 have K1:C0 d<(pl (sO (k1 s d))).a8.length:=by rw[bq];exact hi2
 have hlen2:(sO (k1 s d)).a8.length<=24:=by rw[A8];exact hlen
 unfold vX Dq uB;rw[ig _ (by omega),XB,rX (k1 s d) (by omega),jU hR1 q1.d,XB,za (by simp),Dg hi2,XB];have hst:(xv (C0 d) (sO (k1 s d)).a8[C0 d]).State=1:=by
  have:=q1.2.1;rw[D3 hi] at this;simpa[xv,sO,cO] using this
 have hgen:(xv (C0 d) (sO (k1 s d)).a8[C0 d]).Gen=(ce s (C0 d)).Gen:=by
  have:(ce (k1 s d) (C0 d)).Gen=(ce s (C0 d)).Gen:=by unfold k1;rw[J0 q.1,zb rfl]
  rw[D3 hi] at this;simpa[xv,sO,cO] using this
 rw[hst,za (by simp),XB,za (by simp),XB];dsimp only;rw[Dg hi2,XB];have w3:∀c:E8,aW (pl (sO (k1 s d))) ((C0 d:Nat):Int) c=some ⟨(pl (sO (k1 s d))).a8.set (C0 d) c,(pl (sO (k1 s d))).Last⟩:=λc=>by
  unfold aW;rw[I9 (by omega) (by rw[bq];omega),XB,o0 K1,XB,zQ]
 rw[w3,XB,XB,wK _ _ (by omega) (by simp[bq]),XB,hgen];unfold k2;rw[<-sP s (C0 d) ⟨1,(ce s (C0 d)).Gen,IA (ob s d)⟩,HT];show some _=some (⟨(sO (k1 s d)).a8.set (C0 d) _,_,_⟩:n7);congr 1;congr 1;refine za5 (by simp) λk h1 h2=>?_;have hk:k<(k1 s d).S.a8.length:=by simpa[A8] using h1
 have hk2:k<(sO (k1 s d)).a8.length:=by rw[A8];exact hk
 have hk3:k<(pl (sO (k1 s d))).a8.length:=by rw[bq];exact hk2
 simp only[wl,List.getElem_range,zbx];rw[jb K1,bb hk2,bb hk3];by_cases e:k=C0 d
 .subst e;rw[zb rfl,zb rfl];have e2:(sO (k1 s d)).a8[C0 d].Val=oo (IA (ob s d)):=by
   have:(ce (k1 s d) (C0 d)).Val=IA (ob s d):=by unfold k1;rw[J0 q.1,zb rfl]
   rw[<-this,D3 hi];simp[sO,cO]
  rw[e2];rfl
 .rw[za e,za (zal e)];simp[sO,pl,xv,cO]
theorem SA{x:Hp}(hR:SR x.S){d:Int}(hd:d∈lv x.S):mO (hO x) d=some (hO (wS x (Ax x.S d))):=by
 unfold mO;rw[show (hO x).S=sO x.S from rfl,qo hR hd,XB];have e1:M4 (sO x.S) d (⟨(oo (ob x.S d)).Serial,0,(oo (ob x.S d)).Weak,(oo (ob x.S d)).Prog,(oo (ob x.S d)).Started,[]⟩:B7)=some (sO (k1 x.S d),0):=by
  rw[<-Fa hR hd];exact rp (o:=IA (ob x.S d)) hR hd rfl (Af hR hd)
 rw[e1,XB,SP hR hd,XB];by_cases hw:(ob x.S d).Weak=0
 .rw[zb (by simpa[oo] using hw),Ld (Ra hR hd) (QY hR hd),XB,QO hR hd hw];rfl
 .rw[za (by simpa[oo] using hw)];show some (hO (wS x (k2 x.S d)))=_;rw[QZ hR hd hw]
theorem HL:∀(l:List Int) {x:Hp},SR x.S->SR (l.foldl O9 x).S
 | [],x,h=>h
 | v::l,x,h=>HL l (x:=O9 x v) (FJ h v)
theorem Bn:∀(l:List Int) {x:Hp},SR x.S->SL x->SL (l.foldl O9 x)
 | [],x,_,h=>h
 | v::l,x,hR,h=>Bn l (x:=O9 x v) (FJ hR v) (h.Wp hR v)
theorem Jn(l:List Int){k:Nat}(hk:k<l.length)(x:Hp):(l.take (k+1)).foldl O9 x=O9 ((l.take k).foldl O9 x) l[k]:=by
 rw[L0 hk,za1];rfl
theorem Bk{y:Hp}(hR:SR y.S)(l:List Int)(hl:l.length<=1000000)(hb:∀v∈l,v<=9223372036854775807){K:Hp->Option Hp}:((lp (S:=Int × b6) (E:=b6) (λ((s35,s36):Int × b6)=>
     if (decide (s35<(l.length:Int))) then
      (ix l s35).bind λv39=>
      (B6 s36 v39).bind λv40=>
      some (.inl (u4 (s35+1),v40))
     else
     some (.inr s36)) (0,y)).bind K)=K (l.foldl O9 y):=by
 have key:=E7 l O9 id (λk z=>SR z.S) (b0:=y) (f:=λ((s35,s36):Int × b6)=>
     if (decide (s35<(l.length:Int))) then
      (ix l s35).bind λv39=>
      (B6 s36 v39).bind λv40=>
      some (Sum.inl (u4 (s35+1),v40))
     else
     some (.inr s36)) (by omega) hR (λk hk z hz=>?_) (λz hz=>by simp)
 .rw[key,XB];rfl
 .simp only[zB,hk,zD,zH,o0 hk,XB,dx hz (hb _ (zh hk))];rw[k8];exact⟨rfl,FJ hz _⟩
theorem wm{y:Hp}(hR:SR y.S)(l:List Int)(hl:l.length<=1000000)(hb:∀v∈l,v<=9223372036854775807){K:g6->Option g6}:((lp (S:=Int × g6) (E:=g6) (λ((s45,s46):Int × g6)=>
      if (decide (s45<(l.length:Int))) then
       (ix l s45).bind λv49=>
       (D9 s46 v49).bind λv50=>
       some (.inl (u4 (s45+1),v50))
      else
      some (.inr s46)) (0,hO y)).bind K)=K (hO (l.foldl O9 y)):=by
 have key:=dj (f:=λ((s45,s46):Int × g6)=>
      if (decide (s45<(l.length:Int))) then
       (ix l s45).bind λv49=>
       (D9 s46 v49).bind λv50=>
       some (Sum.inl (u4 (s45+1),v50))
      else
      some (.inr s46)) (t0:=hO y) l.length (λk z=>z=hO ((l.take k).foldl O9 y)) (λz=>z=hO (l.foldl O9 y)) (by omega) rfl ?_ ?_
 .obtain⟨e,h1,h2⟩:=key;rw[h1,XB,h2]
 .rintro k z hk rfl;left;have hz:=HL (l.take k) hR;simp only[zB,hk,zD,zH,o0 hk,XB,fN hz (hb _ (zh hk))];rw[k8,<-Jn l hk];exact⟨_,rfl,rfl⟩
 .rintro z rfl;exact⟨_,za (by simp),by rw[zL]⟩
theorem CJ(s:a7)(ds:List Int){k:Nat}(hk:k<ds.length):km s (ds.take (k+1))=Ax (km s (ds.take k)) ds[k]:=by
 unfold km;rw[L0 hk,za1];rfl
section
variable{y:Hp}(hR:SR y.S){ds:List Int}(hn:ds.Nodup)(hm:∀d∈ds,d∈lv y.S)
include hR hn hm
theorem vF{k:Nat}(hk:k<ds.length):SR (km y.S (ds.take k))/\ds[k]∈lv (km y.S (ds.take k)):=by
 have g:=cc (ds.take k) hR ((List.take_sublist k ds).nodup hn) λd hd=>hm d (zav hd);refine⟨g.sr,?_⟩;rw[g.lv,zm,zx];refine⟨hm _ (zh hk),λq=>?_⟩;rw[<-List.take_append_drop k ds,zbv] at hn;exact hn.2.2 _ q ds[k] (by rw[List.drop_eq_getElem_cons hk];exact zk ..) rfl
theorem IQ(hl:ds.length<=1000){K:Hp->Option Hp}:((lp (S:=Int × b6) (E:=b6) (λ((s42,s43):Int × b6)=>
    if (decide (s42<(ds.length:Int))) then
     (ix ds s42).bind λv46=>
     (W3 s43 v46).bind λv47=>
     some (.inl (u4 (s42+1),v47))
    else
    some (.inr s43)) (0,y)).bind K)=K (wS y (km y.S ds)):=by
 have key:=dj (f:=λ((s42,s43):Int × b6)=>
    if (decide (s42<(ds.length:Int))) then
     (ix ds s42).bind λv46=>
     (W3 s43 v46).bind λv47=>
     some (Sum.inl (u4 (s42+1),v47))
    else
    some (.inr s43)) (t0:=y) ds.length (λk z=>z=wS y (km y.S (ds.take k))) (λz=>z=wS y (km y.S ds)) (by omega) rfl ?_ ?_
 .obtain⟨e,h1,h2⟩:=key;rw[h1,XB,h2]
 .rintro k z hk rfl;left;obtain⟨h1,h2⟩:=vF hR hn hm hk;simp only[zB,hk,zD,zH,o0 hk,XB,IS (x:=wS y (km y.S (ds.take k))) h1 h2];rw[k8,CJ _ _ hk];exact⟨_,rfl,rfl⟩
 .rintro z rfl;exact⟨_,za (by simp),by rw[zL]⟩
theorem CS(hl:ds.length<=1000){K:g6->Option g6}:((lp (S:=Int × g6) (E:=g6) (λ((s52,s53):Int × g6)=>
     if (decide (s52<(ds.length:Int))) then
      (ix ds s52).bind λv56=>
      (mO s53 v56).bind λv57=>
      some (.inl (u4 (s52+1),v57))
     else
     some (.inr s53)) (0,hO y)).bind K)=K (hO (wS y (km y.S ds))):=by
 have key:=dj (f:=λ((s52,s53):Int × g6)=>
     if (decide (s52<(ds.length:Int))) then
      (ix ds s52).bind λv56=>
      (mO s53 v56).bind λv57=>
      some (Sum.inl (u4 (s52+1),v57))
     else
     some (.inr s53)) (t0:=hO y) ds.length (λk z=>z=hO (wS y (km y.S (ds.take k)))) (λz=>z=hO (wS y (km y.S ds))) (by omega) rfl ?_ ?_
 .obtain⟨e,h1,h2⟩:=key;rw[h1,XB,h2]
 .rintro k z hk rfl;left;obtain⟨h1,h2⟩:=vF hR hn hm hk;simp only[zB,hk,zD,zH,o0 hk,XB,SA (x:=wS y (km y.S (ds.take k))) h1 h2];rw[k8,CJ _ _ hk];exact⟨_,rfl,rfl⟩
 .rintro z rfl;exact⟨_,za (by simp),by rw[zL]⟩
end
section
variable{x:Hp}(hx:L5 x){ds:List Int}(hn:ds.Nodup)(hm:∀d∈ds,d∈lv x.S)
include hx hn hm
theorem Ai:ds.length<=24:=wd (gi hn hm) (E2 (r9.2 hx.sh.sr))
theorem Aq{d:Int}(hd:d∈lv x.S):(ob x.S d).Fields.length<=4:=(I3 hx.sh.sr hd).fl
theorem AR{d:Int}(hd:d∈lv x.S):(outs x.S d).length<=4:=wd (LM _) (Aq hx hn hm hd)
theorem nx:∀(l:List Int),(∀d∈l,d∈lv x.S)->(l.flatMap (outs x.S)).length<=4*l.length
 | [],_=>by simp
 | d::l,h=>by
  rw[za0,zY,zA];have:=nx l λe he=>h e (zq _ he);have:=AR hx hn hm (h d (zk ..));omega
theorem Hu:∀v∈ds.flatMap (outs x.S)++(lu x.T ds).2,v<=9223372036854775807:=λv hv=>by
 rcases zt.1 hv with q | q
 .obtain⟨d,hd,q⟩:=rg.1 q;obtain⟨q,_⟩:=kI.1 q;rcases hx.sh.fl d (hm d hd) v q with e | e
  .omega
  .exact cr hx.sh.sr e
 .by_cases h0:v=0
  .omega
  .have hl:=Ai hx hn hm;have h3:=(gB hx.sh.hr ds (by omega)).2.2.2.2.2 v;have h4:=cM.2 ⟨h0,q⟩;have h5:0<own x.T v:=by omega
   obtain⟨p,hp,hq⟩:=zbj.1 h5;have hq:(v != 0&&p.Val==v)=true:=hq;rw[zp,q9] at hq;have:=(hx.sh.pr _ _ (fy.1 hp)).2;rw[hq.2] at this;exact cr hx.sh.sr this
theorem Dd:(ds.flatMap (outs x.S)++(lu x.T ds).2).length<=200:=by
 have hl:=Ai hx hn hm;have h1:=nx hx hn hm ds hm;have h2:=(gB hx.sh.hr ds (by omega)).2.2.1;rw[zY];omega
theorem GN(hq:(x.Q.L++oG x.a8 ds).length<=30){l:List Int}(h1:T8 x l=some ds):Z5 x l=some (eI x ds):=by
 have hl:=Ai hx hn hm;have hR:=hx.sh.sr;obtain⟨w1,w2,w3,w4,w5,w6⟩:=gB hx.sh.hr ds (by omega);have ol:=Dd hx hn hm;have fl:=nx hx hn hm ds hm;unfold Z5;rw[h1,XB,ED (by have:=hx.sh.c6;omega) (by omega) hq hx.sh.cap,XB];simp only[jn];have key:=E7 ds (λb d=>b++outs x.S d) id (λk b=>b.length<=4*k) (b0:=[]) (f:=λ((s49,s50):Int × (List Int))=>
   if (decide (s49<(ds.length:Int))) then
    (ix ds s49).bind λv53=>
    (u9 (xd x ds).S v53).bind λv54=>
    (fP v54.1.Fields).bind λv55=>
    (app 8 s50 v55).bind λv56=>
    some (Sum.inl (u4 (s49+1),v56))
   else
   some (.inr s50)) (by omega) (by simp) (λk hk b hb=>?_) (λb hb=>by simp)
 .rw[key,XB,de,zb2];dsimp only[id];rw[show (xd x ds).T=x.T from rfl,w1,XB];have ol2:=ol;rw[zY] at ol2;rw[y4 (by omega) (by omega),XB];have k1:=IQ (y:=⟨(xd x ds).S,(xd x ds).Roots,(xd x ds).a8,(lu x.T ds).1,(xd x ds).Q⟩) hR hn hm (by omega) (K:=λe=>(lp (S:=Int × b6) (E:=b6) (λ((s35,s36):Int × b6)=>
     if (decide (s35<((ds.flatMap (outs x.S)++(lu x.T ds).2).length:Int))) then
      (ix (ds.flatMap (outs x.S)++(lu x.T ds).2) s35).bind λv39=>
      (B6 s36 v39).bind λv40=>
      some (.inl (u4 (s35+1),v40))
     else
     some (.inr s36)) (0,e)).bind λe34=>some e34)
  refine zbk k1 ?_;have g:=cc ds hR hn hm;have k2:=Bk (y:=wS (⟨(xd x ds).S,(xd x ds).Roots,(xd x ds).a8,(lu x.T ds).1,(xd x ds).Q⟩:Hp) (km x.S ds)) g.sr _ (by omega) (Hu hx hn hm) (K:=λe34=>some e34);refine zbk k2 ?_;rfl
 .have hd:=hm _ (zh hk);have f4:=Aq hx hn hm hd;have o4:=AR hx hn hm hd;simp only[zB,hk,zD,zH,o0 hk,XB,show (xd x ds).S=x.S from rfl,sa hR hd,CZ _ (by omega:(ob x.S ds[k]).Fields.length<=1000000)];have e:nz (ob x.S ds[k]).Fields=outs x.S ds[k]:=rfl;rw[e,y4 (by omega) (by omega),XB,k8];exact⟨rfl,by rw[zY];omega⟩
theorem xO(hq:(x.Q.L++oG x.a8 ds).length<=30){l:List Int}(h1:ra (hO x) l=some ds):mM (hO x) l=some (hO (eI x ds)):=by
 have hl:=Ai hx hn hm;have hR:=hx.sh.sr;obtain⟨w1,w2,w3,w4,w5,w6⟩:=gB hx.sh.hr ds (by omega);have ol:=Dd hx hn hm;have fl:=nx hx hn hm ds hm;have c6:=hx.sh.c6;unfold mM;rw[h1,XB,show (hO x).a8=x.a8.map og from rfl,Oy _ _ (by omega) (by omega),XB];simp only[jn];rw[show (hO x).Q=jD x.Q from rfl,RT (by omega) (by omega) hq hx.sh.cap];have key:=E7 ds (λb d=>b++outs x.S d) id (λk b=>b.length<=4*k) (b0:=[]) (f:=λ((s59,s60):Int × (List Int))=>
    if (decide (s59<(ds.length:Int))) then
     (ix ds s59).bind λv63=>
     (E1 (hO x).S v63).bind λv64=>
     (fL v64.1.Fields).bind λv65=>
     (app 8 s60 v65).bind λv66=>
     some (Sum.inl (u4 (s59+1),v66))
    else
    some (.inr s60)) (by omega) (by simp) (λk hk b hb=>?_) (λb hb=>by simp)
 .rw[key,XB,de,zb2];dsimp only[id];rw[show (hO x).T=x.T.map K1 from rfl,w4,XB];dsimp only;have ol2:=ol;rw[zY] at ol2;rw[y4 (by omega) (by omega),XB];have k1:=CS (y:=⟨(xd x ds).S,(xd x ds).Roots,(xd x ds).a8,(lu x.T ds).1,(xd x ds).Q⟩) hR hn hm (by omega) (K:=λe=>(lp (S:=Int × g6) (E:=g6) (λ((s45,s46):Int × g6)=>
      if (decide (s45<((ds.flatMap (outs x.S)++(lu x.T ds).2).length:Int))) then
       (ix (ds.flatMap (outs x.S)++(lu x.T ds).2) s45).bind λv49=>
       (D9 s46 v49).bind λv50=>
       some (.inl (u4 (s45+1),v50))
      else
      some (.inr s46)) (0,e)).bind λe44=>some e44)
  refine zbk k1 ?_;have g:=cc ds hR hn hm;have k2:=wm (y:=wS (⟨(xd x ds).S,(xd x ds).Roots,(xd x ds).a8,(lu x.T ds).1,(xd x ds).Q⟩:Hp) (km x.S ds)) g.sr _ (by omega) (Hu hx hn hm) (K:=λe44=>some e44);refine zbk k2 ?_;rfl
 .have hd:=hm _ (zh hk);have f4:=Aq hx hn hm hd;have o4:=AR hx hn hm hd;simp only[zB,hk,zD,zH,o0 hk,XB,show (hO x).S=sO x.S from rfl,qo hR hd];have e:fL (oo (ob x.S ds[k])).Fields=some (outs x.S ds[k]):=vM _ (by show (ob x.S ds[k]).Fields.length<=_;omega);rw[e,XB,y4 (by omega) (by omega),XB,k8];exact⟨rfl,by rw[zY];omega⟩
end
theorem Ow{x:Hp}(hR:SR x.S)(hS:SL x){ds:List Int}(hn:ds.Nodup)(hm:∀d∈ds,d∈lv x.S)(t:Tb):SL (gC x ds t):=λk hk=>by
 have g:=cc ds hR hn hm;have hk:k∈lv (km x.S ds):=hk;rw[g.lv,zm,zx] at hk;have e:ob (gC x ds t).S k=ob x.S k:=g.ob k hk.1 hk.2;rw[e];exact hS k hk.1
theorem Km{x:Hp}(hR:SR x.S)(hS:SL x){ds:List Int}(hn:ds.Nodup)(hm:∀d∈ds,d∈lv x.S):SL (eI x ds):=
 Bn _ (x:=gC x ds (lu x.T ds).1) (cc ds hR hn hm).sr (Ow hR hS hn hm _)
theorem Mu{x:Hp}(hR:SR x.S)(hS:SL x){h:Int}(hh:h∈lv x.S):SL (fK x h):=by
 have hok:=BA hR hh;have r1:=aL (o:=cZ (ob x.S h)) hR hh rfl hok;refine SL.B2 (x:=⟨bR x.S h (cZ (ob x.S h)),x.Roots,x.a8,x.T,⟨x.Q.L ++ [tq x h],x.Q.Cap⟩⟩) (λk hk=>?_) r1 h;dsimp only at hk |-;rw[eX (o:=cZ (ob x.S h)) hR hh rfl hok] at hk;rw[dz (o:=cZ (ob x.S h)) hR hh rfl hok (cr hR hk)];split;·exact hS h hh
 .exact hS k hk
theorem Uj{x:Hp}(hx:L5 x)(hS:SL x):SL (HZ x):=by
 cases h:zr x with
 | nil=>rw[nV h];exact hS
 | cons z l=>
  have hz:=(bz.1 (show z∈zr x by rw[h];exact zk ..)).1;rw[gx h];split;·exact Mu hx.sh.sr hS hz
  .exact Km hx.sh.sr hS (by simp) (by simpa using hz)
theorem BB{x:Hp}(hx:L5 x)(hS:SL x)(n:Nat):SL (tS n x):=by
 induction n with
 | zero=>exact hS
 | succ n ih=>rw[cL];exact Uj (az hx n) ih
theorem HX{x:Hp}(hx:L5 x)(hS:SL x):SL (bS x):=BB hx hS 100
section
variable{x:Hp}(hx:L5 x)(hS:SL x)
include hx hS
theorem yK{z:Int}(hz:z∈zr x):(x.Q.L++oG x.a8 [z]).length<=30:=by
 have h1:=(xc hx hz).sh.q30;have hzl:=(bz.1 hz).1;rw[(pY hx.sh.sr (ds:=[z]) (by simp) (by simpa using hzl)).2.2.2] at h1;exact h1
theorem Jq(h:zr x = []):((bO x).bind λv4=>
  if ((v4.length:Int)==0) then
   some (Sum.inr x)
  else
  (ix v4 0).bind λv5=>
  (u9 x.S v5).bind λv6=>
  (K3 v6.1).bind λv7=>
  if v7 then
   (Q6 x v5).bind λv8=>
   some (.inl v8)
  else
  (cut v4 0 1).bind λv9=>
  (Z5 x v9).bind λv10=>
  some (Sum.inl (α:=Hp) (β:=Hp) v10))=some (.inr x):=by
 rw[zero_eq hx.sh.sr,XB,h];rfl
theorem UT(z:Int)(l:List Int):cut (z::l) 0 1=some [z]:=by
 unfold cut;rw[zb (by simp;omega)];simp
theorem FM(h:zr x ≠ []):((bO x).bind λv4=>
  if ((v4.length:Int)==0) then
   some (Sum.inr x)
  else
  (ix v4 0).bind λv5=>
  (u9 x.S v5).bind λv6=>
  (K3 v6.1).bind λv7=>
  if v7 then
   (Q6 x v5).bind λv8=>
   some (.inl v8)
  else
  (cut v4 0 1).bind λv9=>
  (Z5 x v9).bind λv10=>
  some (Sum.inl (α:=Hp) (β:=Hp) v10))=some (.inl (HZ x)):=by
 cases hz:zr x with
 | nil=>exact absurd hz h
 | cons z l=>
  have hzm:z∈zr x:=by rw[hz];exact zk ..
  have hzl:=(bz.1 hzm).1;have hR:=hx.sh.sr;rw[zero_eq hR,XB,hz,za (by simp;omega),show ix (z::l) 0=some z from rfl,XB,sa hR hzl,XB,Hw,XB,gx hz];by_cases hd:due (ob x.S z)=true
  .rw[zb hd,zb hd,yt hx hS (cr hR hzl),XB];unfold Ri;rw[zb ⟨hzl,hd⟩]
  .rw[za hd,za hd,UT hx hS,XB,GN hx (ds:=[z]) (by simp) (by simpa using hzl) (yK hx hS hzm) (by rw[qD hR [z] (by simp) (by simpa using cr hR hzl),CV hzl]),XB]
theorem fO:M8 x=some (bS x):=by
 obtain⟨n,hn,h1,h2,h3⟩:=sQ hx;unfold M8;refine cp (λj=>tS j x) rfl n (λ_=>True) (by omega) trivial (λk hk _=>.inl ⟨?_,trivial⟩) (λ_=>⟨tS n x,?_,by rw[h3]⟩)
 .have:=FM (az hx k) (BB hx hS k) (h2 k hk);rw[<-cL] at this;exact this
 .exact Jq (az hx n) (BB hx hS n) h1
theorem PW{k:Nat}(hk:k<100)(h:zr x ≠ []){E:Type}{e:E}:((mN (hO x)).bind λv35=>
     if ((v35.length:Int)==0) then
      some (Sum.inr e)
     else
     (ix v35 0).bind λv36=>
     (nI (hO x) v36).bind λv37=>
     if v37 then
      (gl (hO x) v36).bind λv38=>
      some (.inl (u4 ((k:Int)+1),v38))
     else
     (cut v35 0 1).bind λv39=>
     (mM (hO x) v39).bind λv40=>
     some (Sum.inl (u4 ((k:Int)+1),v40)))=some (.inl (((k+1:Nat):Int),hO (HZ x))):=by
 cases hz:zr x with
 | nil=>exact absurd hz h
 | cons z l=>
  have hzm:z∈zr x:=by rw[hz];exact zk ..
  have hzl:=(bz.1 hzm).1;have hR:=hx.sh.sr;rw[Np hR,XB,hz,za (by simp;omega),show ix (z::l) 0=some z from rfl,XB,KI hx hS (cr hR hzl),XB,zu hzl,ut,gx hz,k8];by_cases hd:due (ob x.S z)=true
  .rw[zb hd,zb hd,Dm hx hS (cr hR hzl),XB];unfold Ri;rw[zb ⟨hzl,hd⟩]
  .rw[za hd,za hd,UT hx hS,XB,xO hx (ds:=[z]) (by simp) (by simpa using hzl) (yK hx hS hzm) (by rw[KJ hR [z] (by simp) (by simpa using cr hR hzl),CV hzl]),XB]
theorem jz:O2 (hO x)=some (hO (bS x)):=by
 obtain⟨n,hn,h1,h2,h3⟩:=sQ hx;unfold O2;simp only[jn];refine cp (λj=>((j:Int),hO (tS j x))) (by rfl) n (λ_=>True) (by omega) trivial (λk hk _=>.inl ⟨?_,trivial⟩) (λ_=>⟨.inl (hO (tS n x)),?_,by rw[h3]⟩)
 .dsimp only;rw[zb (by simp;omega)];have:=PW (az hx k) (BB hx hS k) (k:=k) (by omega) (h2 k hk) (e:=(Sum.inl (hO (tS k x)):g6 ⊕ g6));rw[<-cL] at this;exact this
 .dsimp only;rw[zb (by simp;omega),Np (az hx n).sh.sr,XB,h1];rfl
end
def K6(n l m e:Int):Int:=if n<l\/n > m then e else 0
def aC(a b c:Int):Int:=if a≠0 then a else if b≠0 then b else c
def A2(k a b c:Int):Int:=
 if k=1 then aC (K6 a 0 5 6) (K6 b 0 4 1) (K6 c (-1) 5 13)
 else if k=2\/k=9\/k=10 then aC (K6 a 0 5 6) (K6 b 0 5 6) 0
 else if k=3 then K6 a 0 5 6
 else if k=4 then aC (K6 a 0 5 6) (K6 b 0 5 6) (K6 c 0 3 5)
 else if k=5 then aC (K6 a 0 5 6) (K6 b 0 3 5) (K6 c (-1) 5 6)
 else if k=6 then aC (K6 a 0 5 7) (K6 b (-1) 5 6) (K6 c (-1) 5 13)
 else if k=7 then aC (K6 a 0 5 6) (K6 b 0 5 7) 0
 else if k=8 then aC (K6 a 0 5 6) (K6 b (-1) 5 6) 0
 else if k=11 then 0
 else if k=12 then K6 a 0 200 12
 else 14
def Bi:g5:=⟨some 233,0,5,6⟩
def PQ:g5:=⟨some 234,0,5,6⟩
def Vu:g5:=⟨some 234,-1,5,6⟩
def VA:g5:=⟨some 236,-1,5,13⟩
def te:List (Int × List g5):=[(1,[Bi,⟨some 234,0,4,1⟩,VA]),(2,[Bi,PQ]),(3,[Bi]),(4,[Bi,PQ,⟨some 236,0,3,5⟩]),
 (5,[Bi,⟨some 234,0,3,5⟩,⟨some 236,-1,5,6⟩]),(6,[⟨some 233,0,5,7⟩,Vu,VA]),(7,[Bi,⟨some 234,0,5,7⟩]),(8,[Bi,Vu]),(9,[Bi,PQ]),(10,[Bi,PQ]),(11,[]),(12,[⟨some 233,0,200,12⟩])]
theorem EE:jZ=some te:=by kernel_rfl
def ef(o:c9)(d:g5):Int:=if d.part=some 233 then o.A else if d.part=some 234 then o.B else o.C
def oD(o:c9)(d:g5):Bool:=decide (ef o d<d.least)||decide (ef o d > d.most)
def qk(o:c9):List g5->Int ⊕ Unit
 | []=>.inr ()
 | d::ds=>if oD o d then .inl d.e else qk o ds
theorem CG(o:c9)(d:g5)(ds:List g5):qk o (d::ds)=if oD o d then .inl d.e else qk o ds:=rfl
def Gm(d:g5):Prop:=d.part=some 233\/d.part=some 234\/d.part=some 236
theorem Tw(o:c9){d:g5}(h:Gm d):qm d.part o=some (ef o d):=by
 unfold ef;rcases h with h | h | h
 .rw[h];rfl
 .rw[h];rfl
 .rw[h];rfl
theorem SU(o:c9)(ds:List g5)(hl:ds.length<=10)(hp:∀d∈ds,Gm d):lp (S:=Int) (E:=Int ⊕ Unit) (λ(s11:Int)=>
   if (decide (s11<(ds.length:Int))) then
    (ix ds s11).bind λv13=>
    (qm v13.part o).bind λv14=>
    if ((decide (v14<v13.least))||(decide (v14 > v13.most))) then
     some (.inr (.inl v13.e))
    else
    some (.inl (u4 (s11+1)))
   else
   some (.inr (.inr ()))) 0=some (qk o ds):=by
 refine fD (yi ds.length (λk=>qk o ds=qk o (ds.drop k)) (λe=>e=qk o ds) (by omega) rfl (λk hk hP=>?_) (λhP=>?_))
 .rw[zb (by simpa using hk),o0 hk,XB,Tw o (hp _ (zh hk)),XB];rw[List.drop_eq_getElem_cons hk,CG] at hP;by_cases c:oD o ds[k]=true
  .rw[zb (show ((decide (ef o ds[k]<ds[k].least))||(decide (ef o ds[k] > ds[k].most)))=true from c)];rw[zb c] at hP;exact .inr ⟨_,rfl,hP.symm⟩
  .rw[za (show ¬((decide (ef o ds[k]<ds[k].least))||(decide (ef o ds[k] > ds[k].most)))=true from c),k8];rw[za c] at hP;exact .inl ⟨rfl,hP⟩
 .rw[List.drop_length] at hP;exact⟨_,za (by simp),hP.symm⟩
theorem OD:∀p∈te,p.2.length<=10/\∀d∈p.2,Gm d:=by
 have:te.all (λp=>decide (p.2.length<=10)&&p.2.all λd=>(d.part==some 233)||(d.part==some 234)||(d.part==some 236))=true:=by kernel_rfl
 intro p hp;have:=zf.1 this p hp;rw[zp,zx,zf] at this;refine⟨this.1,λd hd=>?_⟩;have:=this.2 d hd;simp only[zbg,q9] at this;unfold Gm;rcases this with (h | h) | h
 .exact .inl h
 .exact .inr (.inl h)
 .exact .inr (.inr h)
theorem Hl{m:List (Int × List g5)}{k:Int}{v:List g5}(h:A6 m k=some v):(k,v)∈m:=by
 induction m with
 | nil=>cases h
 | cons p m ih=>
  unfold A6 at h;split at h
  .rename_i c;have:k=p.1:=by simpa using c
   cases h;subst this;exact zk ..
  .exact zq _ (ih h)
def rB(o:c9)(ds:List g5):Int:=match qk o ds with
 | .inl e=>e
 | .inr _=>0
theorem Qy(o:c9):rB o []=0:=rfl
theorem rC(o:c9)(d:g5)(ds:List g5):rB o (d::ds)=if oD o d then d.e else rB o ds:=by
 unfold rB;rw[CG];cases oD o d <;> rfl
theorem AF(o:c9)(d:g5):K6 (ef o d) d.least d.most d.e=if oD o d then d.e else 0:=by
 unfold K6 oD;by_cases h:ef o d<d.least\/ef o d > d.most
 .rw[zb h,zb (by simpa using h)]
 .rw[za h,za (by simpa using h)]
theorem Qw(o:c9)(d:g5):rB o [d]=K6 (ef o d) d.least d.most d.e:=by rw[rC,Qy,AF]
theorem Nf(o:c9)(d e:g5)(h1:d.e≠0):rB o [d,e]=aC (K6 (ef o d) d.least d.most d.e) (K6 (ef o e) e.least e.most e.e) 0:=by
 rw[rC,Qw,AF o d];unfold aC;cases oD o d
 .simp only[zi,zV,ne_eq,not_true_eq_false];split;·rfl
  .rename_i h;simpa using h
 .simp[h1]
theorem Qx(o:c9)(d e f:g5)(h1:d.e≠0)(h2:e.e≠0):rB o [d,e,f]=aC (K6 (ef o d) d.least d.most d.e) (K6 (ef o e) e.least e.most e.e) (K6 (ef o f) f.least f.most f.e):=by
 rw[rC,rC,Qw,AF o d,AF o e];unfold aC;cases oD o d <;> cases oD o e <;> simp[h1,h2]
theorem Lq(o:c9):(match A6 te o.Kind with
  | none=>14
  | some ds=>rB o ds)=A2 o.Kind o.A o.B o.C:=by
 obtain⟨k,a,b,c⟩:=o;dsimp only;by_cases h:1<=k/\k<=12
 .have:k=1\/k=2\/k=3\/k=4\/k=5\/k=6\/k=7\/k=8\/k=9\/k=10\/k=11\/k=12:=by omega
  rcases this with rfl | rfl | rfl | rfl | rfl | rfl | rfl | rfl | rfl | rfl | rfl | rfl
  .exact Qx _ _ _ _ (by decide) (by decide)
  .exact Nf _ _ _ (by decide)
  .exact Qw _ _
  .exact Qx _ _ _ _ (by decide) (by decide)
  .exact Qx _ _ _ _ (by decide) (by decide)
  .exact Qx _ _ _ _ (by decide) (by decide)
  .exact Nf _ _ _ (by decide)
  .exact Nf _ _ _ (by decide)
  .exact Nf _ _ _ (by decide)
  .exact Nf _ _ _ (by decide)
  .rfl
  .exact Qw _ _
 .have e:A6 te k=none:=by
   cases hm:A6 te k with
   | none=>rfl
   | some v=>
    have:=Hl hm;simp only[te,zR,Prod.mk.injEq,List.not_mem_nil,or_false] at this;omega
  rw[e];unfold A2;repeat rw[za (by omega)]
theorem ma(o:c9):Q0 o=some (A2 o.Kind o.A o.B o.C):=by
 rw[<-Lq];unfold Q0;rw[EE,XB];cases h:A6 te o.Kind with
 | none=>rfl
 | some ds=>
  obtain⟨h1,h2⟩:=OD _ (Hl h);rw[za (by simp)];simp only[jn,ww];rw[SU o ds h1 h2,XB];unfold rB;cases qk o ds <;> rfl
theorem OS(n l m e:Int):bu n l m e=some (K6 n l m e):=by
 unfold bu K6;by_cases h:n<l\/n > m
 .rw[zb h,zb (by simpa using h)]
 .rw[za h,za (by simpa using h)]
theorem La(a b c:Int):aw a b c=some (aC a b c):=by
 unfold aw aC;by_cases h:a=0
 .by_cases g:b=0
  .rw[za (by simpa using h),za (by simpa using g),za (by simpa using h),za (by simpa using g)]
  .rw[za (by simpa using h),zb (by simpa using g),za (by simpa using h),zb (by simpa using g)]
 .rw[zb (by simpa using h),zb (by simpa using h)]
theorem gN(o:H7):bL o=some (A2 o.Kind o.A o.B o.C):=by
 unfold bL A2;simp only[OS,La,XB,jn];by_cases h:1<=o.Kind/\o.Kind<=12
 .have:o.Kind=1\/o.Kind=2\/o.Kind=3\/o.Kind=4\/o.Kind=5\/o.Kind=6\/o.Kind=7\/o.Kind=8\/o.Kind=9\/o.Kind=10\/o.Kind=11\/o.Kind=12:=by omega
  rcases this with h | h | h | h | h | h | h | h | h | h | h | h <;> rw[h] <;> rfl
 .have n:∀j:Int,1<=j->j<=12->(o.Kind==j)=false:=λj h1 h2=>by
   rw[beq_eq_false_iff_ne];omega
  simp only[n 1 (by omega) (by omega),n 2 (by omega) (by omega),n 3 (by omega) (by omega),n 4 (by omega) (by omega),n 5 (by omega) (by omega),n 6 (by omega) (by omega),n 7 (by omega) (by omega),n 8 (by omega) (by omega),n 9 (by omega) (by omega),n 10 (by omega) (by omega),n 11 (by omega) (by omega),n 12 (by omega) (by omega),zi,zV];repeat rw[za (by omega)]
def Xo(o:B7):k9:=⟨o.Serial,o.Strong,o.Weak,o.Prog,o.Started,o.Fields⟩
def Xq(s:n7):a7:=⟨⟨s.a8.map λc=>⟨c.State,c.Gen,Xo c.Val⟩,s.Last⟩,s.Serial⟩
def QP(x:g6):Hp:=⟨Xq x.S,x.Roots,x.a8.map λc=>⟨c.Target,c.Intact,c.Call⟩,x.T.map λp=>⟨p.State,p.Key,p.Val⟩,⟨x.Q.L.map λt=>⟨t.Kind,t.At,t.Prog⟩,x.Q.Cap⟩⟩
theorem SF(x:Hp):QP (hO x)=x:=by
 obtain⟨⟨⟨cs,l⟩,n⟩,r,w,t,⟨q,c⟩⟩:=x;unfold QP hO Xq sO jD;dsimp only;have a1:(cs.map cO).map (λc=>(⟨c.State,c.Gen,Xo c.Val⟩:b7))=cs:=by
  rw[zb0];refine zbk (zC λa _=>?_) (List.map_id cs);rfl
 have a2:(w.map og).map (λc=>(⟨c.Target,c.Intact,c.Call⟩:c7))=w:=by
  rw[zb0];refine zbk (zC λa _=>?_) (List.map_id w);rfl
 have a3:(t.map K1).map (λp=>(⟨p.State,p.Key,p.Val⟩:b8))=t:=by
  rw[zb0];refine zbk (zC λa _=>?_) (List.map_id t);rfl
 have a4:(q.map tU).map (λt=>(⟨t.Kind,t.At,t.Prog⟩:g9))=q:=by
  rw[zb0];refine zbk (zC λa _=>?_) (List.map_id q);rfl
 rw[a1,a2,a3,a4]
theorem HN{x:Hp}(hx:L5 x){ds:List Int}:(x.Q.L++oG x.a8 ds).length<=30:=by
 have hS:=hx.sh;have c6:=hS.c6;have h24:(lv x.S).length<=24:=E2 (r9.2 hS.sr);have htd:(x.Q.L++oG x.a8 ds).Pairwise λa b=>¬(a.Kind=b.Kind/\a.At=b.At):=by
  rw[za4];refine⟨hS.td,xQ ..,λa ha b hb q=>?_⟩;obtain⟨w,hw,rfl,hh,_⟩:=fw.1 hb;have hi:x.a8[w].Intact=true:=by
   unfold fu at hh;rw[zp,zp] at hh;exact hh.1.1
  have:=((hS.cl w hw).2.2.2.2 hi).2;rw[za9] at this;exact this (iy.2 ⟨a,ha,q.1,q.2⟩)
 have:=wH (m:=lv x.S) htd λt ht=>by
  rcases zt.1 ht with q | q
  .rcases (hS.tk t q).2.2 with c | c
   .exact .inl ⟨c.1,c.2.1⟩
   .exact .inr c
  .obtain⟨w,hw,rfl,_,_⟩:=fw.1 q;exact .inr ⟨rfl,by dsimp only;omega,by dsimp only;omega⟩
 omega
section
variable{x:Hp}(hB:HB x)
include hB
end
structure Cc (x y:Hp):Prop where
 lv:∀h∈lv y.S,h∈lv x.S
 Z4:y.S.Serial=x.S.Serial
 len:y.S.S.a8.length=x.S.S.a8.length
 ob:∀h∈Sh.lv y.S,(ob y.S h).Serial=(ob x.S h).Serial/\(Sh.ob y.S h).Prog=(Sh.ob x.S h).Prog/\(Sh.ob y.S h).Fields=(Sh.ob x.S h).Fields/\((Sh.ob x.S h).Started=true->(Sh.ob y.S h).Started=true)
 rt:y.Roots=x.Roots
 cn:y.a8.length=x.a8.length
 cl:∀i (h:i<y.a8.length) (h':i<x.a8.length),y.a8[i]=⟨x.a8[i].Target,x.a8[i].Intact&&decide (x.a8[i].Target∈Sh.lv y.S),x.a8[i].Call⟩
 q:∃l,y.Q=⟨x.Q.L++l,x.Q.Cap⟩/\(∀t∈l,t.Kind=1->t.At∈Sh.lv x.S/\(Sh.ob x.S t.At).Started=false)/\∀h∈Sh.lv y.S,(Sh.ob y.S h).Started=true->(Sh.ob x.S h).Started=false->∃t∈l,t.Kind=1/\t.At=h
 rc:∀h,aN x.S x.T (ow x) h->aN y.S y.T (ow y) h
 has:∀k v,Has y.T k v->Has x.T k v
theorem Cc.refl{x:Hp}(hx:iR x):Cc x x:=by
 refine⟨λ_ h=>h,rfl,rfl,λh _=>⟨rfl,rfl,rfl,id⟩,rfl,rfl,λi h h'=>?_,⟨[],by simp,by simp,λh _ a b=>?_⟩,λ_ h=>h,λ_ _ h=>h⟩
 .have:=(hx.cl i h).2.2.2.2;cases hI:x.a8[i].Intact;·rw[zbe,<-hI]
  .rw[zu (this hI).1,zb8,<-hI]
 .rw[a] at b;cases b
theorem Cc.trans{x y z:Hp}(a:Cc x y)(b:Cc y z):Cc x z:=by
 obtain⟨l1,q1,q2,q3⟩:=a.q;obtain⟨l2,r1,r2,r3⟩:=b.q;refine⟨λh hh=>a.lv h (b.lv h hh),b.Z4.trans a.Z4,b.len.trans a.len,λh hh=>?_,b.rt.trans a.rt,b.cn.trans a.cn,λi h h'=>?_,⟨l1++l2,?_,λt ht hk=>?_,λh hh s1 s2=>?_⟩,λh hh=>b.rc h (a.rc h hh),λk v hh=>a.has k v (b.has k v hh)⟩
 .obtain⟨b1,b2,b3,b4⟩:=b.ob h hh;obtain⟨a1,a2,a3,a4⟩:=a.ob h (b.lv h hh);exact⟨b1.trans a1,b2.trans a2,b3.trans a3,λq=>b4 (a4 q)⟩
 .have hy:i<y.a8.length:=by rw[a.cn];exact h'
  rw[b.cl i h hy,a.cl i hy h'];dsimp only;congr 1;rw[Bool.and_assoc];congr 1;by_cases q:x.a8[i].Target∈Sh.lv z.S
  .rw[zu q,zu (b.lv _ q)];rfl
  .rw[zI q,Bool.and_false]
 .rw[r1,q1,zad]
 .rcases zt.1 ht with q | q
  .exact q2 t q hk
  .obtain⟨e1,e2⟩:=r2 t q hk;refine⟨a.lv _ e1,?_⟩;cases hs:(Sh.ob x.S t.At).Started;·rfl
   .rw[(a.ob _ e1).2.2.2 hs] at e2;cases e2
 .cases hs:(Sh.ob y.S h).Started
  .obtain⟨t,ht,e⟩:=r3 h hh s1 hs;exact⟨t,zao _ ht,e⟩
  .obtain⟨t,ht,e⟩:=q3 h (b.lv h hh) hs s2;exact⟨t,qr _ ht,e⟩
theorem HU(s:a7)(h:Int)(o:k9):(bR s h o).S.a8.length=s.S.a8.length:=K8 ..
theorem PK{x:Hp}(hx:L5 x){z:Int}(hz:z∈lv x.S)(hs:(ob x.S z).Started=false):Cc x (fK x z):=by
 have hR:=hx.sh.sr;obtain⟨k,e1,e2,e3,e4⟩:=kN hR hz;have l1:=AY hR hz;have hob:∀h∈lv x.S,(ob (fK x z).S h).Serial=(ob x.S h).Serial/\(ob (fK x z).S h).Prog=(ob x.S h).Prog/\(ob (fK x z).S h).Fields=(ob x.S h).Fields/\((ob (fK x z).S h).Started=true↔(ob x.S h).Started=true\/h=z):=λh hh=>by
  obtain⟨n,e⟩:=vU hR hz hh;rw[e];by_cases q:h=z
  .subst q;rw[zb rfl];exact⟨rfl,rfl,rfl,by simp⟩
  .rw[za q];exact⟨rfl,rfl,rfl,by simp[q]⟩
 have hot:∀h∈ow x,h∈ow (fK x z):=λh hh=>by
  unfold ow at hh |-;rw[e1,e4];rcases zt.1 hh with q | q
  .exact qr _ q
  .refine zao _ ?_;obtain⟨t,ht,a,b⟩:=qI.1 q;exact qI.2 ⟨t,qr _ ht,a,b⟩
 have rf:=Cc.refl hx.sh;refine⟨λh hh=>by rw[l1] at hh;exact hh,k.Z4,k.len.trans (HU ..),λh hh=>?_,e1,by rw[e2],λi h h'=>?_,⟨[tq x z],by rw[e4],λt ht hk=>?_,λh hh s1 s2=>?_⟩,λh hh=>?_,λk v hh=>by rw[e3] at hh;exact hh⟩
 .rw[l1] at hh;obtain⟨a,b,c,d⟩:=hob h hh;exact⟨a,b,c,λq=>d.2 (.inl q)⟩
 .have e5:(fK x z).a8[i]=x.a8[i]:=by simp only[e2]
  rw[e5,l1];exact rf.cl i h' h'
 .rw[zJ] at ht;subst ht;exact⟨hz,hs⟩
 .rw[l1] at hh;rcases (hob h hh).2.2.2.1 s1 with q | q
  .rw[q] at s2;cases s2
  .exact⟨tq x z,List.mem_singleton_self _,rfl,q.symm⟩
 .induction hh with
  | base h1 h2=>exact .base (hot _ h1) (by rw[l1];exact h2)
  | step h0 h1 h2 ih=>
   refine .step ih ?_ (by rw[l1];exact h2);unfold outs at h1 |-;rw[(hob _ h0.live).2.2.1];exact h1
  | pair h1 h0 h2 ih=>exact .pair (by rw[e3];exact h1) ih (by rw[l1];exact h2)
theorem Ox{x:Hp}(hx:L5 x){z:Int}(hz:z∈zr x):Cc x (eI x [z]):=by
 have hR:=hx.sh.sr;have hzl:=(bz.1 hz).1;have h0:z≠0:=λe=>ou hR (e▸hzl);have hfree:=BS hx hz;have hn:([z]:List Int).Nodup:=by simp
 have hm:∀d ∈ [z],d∈lv x.S:=by simpa using hzl
 have g:=cc [z] hR hn hm;have k:=(gp ([z].flatMap (outs x.S)++(lu x.T [z]).2) (x:=gC x [z] (lu x.T [z]).1) g.sr).1;obtain⟨e1,e2,e3,e4⟩:=pY hR hn hm;obtain⟨_,w2,_,_,w5,w6⟩:=gB hx.sh.hr [z] (by simp);have l1:∀h,h∈lv (eI x [z]).S↔h∈lv x.S/\h≠z:=λh=>by
  rw[Ez hR hn hm,zm,zx,zJ]
 have hob:∀h∈lv (eI x [z]).S,(ob (eI x [z]).S h).Serial=(ob x.S h).Serial/\(ob (eI x [z]).S h).Prog=(ob x.S h).Prog/\(ob (eI x [z]).S h).Fields=(ob x.S h).Fields/\(ob (eI x [z]).S h).Started=(ob x.S h).Started:=λh hh=>by
  obtain⟨a,b⟩:=(l1 h).1 hh;obtain⟨n,e⟩:=EA hR hn hm a (by simpa using b);rw[e];exact⟨rfl,rfl,rfl,rfl⟩
 refine⟨λh hh=>((l1 h).1 hh).1,k.Z4.trans g.Z4,k.len.trans g.len,λh hh=>?_,e1,by rw[e2];simp[ta],λi h h'=>?_,⟨oG x.a8 [z],by rw[e4],λt ht hk=>?_,λh hh s1 s2=>?_⟩,λh hh=>?_,λk v hh=>?_⟩
 .obtain⟨a,b,c,d⟩:=hob h hh;exact⟨a,b,c,λq=>d.trans q⟩
 .have e5:(eI x [z]).a8[i]=mb [z] x.a8[i]:=by
   simp only[e2];exact wl _
  rw[e5];have hc:=(hx.sh.cl i h').2.2.2.2;unfold mb fu;cases hI:x.a8[i].Intact;·rw[za (by simp),zbe,<-hI]
  .have ht:=(hc hI).1;have ht0:x.a8[i].Target≠0:=λe=>ou hR (e▸ht);by_cases q:x.a8[i].Target=z
   .rw[zb (by simp[q,h0]),zI (λr=>((l1 _).1 r).2 q)];rfl
   .rw[za (by simp[q]),zu ((l1 _).2 ⟨ht,q⟩),zb8,<-hI]
 .obtain⟨w,hw,rfl,_,_⟩:=fw.1 ht;simp at hk
 .rw[(hob h hh).2.2.2,s2] at s1;cases s1
 .unfold ov at hfree;have key:aN (eI x [z]).S (eI x [z]).T (ow (eI x [z])) h/\h≠z:=by
   induction hh with
   | base h1 h2=>
    rename_i a;have hne:a≠z:=λe=>by
     subst e;exact DS h0 (by omega:X6 (ow x) a=0) h1
    refine⟨.base ?_ ((l1 _).2 ⟨h2,hne⟩),hne⟩;unfold ow at h1 |-;rw[e1,e4,vA _ _ _ λt ht=>by
     obtain⟨w,_,rfl,_⟩:=fw.1 ht;simp]
    exact h1
   | step q0 q1 q2 ih=>
    rename_i a b;have hne:b≠z:=λe=>by
     subst e;have:=AG (y:=b) q0.live;have h1:=cM.2 ⟨h0,q1⟩;omega
    refine⟨.step ih.1 ?_ ((l1 _).2 ⟨q2,hne⟩),hne⟩;unfold outs at q1 |-;rw[(hob _ ((l1 _).2 ⟨q0.live,ih.2⟩)).2.2.1];exact q1
   | pair q1 q0 q2 ih=>
    rename_i a b;have hne:b≠z:=λe=>by
     subst e;have:=AU q1 h0;omega
    exact⟨.pair (by rw[e3];exact (w5 _ _).2 ⟨by simpa using ih.2,q1⟩) ih.1 ((l1 _).2 ⟨q2,hne⟩),hne⟩
  exact key.1
 .rw[e3] at hh;exact ((w5 _ _).1 hh).2
theorem Qm{x:Hp}(hx:L5 x):Cc x (HZ x):=by
 cases h:zr x with
 | nil=>rw[nV h];exact Cc.refl hx.sh
 | cons z l=>
  have hz:z∈zr x:=by rw[h];exact zk ..
  rw[gx h];split
  .rename_i q;unfold due at q;rw[zp,zx,zb4] at q;exact PK hx (bz.1 hz).1 q.2
  .exact Ox hx hz
theorem Ql{x:Hp}(hx:L5 x)(n:Nat):Cc x (tS n x):=by
 induction n with
 | zero=>exact Cc.refl hx.sh
 | succ n ih=>rw[cL];exact ih.trans (Qm (az hx n))
theorem na{x:Hp}(hx:L5 x):Cc x (bS x):=Ql hx 100
section
variable{x:Hp}(hB:HB x)
include hB
end
structure Ks (s s':a7):Prop where
 sr:SR s'
 Z4:s'.Serial=s.Serial
 lv:lv s'=lv s
 ob:∀h∈Sh.lv s,(ob s' h).Serial=(ob s h).Serial
theorem Ks.refl{s:a7}(hR:SR s):Ks s s:=⟨hR,rfl,rfl,λ_ _=>rfl⟩
theorem Ks.trans{a b c:a7}(h:Ks a b)(q:Ks b c):Ks a c:=⟨q.sr,q.Z4.trans h.Z4,q.lv.trans h.lv,λk hk=>(q.ob k (by rw[h.lv];exact hk)).trans (h.ob k hk)⟩
theorem tF.ks{s s':a7}(hR:SR s)(k:tF s s'):Ks s s':=⟨k.sr,k.Z4,k.lv,λh hh=>by
 obtain⟨n,e⟩:=k.ob h (by have:=F6 hR hh;omega);rw[e]⟩
theorem Kn.ks{s s':a7}(k:Kn s s')(e:s'.Serial=s.Serial):Ks s s':=⟨k.sr,e,k.lv,λh hh=>by
 obtain⟨n,m,e⟩:=k.ob h hh;rw[e]⟩
theorem Ua{s:a7}(hR:SR s){h:Int}(hh:h∈lv s){o:k9}(hs:o.Serial=(ob s h).Serial)(ho:xi s o):Ks s (bR s h o):=⟨aL hR hh hs ho,rfl,eX hR hh hs ho,λk hk=>by
 rw[dz hR hh hs ho (by have:=F6 hR hk;omega)];split;·rename_i e;subst e;exact hs
 .rfl⟩
theorem Bs{x:Hp}(hR:SR x.S)(h:Int):Ks x.S (B2 x h).S:=(E5 hR h λc=>C5).ks hR
theorem Bo{x:Hp}(hR:SR x.S)(h:Int):Ks x.S (O9 x h).S:=(E5 hR h λc=>M0).ks hR
theorem wv(x:Hp)(h:Int):(O9 x h).Roots=x.Roots/\(O9 x h).a8=x.a8/\(O9 x h).T=x.T/\(O9 x h).Q=x.Q:=wG x h iY
theorem aY{x:Hp}(hR:SR x.S)(r:Nat)(h:Int):Ks x.S (E4 x r h).S:=
 (Bs hR h).trans (Bo (x:=wR (B2 x h) (x.Roots.set r h)) (eW hR h) _)
theorem xR{x:Hp}(hR:SR x.S){h:Int}(hh:h∈lv x.S){n:Nat}(hn:n<(ob x.S h).Fields.length)(v:Int):Ks x.S (bl x h n v).S:=by
 have k1:=Bs hR v;have hh1:h∈lv (B2 x v).S:=by rw[k1.lv];exact hh
 have hof:(ob (B2 x v).S h).Fields=(ob x.S h).Fields:=by
  obtain⟨n,e⟩:=(E5 hR v (f:=T0) λc=>C5).ob h (by have:=F6 hR hh;omega);show (ob (ru x v T0).S h).Fields=_;rw[e]
 have ho:xi (B2 x v).S (ny (ob (B2 x v).S h) ((ob x.S h).Fields.set n v)):=by
  have:=I3 k1.sr hh1;refine⟨this.s1,this.s2,this.st,this.wk,this.p1,this.p2,?_⟩;have h4:=this.fl;rw[hof] at h4;simpa using h4
 have k2:=Ua (o:=ny (ob (B2 x v).S h) ((ob x.S h).Fields.set n v)) k1.sr hh1 rfl ho;exact (k1.trans k2).trans (Bo (x:=wS (B2 x v) (bR (B2 x v).S h (ny (ob (B2 x v).S h) ((ob x.S h).Fields.set n v)))) k2.sr _)
theorem mh(x:Hp)(h:Int)(n:Nat)(v:Int):(bl x h n v).Roots=x.Roots/\(bl x h n v).a8=x.a8/\(bl x h n v).T=x.T/\(bl x h n v).Q=x.Q:=by
 obtain⟨a,b,c,d⟩:=wv (wS (B2 x v) (bR (B2 x v).S h (ny (ob (B2 x v).S h) ((ob x.S h).Fields.set n v)))) ((ob x.S h).Fields.getD n 0);obtain⟨a',b',c',d'⟩:=jw x v;exact⟨a.trans a',b.trans b',c.trans c',d.trans d'⟩
theorem De{x:Hp}(hR:SR x.S)(v:Int)(t:Tb)(old:Int):Ks x.S (jj x v t old).S:=
 (Bs hR v).trans (Bo (x:=wT (B2 x v) t) (eW hR v) old)
theorem pA(x:Hp)(v:Int)(t:Tb)(old:Int):(jj x v t old).Roots=x.Roots/\(jj x v t old).a8=x.a8/\(jj x v t old).T=t/\(jj x v t old).Q=x.Q:=by
 obtain⟨a,b,c,d⟩:=wv (wT (B2 x v) t) old;obtain⟨a',b',c',d'⟩:=jw x v;exact⟨a.trans a',b.trans b',c,d.trans d'⟩
theorem SD{s:a7}(hR:SR s){i:Nat}(hi:i<s.S.a8.length)(h2:(ce s i).State=2):Ks s (xZ s i):=⟨AB hR hi,rfl,Az hR hi h2,λh hh=>by rw[AA hR hi h2 hh]⟩
theorem SW{x:Hp}(hR:SR x.S)(h:Int){d:Int}(hd:V6 x.S h (C0 h)->0<=(ce x.S (C0 h)).Val.Weak+d):Ks x.S (jg x h d).S:=by
 unfold jg;split
 .rename_i q;exact (kD hR q.1 q.2.1 (hd q)).ks rfl
 .exact Ks.refl hR
theorem LH(x:Hp)(h d:Int):(jg x h d).Roots=x.Roots/\(jg x h d).a8=x.a8/\(jg x h d).T=x.T/\(jg x h d).Q=x.Q:=by
 unfold jg;split <;> exact⟨rfl,rfl,rfl,rfl⟩
theorem JB(x:Hp)(h:Int):(ni x h).Roots=x.Roots/\(ni x h).a8=x.a8/\(ni x h).T=x.T/\(ni x h).Q=x.Q:=by
 unfold ni;split;·split <;> exact⟨rfl,rfl,rfl,rfl⟩
 .exact⟨rfl,rfl,rfl,rfl⟩
theorem Ig{x:Hp}(hR:SR x.S)(h:Int)(hd:V6 x.S h (C0 h)->1<=(ce x.S (C0 h)).Val.Weak):Ks x.S (ni x h).S:=by
 unfold ni;split
 .rename_i q;have hd:=hd q;have kn:=kD (d:=-1) hR q.1 q.2.1 (by omega);split
  .rename_i c;have hi1:C0 h<(nC x.S (C0 h) (-1)).S.a8.length:=by rw[kn.len];exact q.1
   have hce:ce (nC x.S (C0 h) (-1)) (C0 h)=⟨(ce x.S (C0 h)).State,(ce x.S (C0 h)).Gen,UB (ce x.S (C0 h)).Val ((ce x.S (C0 h)).Val.Weak + -1)⟩:=by
    rw[eR hR q.1 q.2.1,zb rfl]
   have h2:(ce (nC x.S (C0 h) (-1)) (C0 h)).State=2:=by rw[hce];exact c.1
   exact (kn.ks rfl).trans (SD kn.sr hi1 h2)
  .exact kn.ks rfl
 .exact Ks.refl hR
theorem DX{x:Hp}(hx:L5 x){n:Nat}(hn:n<6)(h call:Int):Ks x.S (da x n h call).S:=by
 have hR:=hx.sh.sr;have hnl:n<x.a8.length:=by have:=hx.sh.c6;omega
 have ok:∀k i,V6 x.S k i->0<=(ce x.S i).Val.Weak:=λk i q=>(hR.ok i q.1 q.2.1).wk;have tw:∀i,V6 x.S (rv x n) i->1<=(ce x.S i).Val.Weak:=λi q=>by
  have htg:rv x n=x.a8[n].Target:=by
   unfold rv;rw[zd,zc hnl];rfl
  have r:=q.MI hR;have p:=qJ hnl (by rw[<-htg];omega);rw[<-htg,q.2.2] at p;have:=(hx.wk i q.1 q.2.1).1;omega
 unfold da;have s1:Ks x.S (jg (wC x (x.a8.set n (iw h call))) h 1).S:=SW (x:=wC x (x.a8.set n (iw h call))) hR h λq=>by
  have:=ok _ _ q;dsimp only;omega
 by_cases q:V6 x.S h (C0 h)
 .have e:jg (wC x (x.a8.set n (iw h call))) h 1=wS (wC x (x.a8.set n (iw h call))) (nC x.S (C0 h) 1):=by
   unfold jg;rw[zb q]
  have hd:=ok _ _ q;have kn:=kD (d:=1) hR q.1 q.2.1 (by omega);rw[e] at s1 |-;refine s1.trans (Ig (x:=wS (wC x (x.a8.set n (iw h call))) (nC x.S (C0 h) 1)) kn.sr _ λq2=>?_);dsimp only at q2 |-;have q3:=(kn.ad _ _).1 q2;have:=tw _ q3;rw[eR hR q.1 q.2.1];split
  .rename_i e2;rw[e2] at this;show 1<=(ce x.S (C0 h)).Val.Weak+1;omega
  .exact this
 .have e:jg (wC x (x.a8.set n (iw h call))) h 1=wC x (x.a8.set n (iw h call)):=by
   unfold jg;rw[za q]
  rw[e] at s1 |-;exact s1.trans (Ig (x:=wC x (x.a8.set n (iw h call))) hR _ λq2=>tw _ q2)
theorem wV(x:Hp)(n:Nat)(h call:Int):(da x n h call).Roots=x.Roots/\(da x n h call).a8=x.a8.set n (iw h call)/\(da x n h call).T=x.T/\(da x n h call).Q=x.Q:=by
 obtain⟨a,b,c,d⟩:=JB (jg (wC x (x.a8.set n (iw h call))) h 1) (rv x n);obtain⟨a',b',c',d'⟩:=LH (wC x (x.a8.set n (iw h call))) h 1;exact⟨a.trans a',b.trans b',c.trans c',d.trans d'⟩
abbrev Wo(s:a7)(n:Nat)(p:Int):k9:=⟨s.Serial+1,0,0,p,false,List.replicate n 0⟩
def dO(s:a7)(i n:Nat)(p:Int):a7:=⟨⟨s.S.a8.set i ⟨1,(ce s i).Gen,Wo s n p⟩,s.S.Last⟩,s.Serial+1⟩
section
variable{s:a7}(hR:SR s){i:Nat}(hi:i<s.S.a8.length)(h0:(ce s i).State=0){n:Nat}(hn:n<=4){p:Int}(hp : -1<=p/\p<=5)
include hR hi h0 hn hp
theorem iK:(dO s i n p).S.a8.length=s.S.a8.length:=by simp[dO]
theorem lE(j:Nat):ce (dO s i n p) j=if j=i then ⟨1,(ce s i).Gen,Wo s n p⟩ else ce s j:=jb hi _ _ j
theorem CY:SR (dO s i n p):=by
 have hser:=hR.Z4;have hc:=hR.cell i hi;have hnt:¬Th (ce s i):=λh=>by
  rcases h with h | h <;> omega
 refine⟨by rw[iK hR hi h0 hn hp];exact hR.len,hR.l0,hR.l9,by show 0<=s.Serial+1;omega,λj hj=>?_,λj hj ht=>?_,λj hj ht=>?_,λj k hj hk a b e=>?_⟩
 .rw[iK hR hi h0 hn hp] at hj;rw[lE hR hi h0 hn hp];split;·exact⟨show (0:Int)<=1 by decide,show (1:Int)<=3 by decide,hc.2.2.1,hc.2.2.2⟩
  .exact hR.cell j hj
 .rw[iK hR hi h0 hn hp] at hj;rw[lE hR hi h0 hn hp] at ht |-;split at ht;·exact absurd (.inl rfl) ht
  .rename_i e;rw[za e];exact hR.no j hj ht
 .rw[iK hR hi h0 hn hp] at hj;rw[lE hR hi h0 hn hp] at ht |-;split at ht
  .rename_i e;rw[zb e];exact⟨by show 1<=s.Serial+1;omega,pm _,pm 0,pm 0,hp.1,hp.2,by simpa using hn⟩
  .rename_i e;rw[za e];have:=hR.ok j hj ht;exact⟨this.s1,by show _<=s.Serial+1;have:=this.s2;omega,this.st,this.wk,this.p1,this.p2,this.fl⟩
 .rw[iK hR hi h0 hn hp] at hj hk;rw[lE hR hi h0 hn hp] at a e;rw[lE hR hi h0 hn hp] at b e;have old:∀m,m<s.S.a8.length->Th (ce s m)->(ce s m).Val.Serial≠s.Serial+1:=λm hm t q=>by
   have:=(hR.ok m hm t).s2;omega
  by_cases ej:j=i <;> by_cases ek:k=i
  .rw[ej,ek]
  .rw[za ek] at b e;rw[zb ej] at e;exact absurd e.symm (old k hk b)
  .rw[za ej] at a e;rw[zb ek] at e;exact absurd e (old j hj a)
  .rw[za ej] at a e;rw[za ek] at b e;exact hR.dif j k hj hk a b e
theorem Fc{k:Int}{j:Nat}(q:V6 s k j):j≠i:=λe=>by
 subst e;rcases q.2.1 with h | h <;> omega
theorem SV{k:Int}{j:Nat}:V6 (dO s i n p) k j↔V6 s k j\/(j=i/\k=cS s i):=by
 unfold V6;rw[iK hR hi h0 hn hp,lE hR hi h0 hn hp];by_cases e:j=i
 .rw[zb e];subst e;constructor
  .rintro⟨a,b,c⟩;exact .inr ⟨rfl,c⟩
  .rintro (⟨a,b,c⟩ | ⟨_,c⟩);·exact absurd rfl (Fc hR hi h0 hn hp ⟨a,b,c⟩)
   .exact⟨hi,.inl rfl,c⟩
 .rw[za e];constructor;·exact .inl
  .rintro (h | ⟨h,_⟩);·exact h
   .exact absurd h e
theorem Hm:lv (dO s i n p)=lv s ++ [cS s i]:=by
 have e:=Fb (s:=s) (r9.2 hR) hi (by rw[<-D3 hi];exact h0) (Wo s n p) rfl (cq (r9.2 hR));unfold dO;rw[show (ce s i).Gen=s.S.a8[i].Gen by rw[D3 hi]];have e2:cS s i=1+(i:Int)+32*s.S.a8[i].Gen:=by unfold cS;rw[D3 hi]
 rw[e2];have:=cq (r9.2 (by have:=CY hR hi h0 hn hp;unfold dO at this;rw[show (ce s i).Gen=s.S.a8[i].Gen by rw[D3 hi]] at this;exact this));rw[e] at this;exact (zac this).symm
theorem LF:cS s i∉lv s:=λh=>by
 obtain⟨j,q⟩:=(dX hR).1 h;have:i=j:=by
  have a:=q.2.2;have b:=q.1;unfold cS at a;have:=hR.len;omega
 subst this;have:=q.2.1;omega
theorem ym{k:Int}(hk:k∈lv s):ob (dO s i n p) k=ob s k:=by
 obtain⟨j,q⟩:=(dX hR).1 hk;have hj:=Fc hR hi h0 hn hp q.d;have q2:At (dO s i n p) k j:=by
  refine⟨by rw[iK hR hi h0 hn hp];exact q.1,?_,?_⟩ <;> rw[lE hR hi h0 hn hp,za hj]
  .exact q.2.1
  .exact q.2.2
 rw[N5 (CY hR hi h0 hn hp) q2,N5 hR q,lE hR hi h0 hn hp,za hj]
theorem sn:ob (dO s i n p) (cS s i)=Wo s n p:=by
 have q2:At (dO s i n p) (cS s i) i:=by
  refine⟨by rw[iK hR hi h0 hn hp];exact hi,?_,?_⟩ <;> rw[lE hR hi h0 hn hp,zb rfl]
  rfl
 rw[N5 (CY hR hi h0 hn hp) q2,lE hR hi h0 hn hp,zb rfl]
end
theorem Ic{l:List Int}{h:Int}(e:h∉l):X6 l h=0:=Nat.eq_zero_of_not_pos λq=>e (cM.1 q).2
theorem LG{x:Hp}(hx:L5 x){i:Nat}(hi:i<x.S.S.a8.length)(h0:(ce x.S i).State=0){n:Nat}(hn:n<=4){p:Int}(hp : -1<=p/\p<=5):L5 (wS x (dO x.S i n p)):=by
 have hR:=hx.sh.sr;have hS:=CY hR hi h0 hn hp;have hl:=Hm hR hi h0 hn hp;have hnew:=LF hR hi h0 hn hp;have mem:∀ {k},k∈lv x.S->k∈lv (dO x.S i n p):=λhk=>by rw[hl];exact qr _ hk
 have mem0:∀ {k},k=0\/k∈lv x.S->k=0\/k∈lv (dO x.S i n p):=λhk=>hk.imp id mem;have hpos:=um hR hi;have split:∀ {k},k∈lv (dO x.S i n p)->k∈lv x.S\/k=cS x.S i:=λhk=>by
  rw[hl] at hk;rcases zt.1 hk with q | q
  .exact .inl q
  .exact .inr (zJ.1 q)
 have rep:∀v∈List.replicate n (0:Int),v=0:=λv hv=>(zbc.1 hv).2;have ntgt:∀j (hj:j<x.a8.length),x.a8[j].Target≠cS x.S i:=λj hj e=>by
  obtain⟨q,hq⟩:=(hx.sh.cl j hj).2.2.2.1 (by rw[e];omega);rw[e] at hq;have:q=i:=by
   have a:=hq.2.2;have b:=hq.1;unfold cS at a;have:=hR.len;omega
  exact Fc hR hi h0 hn hp hq this
 refine⟨⟨hS,hx.sh.hr,hx.sh.r6,hx.sh.c6,hx.sh.cap,hx.sh.q30,λt ht=>?_,hx.sh.td,λh hh=>mem0 (hx.sh.rt h hh),λh hh v hv=>?_,λk v hk=>?_,λj hj=>?_⟩,λj hj ht=>?_,λh hh hs=>?_⟩
 .obtain⟨a,b,c⟩:=hx.sh.tk t ht;refine⟨a,b,c.imp (λ⟨d,e,f⟩=>⟨d,mem e,?_⟩) id⟩;show (ob (dO x.S i n p) t.At).Started=true;rw[ym hR hi h0 hn hp e];exact f
 .rcases split hh with q | q
  .have hv':v∈(ob (dO x.S i n p) h).Fields:=hv;rw[ym hR hi h0 hn hp q] at hv';exact mem0 (hx.sh.fl h q v hv')
  .subst q;have hv':v∈(ob (dO x.S i n p) (cS x.S i)).Fields:=hv;rw[sn hR hi h0 hn hp] at hv';exact .inl (rep v hv')
 .obtain⟨a,b⟩:=hx.sh.pr k v hk;exact⟨mem a,mem b⟩
 .obtain⟨a,b,c,d,e⟩:=hx.sh.cl j hj;refine⟨a,b,c,λq=>?_,λq=>⟨mem (e q).1,(e q).2⟩⟩;obtain⟨m,hm⟩:=d q;exact⟨m,(SV hR hi h0 hn hp).2 (.inl hm)⟩
 .have hj':j<x.S.S.a8.length:=by have:j<(dO x.S i n p).S.a8.length:=hj;rwa [iK hR hi h0 hn hp] at this
  show (ce (dO x.S i n p) j).Val.Weak=(BW x.a8 (1+(j:Int)+32*(ce (dO x.S i n p) j).Gen):Int)/\_;have ht':Th (ce (dO x.S i n p) j):=ht;rw[lE hR hi h0 hn hp] at ht' |-;by_cases e:j=i
  .subst e;rw[zb rfl];refine⟨?_,λq=>absurd (show (1:Int)=2 from q) (by decide)⟩;show (0:Int)=(BW x.a8 (cS x.S j):Int);have:BW x.a8 (cS x.S j)=0:=by
    unfold BW;rw[List.countP_eq_zero];intro c hc;obtain⟨m,hm,rfl⟩:=zaz hc;have:=ntgt m hm;simp[this]
   rw[this];rfl
  .rw[za e] at ht' |-;exact hx.wk j hj' ht'
 .have hinn:∀y,gU (dO x.S i n p) y=gU x.S y:=λy=>by
   unfold gU;rw[hl,my,List.sum_append];have e1:(lv x.S).map (λk=>X6 (outs (dO x.S i n p) k) y)=(lv x.S).map λk=>X6 (outs x.S k) y:=zC λk hk=>by
    unfold outs;rw[ym hR hi h0 hn hp hk]
   rw[e1];have e2:outs (dO x.S i n p) (cS x.S i) = []:=by
    refine zah.2 λv hv=>?_;have h1:=kI.1 hv;rw[sn hR hi h0 hn hp] at h1;exact h1.2 (rep v h1.1)
   simp[e2,O7]
  have hnm:∀y,ov (wS x (dO x.S i n p)) y=ov x y:=λy=>by
   unfold ov;show gU (dO x.S i n p) y+own x.T y+X6 (ow x) y=_;rw[hinn]
  rw[hnm];have hs':(ob (dO x.S i n p) h).Strong<12:=hs;show (ob (dO x.S i n p) h).Strong=_;rcases split hh with q | q
  .rw[ym hR hi h0 hn hp q] at hs' |-;exact hx.fair h q hs'
  .subst q;rw[sn hR hi h0 hn hp];have h1:ov x (cS x.S i)=0:=by
    unfold ov;have a1:gU x.S (cS x.S i)=0:=by
     unfold gU;have:=BE (λk=>X6 (outs x.S k) (cS x.S i)) 0 (lv x.S) λk hk=>Nat.le_of_eq<|Ic λq=>by
      have q2:=kI.1 q;rcases hx.sh.fl k hk _ q2.1 with e | e
      .exact q2.2 e
      .exact hnew e
     omega
    have a2:own x.T (cS x.S i)=0:=by
     unfold own;rw[List.countP_eq_zero];intro c hc;have:=(hx.sh.pr _ _ (fy.1 hc)).2;have hne:c.Val≠cS x.S i:=λe=>hnew (e▸this);simp[hne]
    have a3:X6 (ow x) (cS x.S i)=0:=Ic λq=>by
     unfold ow at q;rcases zt.1 q with q | q
     .have q2:=kI.1 q;rcases hx.sh.rt _ q2.1 with e | e
      .exact q2.2 e
      .exact hnew e
     .obtain⟨t,ht,k1,k2⟩:=qI.1 q;rcases (hx.sh.tk t ht).2.2 with ⟨_,b,_⟩ | ⟨b,_⟩;·exact hnew (k2▸b)
      .omega
    omega
   rw[h1,O7];rfl
structure Ev (x y:Hp):Prop where
 lv:∀h∈lv y.S,(h∈Sh.lv x.S/\(ob y.S h).Serial=(ob x.S h).Serial)\/(h∉Sh.lv x.S/\(ob y.S h).Serial=x.S.Serial+1)
 s1:x.S.Serial<=y.S.Serial
 s2:y.S.Serial<=x.S.Serial+1
theorem Ev.refl(x:Hp):Ev x x:=⟨λh hh=>.inl ⟨hh,rfl⟩,by omega,by omega⟩
theorem Ks.ev{x y:Hp}(k:Ks x.S y.S):Ev x y:=⟨λh hh=>by
 rw[k.lv] at hh;exact .inl ⟨hh,k.ob h hh⟩,by rw[k.Z4];omega,by rw[k.Z4];omega⟩
theorem Ev.ks{x y z:Hp}(e:Ev x y)(k:Ks y.S z.S):Ev x z:=⟨λh hh=>by
 rw[k.lv] at hh;rw[k.ob h hh];exact e.lv h hh,by rw[k.Z4];exact e.s1,by rw[k.Z4];exact e.s2⟩
theorem Ev.Xz{x y z:Hp}(e:Ev x y)(s:Cc y z):Ev x z:=⟨λh hh=>by
 rw[(s.ob h hh).1];exact e.lv h (s.lv h hh),by rw[s.Z4];exact e.s1,by rw[s.Z4];exact e.s2⟩
theorem Vp{x:Hp}(hx:L5 x){i:Nat}(hi:i<x.S.S.a8.length)(h0:(ce x.S i).State=0){n:Nat}(hn:n<=4){p:Int}(hp : -1<=p/\p<=5):Ev x (wS x (dO x.S i n p)):=⟨λh hh=>by
 have hR:=hx.sh.sr;have hh':h∈lv (dO x.S i n p):=hh;show (_/\(ob (dO x.S i n p) h).Serial=_)\/_/\(ob (dO x.S i n p) h).Serial=_;rw[Hm hR hi h0 hn hp] at hh';rcases zt.1 hh' with q | q
 .exact .inl ⟨q,by rw[ym hR hi h0 hn hp q]⟩
 .rw[zJ.1 q];exact .inr ⟨LF hR hi h0 hn hp,by rw[sn hR hi h0 hn hp]⟩,by show _<=x.S.Serial+1;omega,pm _⟩
def Cw(x y:Hp)(w:Int):Prop:=∀i:Nat,(i:Int)≠w->(y.a8.getD i cz).Target=(x.a8.getD i cz).Target/\((y.a8.getD i cz).Intact=true->(x.a8.getD i cz).Intact=true)
theorem Cw.refl(x:Hp)(w:Int):Cw x x w:=λi _=>⟨rfl,id⟩
theorem Cw.same{x y:Hp}(h:y.a8=x.a8)(w:Int):Cw x y w:=λi _=>by rw[h];exact⟨rfl,id⟩
theorem Cw.trans{x y z:Hp}{w:Int}(a:Cw x y w)(b:Cw y z w):Cw x z w:=λi hi=>⟨(b i hi).1.trans (a i hi).1,λq=>(a i hi).2 ((b i hi).2 q)⟩
theorem Cc.cw{x y:Hp}(s:Cc x y)(w:Int):Cw x y w:=λi _=>by
 by_cases h:i<x.a8.length
 .have h':i<y.a8.length:=by rw[s.cn];exact h
  rw[GW h,GW h',s.cl i h' h];exact⟨rfl,λq=>(zp _ _▸q).1⟩
 .have h':¬i<y.a8.length:=by rw[s.cn];exact h
  rw[zd,zd,so (by omega),so (by omega)];exact⟨rfl,id⟩
theorem Cw.set{x y:Hp}{w:Nat}{c:c7}(h:y.a8=x.a8.set w c):Cw x y w:=λi hi=>by
 rw[h,zd,zd,List.getElem?_set_ne (by omega)];exact⟨rfl,id⟩
def UE(s:a7)(i:Nat):Prop:=i<s.S.a8.length/\(ce s i).State=0/\∀j,j<i->(ce s j).State≠0
theorem Vm{s:a7}(hR:SR s)(hb:s.Serial<9223372036854775807)(a p:Int) :
  (¬(0<=a/\a<=4)/\Q8 s a p=some (s,0,1)) \/
  ((0<=a/\a<=4)/\¬(-1<=p/\p<=5)/\Q8 s a p=some (s,0,13)) \/
  ((0<=a/\a<=4)/\(-1<=p/\p<=5)/\(∀i,i<s.S.a8.length->(ce s i).State≠0)/\Q8 s a p=some (s,0,4)) \/
  ((0<=a/\a<=4)/\(-1<=p/\p<=5)/\∃i,UE s i/\Q8 s a p=some (dO s i a.toNat p,cS s i,0)):=by
 have hs':=hR.Z4;have hR':=r9.2 hR;unfold Q8 BK;by_cases ha:0<=a/\a<=4
 .right;obtain⟨ha1,ha2⟩:=ha;obtain⟨n,rfl⟩:∃n:Nat,a=n:=⟨a.toNat,by omega⟩;rw[za (by simp;omega),lF (by omega) (by omega)];simp only[XB];by_cases hp : -1<=p/\p<=5
  .right;unfold P5;simp only[XB];have e1:(decide (p >= -1)&&decide (p<6))=true:=by simp;omega
   rw[e1];have hl:Xj s.S:=⟨cI hR',hR'.l0,hR'.l9,λi hi=>Bq hR' i hi⟩;rcases BG hl ⟨s.Serial+1,0,0,p,false,List.replicate n 0⟩ with ⟨i,hi,h0,hf,e⟩ | ⟨hf,e⟩
   .right;refine⟨⟨ha1,ha2⟩,hp,i,⟨hi,by rw[D3 hi];exact h0,λj hj=>by rw[D3 (by omega)];exact hf j hj⟩,?_⟩;simp only[zas,zi,zV,Bool.not_true];rw[show u4 (s.Serial+1)=s.Serial+1 from D1 (by omega) (by omega),e];unfold dO cS;rw[D3 hi];simp
   .left;refine⟨⟨ha1,ha2⟩,hp,λi hi=>by rw[D3 hi];exact hf i hi,?_⟩;simp only[zas,zi,zV,Bool.not_true];rw[show u4 (s.Serial+1)=s.Serial+1 from D1 (by omega) (by omega),e];simp
  .left;refine⟨⟨ha1,ha2⟩,hp,?_⟩;unfold P5;simp only[XB];have e1:(decide (p >= -1)&&decide (p<6))=false:=by rw[za9];simp;omega
   rw[e1];simp
 .left;refine⟨ha,?_⟩;rw[zb (by simp;omega)];simp
def sd(x:Hp)(r:Int):Int:=if r<0 then 0 else x.Roots.getD r.toNat 0
def uf(x:Hp)(r:Int):Int × Int:=if sd x r=0 then (0,2) else (sd x r,0)
def Z4(x:Hp)(h:Int):Int:=(ob x.S h).Serial
theorem ya{n l m e:Int}(he:e≠0)(h:K6 n l m e=0):l<=n/\n<=m:=by
 unfold K6 at h;split at h;·exact absurd h he
 .omega
theorem EO{a b c:Int}(h:aC a b c=0):a=0/\b=0/\c=0:=by
 unfold aC at h;split at h;·contradiction
 .split at h;·contradiction
  .omega
theorem Hf{k a b c:Int}(h:A2 k a b c=0):1<=k/\k<=12:=by
 refine Decidable.byContradiction λq=>?_;have:A2 k a b c=14:=by
  unfold A2;repeat rw[za (by omega)]
 omega
theorem Ws{a b c:Int}(h:A2 1 a b c=0):(0<=a/\a<=5)/\(0<=b/\b<=4) /\ -1<=c/\c<=5:=by
 obtain⟨h1,h2,h3⟩:=EO (show aC (K6 a 0 5 6) (K6 b 0 4 1) (K6 c (-1) 5 13)=0 from h);exact⟨ya (by decide) h1,ya (by decide) h2,ya (by decide) h3⟩
theorem Sa{a b c:Int}(h:A2 2 a b c=0):(0<=a/\a<=5)/\(0<=b/\b<=5):=by
 obtain⟨h1,h2,_⟩:=EO (show aC (K6 a 0 5 6) (K6 b 0 5 6) 0=0 from h);exact⟨ya (by decide) h1,ya (by decide) h2⟩
theorem Wt{a b c:Int}(h:A2 3 a b c=0):0<=a/\a<=5:=ya (by decide) (show K6 a 0 5 6=0 from h)
theorem Wu{a b c:Int}(h:A2 4 a b c=0):(0<=a/\a<=5)/\(0<=b/\b<=5)/\0<=c/\c<=3:=by
 obtain⟨h1,h2,h3⟩:=EO (show aC (K6 a 0 5 6) (K6 b 0 5 6) (K6 c 0 3 5)=0 from h);exact⟨ya (by decide) h1,ya (by decide) h2,ya (by decide) h3⟩
theorem Wv{a b c:Int}(h:A2 5 a b c=0):(0<=a/\a<=5)/\(0<=b/\b<=3) /\ -1<=c/\c<=5:=by
 obtain⟨h1,h2,h3⟩:=EO (show aC (K6 a 0 5 6) (K6 b 0 3 5) (K6 c (-1) 5 6)=0 from h);exact⟨ya (by decide) h1,ya (by decide) h2,ya (by decide) h3⟩
theorem Ww{a b c:Int}(h:A2 6 a b c=0):(0<=a/\a<=5)/\(-1<=b/\b<=5) /\ -1<=c/\c<=5:=by
 obtain⟨h1,h2,h3⟩:=EO (show aC (K6 a 0 5 7) (K6 b (-1) 5 6) (K6 c (-1) 5 13)=0 from h);exact⟨ya (by decide) h1,ya (by decide) h2,ya (by decide) h3⟩
theorem Wx{a b c:Int}(h:A2 7 a b c=0):(0<=a/\a<=5)/\(0<=b/\b<=5):=by
 obtain⟨h1,h2,_⟩:=EO (show aC (K6 a 0 5 6) (K6 b 0 5 7) 0=0 from h);exact⟨ya (by decide) h1,ya (by decide) h2⟩
theorem Wy{a b c:Int}(h:A2 8 a b c=0):(0<=a/\a<=5)/\(-1<=b/\b<=5):=by
 obtain⟨h1,h2,_⟩:=EO (show aC (K6 a 0 5 6) (K6 b (-1) 5 6) 0=0 from h);exact⟨ya (by decide) h1,ya (by decide) h2⟩
theorem Wz{a b c:Int}(h:A2 9 a b c=0):(0<=a/\a<=5)/\(0<=b/\b<=5):=Sa (show A2 2 a b c=0 from h)
theorem UP{a b c:Int}(h:A2 10 a b c=0):(0<=a/\a<=5)/\(0<=b/\b<=5):=Sa (show A2 2 a b c=0 from h)
section
variable{x:Hp}(hx:iR x)
include hx
theorem tx{r:Int}(h:0<=r/\r<=5):ix x.Roots r=some (sd x r):=by
 have:=hx.r6;obtain⟨n,rfl⟩:∃n:Nat,r=n:=⟨r.toNat,by omega⟩;have hn:n<x.Roots.length:=by omega
 rw[o0 hn];unfold sd;rw[za (by omega),zQ,zd,zc hn];rfl
theorem wB{r:Int}(h:¬(0<=r/\r<=5)):sd x r=0:=by
 have:=hx.r6;unfold sd;split;·rfl
 .rw[zd,so (by omega)];rfl
theorem tz(r:Int):sd x r=0\/sd x r∈lv x.S:=by
 by_cases h:0<=r/\r<=5
 .have e:=tx hx h;unfold ix at e;rw[zb h.1] at e;exact hx.rt _ (zj e)
 .exact .inl (wB hx h)
theorem tA(r:Int):sd x r<=9223372036854775807:=by
 rcases tz hx r with h | h
 .omega
 .have:=F6 hx.sr h;omega
theorem kX(r:Int):J4 x r=some (sd x r):=by
 have h6:=hx.r6;unfold J4;by_cases h:0<=r/\r<=5
 .rw[za (by simp;omega),tx hx h];rfl
 .rw[zb (by simp;omega),wB hx h]
theorem MP{r:Int}(h:r<=5):js (hO x) r=some (sd x r):=by
 unfold js;by_cases q:r<0
 .rw[zb (by simpa using q),wB hx (by omega)]
 .rw[za (by simpa using q),show (hO x).Roots=x.Roots from rfl,tx hx (by omega)];rfl
theorem jh(r:Int):K2 x r=some (uf x r):=by
 unfold K2 uf;rw[kX hx,XB];by_cases h:sd x r=0
 .rw[zb (by simpa using h),zb h]
 .rw[za (by simpa using h),za h]
theorem pX{r:Int}(h:0<=r/\r<=5):W2 (hO x) r=some (uf x r):=by
 unfold W2 uf;rw[show (hO x).Roots=x.Roots from rfl,tx hx h,XB];by_cases h:sd x r=0
 .rw[zb (by simpa using h),zb h]
 .rw[za (by simpa using h),za h]
theorem MT{h:Int}(hh:h<=9223372036854775807):Z0 x h=some (Z4 x h):=by
 obtain⟨e,h1,_⟩:=Q2 (r9.2 hx.sr) hh;unfold Z0;rw[h1];rfl
theorem MS{h:Int}(hh:h<=9223372036854775807):dv (hO x) h=some (Z4 x h):=by
 obtain⟨e,h1,_⟩:=Q2 (r9.2 hx.sr) hh;unfold dv;rw[show (hO x).S=sO x.S from rfl,ja x.S (by have:=hx.sr.len;omega) hh,h1];rfl
theorem GM(r:Int):bp x r=some (Z4 x (sd x r)):=by
 unfold bp;rw[kX hx,XB,MT hx (tA hx r)];rfl
theorem HV:Z4 x 0=0:=by
 unfold Z4;rw[oT (r9.2 hx.sr) (by omega) (ou hx.sr)]
theorem UN(r:Int):sG (hO x) r=some (Z4 x (sd x r)):=by
 unfold sG;by_cases h:0<=r/\r<=5
 .rw[za (by simp;omega),show (hO x).Roots=x.Roots from rfl,tx hx h,XB,MS hx (tA hx r)];rfl
 .rw[zb (by simp;omega),wB hx h,HV hx]
end
theorem Uc{x z:Hp}(hx:iR x)(k:Ks x.S z.S){h:Int}(hh:h=0\/h∈lv x.S):Z4 z h=Z4 x h:=by
 rcases hh with e | e
 .subst e;unfold Z4;rw[oT (r9.2 hx.sr) (by omega) (ou hx.sr),oT (r9.2 k.sr) (by omega) (ou k.sr)]
 .exact k.ob h e
theorem Qc{x z:Hp}(h:z.Roots=x.Roots)(r:Int):sd z r=sd x r:=by unfold sd;rw[h]
noncomputable def xm(x:Hp)(o:c9)(v:Hp × Int):Option (Hp × Int × Int):=
 if (v.2 != 0) then some (x,0,v.2) else (M8 v.1).bind λv5=>(T2 v.1 v5 o).bind λv6=>some (v5,v6,0)
theorem oK{x:Hp}{o:c9}{n:Option Nat}(hc:A2 o.Kind o.A o.B o.C=0)(hk:∃l,dM=some l/\A6 l o.Kind=some n):s6 x o=(uk n ⟨x,o⟩).bind (xm x o):=by
 obtain⟨l,h1,h2⟩:=hk;unfold s6;rw[ma,hc,XB,za (by simp),h1,XB,h2,za (by simp)];rfl
theorem KH{x:Hp}{o:c9}(hc:A2 o.Kind o.A o.B o.C≠0):s6 x o=some (x,0,A2 o.Kind o.A o.B o.C)/\B9 (hO x) ⟨o.Kind,o.A,o.B,o.C⟩=some (hO x,0,A2 o.Kind o.A o.B o.C):=by
 constructor
 .unfold s6;rw[ma,XB,zb (by simpa using hc)]
 .unfold B9;rw[gN,XB,zb (by simpa using hc)]
section
variable{x:Hp}{a b c:Int}
theorem WA(hc:A2 1 a b c=0):s6 x ⟨1,a,b,c⟩=(R1 ⟨x,⟨1,a,b,c⟩⟩).bind (xm x ⟨1,a,b,c⟩):=oK (o:=⟨1,a,b,c⟩) (n:=some 151) hc ⟨_,rfl,rfl⟩
theorem WB(hc:A2 2 a b c=0):s6 x ⟨2,a,b,c⟩=(G6 ⟨x,⟨2,a,b,c⟩⟩).bind (xm x ⟨2,a,b,c⟩):=oK (o:=⟨2,a,b,c⟩) (n:=some 152) hc ⟨_,rfl,rfl⟩
theorem WC(hc:A2 3 a b c=0):s6 x ⟨3,a,b,c⟩=(X9 ⟨x,⟨3,a,b,c⟩⟩).bind (xm x ⟨3,a,b,c⟩):=oK (o:=⟨3,a,b,c⟩) (n:=some 153) hc ⟨_,rfl,rfl⟩
theorem WD(hc:A2 4 a b c=0):s6 x ⟨4,a,b,c⟩=(Y0 ⟨x,⟨4,a,b,c⟩⟩).bind (xm x ⟨4,a,b,c⟩):=oK (o:=⟨4,a,b,c⟩) (n:=some 154) hc ⟨_,rfl,rfl⟩
theorem WG(hc:A2 5 a b c=0):s6 x ⟨5,a,b,c⟩=(U8 ⟨x,⟨5,a,b,c⟩⟩).bind (xm x ⟨5,a,b,c⟩):=oK (o:=⟨5,a,b,c⟩) (n:=some 155) hc ⟨_,rfl,rfl⟩
theorem WH(hc:A2 6 a b c=0):s6 x ⟨6,a,b,c⟩=(R2 ⟨x,⟨6,a,b,c⟩⟩).bind (xm x ⟨6,a,b,c⟩):=oK (o:=⟨6,a,b,c⟩) (n:=some 156) hc ⟨_,rfl,rfl⟩
theorem WI(hc:A2 7 a b c=0):s6 x ⟨7,a,b,c⟩=(V3 ⟨x,⟨7,a,b,c⟩⟩).bind (xm x ⟨7,a,b,c⟩):=oK (o:=⟨7,a,b,c⟩) (n:=some 157) hc ⟨_,rfl,rfl⟩
theorem WJ(hc:A2 8 a b c=0):s6 x ⟨8,a,b,c⟩=(Y1 ⟨x,⟨8,a,b,c⟩⟩).bind (xm x ⟨8,a,b,c⟩):=oK (o:=⟨8,a,b,c⟩) (n:=some 158) hc ⟨_,rfl,rfl⟩
theorem WK(hc:A2 9 a b c=0):s6 x ⟨9,a,b,c⟩=(aq ⟨x,⟨9,a,b,c⟩⟩).bind (xm x ⟨9,a,b,c⟩):=oK (o:=⟨9,a,b,c⟩) (n:=some 159) hc ⟨_,rfl,rfl⟩
theorem UX(hc:A2 10 a b c=0):s6 x ⟨10,a,b,c⟩=(N8 ⟨x,⟨10,a,b,c⟩⟩).bind (xm x ⟨10,a,b,c⟩):=oK (o:=⟨10,a,b,c⟩) (n:=some 160) hc ⟨_,rfl,rfl⟩
theorem Ah{k:Int}(hk:k=11\/k=12)(hc:A2 k a b c=0):s6 x ⟨k,a,b,c⟩=some (x,0,14)/\B9 (hO x) ⟨k,a,b,c⟩=some (hO x,0,14):=by
 constructor
 .unfold s6;rw[ma,hc,XB,za (by simp)];rcases hk with rfl | rfl <;> rfl
 .unfold B9 W1;rw[gN,hc,XB,za (by simp)];rcases hk with rfl | rfl <;> rfl
variable{y:g6}
def rT(y:g6)(a:Int)(v:Int × Int):Option (g6 × Int × Int):=
 if (v.2 != 0) then some (y,0,v.2) else (V4 y a v.1).bind λv15=>(O2 v15.1).bind λv16=>(sG v16 a).bind λv17=>some (v16,v17,0)
def rO(y:g6)(v:g6 × Int × Int):Option (g6 × Int × Int):=
 if (v.2.2 != 0) then some (y,0,v.2.2) else (O2 v.1).bind λv8=>(dv y v.2.1).bind λv9=>some (v8,v9,0)
theorem HH{k:Int}(hk:k=2\/k=3\/k=4\/k=7\/k=9)(hc:A2 k a b c=0):B9 y ⟨k,a,b,c⟩=(dw y ⟨k,a,b,c⟩).bind (rT y a):=by
 unfold B9 W1;rw[gN,hc,XB,za (by simp)];rcases hk with rfl | rfl | rfl | rfl | rfl <;> rfl
theorem HG{k:Int}(hk:k=5\/k=6\/k=8)(hc:A2 k a b c=0):B9 y ⟨k,a,b,c⟩=(bM y ⟨k,a,b,c⟩).bind (rO y):=by
 unfold B9 W1;rw[gN,hc,XB,za (by simp)];rcases hk with rfl | rfl | rfl <;> rfl
theorem VN(hc:A2 1 a b c=0):B9 y ⟨1,a,b,c⟩=(en y.S b c).bind λv10=>if (v10.2.2 != 0) then some (y,0,v10.2.2) else (V4 ⟨v10.1,y.Roots,y.a8,y.T,y.Q⟩ a v10.2.1).bind λv11=>(O2 v11.1).bind λv12=>(sG v12 a).bind λv13=>some (v12,v13,0):=by
 unfold B9 W1;rw[gN,hc,XB,za (by simp)];rfl
theorem TP(hc:A2 10 a b c=0):B9 y ⟨10,a,b,c⟩=(ix y.Roots a).bind λv3=>(ix y.Roots b).bind λv4=>if (v3==v4) then some (y,1,0) else some (y,0,0):=by
 unfold B9 W1;rw[gN,hc,XB,za (by simp)];rfl
end
section
variable{s:a7}(hR:SR s){i:Nat}(hi:i<s.S.a8.length)
include hR hi
theorem Un(st g:Int):br (sO s) ⟨(pl (sO s)).a8.set i ⟨st,g,0⟩,(pl (sO s)).Last⟩=some ⟨(sO s).a8.set i ⟨st,g,oo (ce s i).Val⟩,s.S.Last,s.Serial⟩:=by
 have hlen:=hR.len;have K1:i<(pl (sO s)).a8.length:=by rw[bq,A8];exact hi
 rw[wK _ _ (by rw[A8];omega) (by simp[bq])];congr 1;congr 1;refine za5 (by simp) λk h1 h2=>?_;have hk:k<s.S.a8.length:=by simpa[A8] using h1
 have hk2:k<(sO s).a8.length:=by rw[A8];exact hk
 have hk3:k<(pl (sO s)).a8.length:=by rw[bq];exact hk2
 simp only[wl,List.getElem_range,zbx];have e1:(sO s).a8.getD k ⟨0,0,oo z0⟩=cO (ce s k):=by
  rw[zd,zc hk2,D3 hk];simp[sO]
 have e2:((pl (sO s)).a8.set i ⟨st,g,0⟩).getD k ⟨0,0,0⟩=if k=i then ⟨st,g,0⟩ else xv k (cO (ce s k)):=by
  rw[jb K1];split;·rfl
  .rw[zd,zc hk3,D3 hk];simp[pl,sO]
 rw[e1,e2];by_cases e:k=i
 .subst e;rw[zb rfl,zb rfl];rfl
 .rw[za e,za (zal e)];rw[D3 hk];simp[sO,xv,cO]
theorem Uo(st g:Int)(o:B7):ep ⟨(sO s).a8.set i ⟨st,g,oo (ce s i).Val⟩,s.S.Last,s.Serial⟩ (i:Int) o=some ⟨(sO s).a8.set i ⟨st,g,o⟩,s.S.Last,s.Serial⟩:=by
 have hlen:=hR.len;unfold ep;have hi2:i<((sO s).a8.set i ⟨st,g,oo (ce s i).Val⟩).length:=by simp[A8];exact hi
 rw[I9 (by omega) (by simp[A8];omega),XB,o0 hi2,XB];simp[List.set_set]
theorem Mo:∃h:i<(pl (sO s)).a8.length,(pl (sO s)).a8[i]=⟨(ce s i).State,(ce s i).Gen,(i:Int)⟩:=by
 have K1:i<(pl (sO s)).a8.length:=by rw[bq,A8];exact hi
 refine⟨K1,?_⟩;rw[D3 hi];simp[pl,sO,xv,cO]
end
theorem Ul{s:a7}(hR:SR s):(∀i,i<s.S.a8.length->(ce s i).State≠0)->mG (pl (sO s)) 0=some (pl (sO s),0,4):=λhf=>by
 have hlen:=hR.len;have el:(pl (sO s)).a8.length=s.S.a8.length:=by rw[bq,A8]
 unfold mG;simp only[jn];refine T1 (pl (sO s)).a8.length (λk=>True) (by omega) trivial (λk hk _=>?_) (λhP=>⟨.inr (),by simp,rfl⟩);refine .inl ⟨?_,trivial⟩;obtain⟨h1,h2⟩:=Mo hR (show k<s.S.a8.length by omega);have:=hf k (by omega);simp only[zB,hk,zD,zH,o0 hk,XB];rw[h2,za (by simpa using this),k8]
theorem Qp{s:a7}(hR:SR s){i:Nat}(hF:UE s i):mG (pl (sO s)) 0=some (⟨(pl (sO s)).a8.set i ⟨1,(ce s i).Gen,0⟩,(pl (sO s)).Last⟩,cS s i,0):=by
 have hlen:=hR.len;have el:(pl (sO s)).a8.length=s.S.a8.length:=by rw[bq,A8]
 obtain⟨hi,h0,hmin⟩:=hF;have hc:=hR.cell i hi;have l9:=hR.l9;unfold mG;simp only[jn];refine T1 (pl (sO s)).a8.length (λk=>k<=i) (by omega) (by omega) (λk hk hP=>?_) (λhP=>by omega);obtain⟨h1,h2⟩:=Mo hR (show k<s.S.a8.length by omega);rcases zy k i with g | g
 .refine .inl ⟨?_,g⟩;have:=hmin k g;simp only[zB,hk,zD,zH,o0 hk,XB];rw[h2,za (by simpa using this),k8]
 .have:k=i:=by omega
  subst this;refine .inr ⟨.inl _,?_,rfl⟩;simp only[zB,hk,zD,zH,o0 hk,XB];rw[h2,zb (by simpa using h0)];have w3:∀c:E8,aW (pl (sO s)) (k:Int) c=some ⟨(pl (sO s)).a8.set k c,(pl (sO s)).Last⟩:=λc=>by
   unfold aW;rw[I9 (by omega) (by omega),XB,o0 hk,XB,zQ]
  rw[w3,XB,mD,zb (by dsimp only;omega),XB];rfl
theorem Vn{s:a7}(hR:SR s)(hb:s.Serial<9223372036854775807)(a p:Int) :
  (∃e,e≠0/\Q8 s a p=some (s,0,e)/\en (sO s) a p=some (sO s,0,e)) \/
  ((0<=a/\a<=4)/\(-1<=p/\p<=5)/\∃i,UE s i/\Q8 s a p=some (dO s i a.toNat p,cS s i,0)/\en (sO s) a p=some (sO (dO s i a.toNat p),cS s i,0)):=by
 have hser:=hR.Z4;have hlen:=hR.len;have r1:∀n:Nat,n<=4->uD (n:Int)=some (List.replicate n 0,0):=λn hn=>by
  unfold uD;rw[za (by simp;omega),lF (by omega) (by omega)];rfl
 rcases Vm hR hb a p with ⟨h1,e⟩ | ⟨h1,h2,e⟩ | ⟨h1,h2,h3,e⟩ | ⟨h1,h2,i,h3,e⟩
 .refine .inl ⟨1,by decide,e,?_⟩;unfold en uD;rw[zb (by simp;omega)];rfl
 .refine .inl ⟨13,by decide,e,?_⟩;obtain⟨n,rfl⟩:∃n:Nat,a=n:=⟨a.toNat,by omega⟩;unfold en;rw[r1 n (by omega),XB,za (by simp),zb (by simp;omega)]
 .refine .inl ⟨4,by decide,e,?_⟩;obtain⟨n,rfl⟩:∃n:Nat,a=n:=⟨a.toNat,by omega⟩;unfold en;rw[r1 n (by omega),XB,za (by simp),za (by simp;omega),ig _ (by rw[A8];omega),XB,Ul hR h3,XB,zb (by simp)]
 .refine .inr ⟨h1,h2,i,h3,e,?_⟩;obtain⟨n,rfl⟩:∃n:Nat,a=n:=⟨a.toNat,by omega⟩;have hi:=h3.1;have hc:=hR.cell i hi;have l9:=hR.l9;unfold en;rw[r1 n (by omega),XB,za (by simp),za (by simp;omega),ig _ (by rw[A8];omega),XB,Qp hR h3,XB,za (by simp),Un hR hi,XB,mF,zb (by unfold oA cS;dsimp only;omega),XB,
   show (cS s i-1) % 32=(i:Int) by unfold cS;omega,Uo hR hi,XB,D1 (by show _<=s.Serial+1;omega) (by show s.Serial+1<=_;omega)]
  unfold dO;rw[zQ];simp only[sO,zcc];rfl
abbrev LV(o:c9):H7:=⟨o.Kind,o.A,o.B,o.C⟩
structure Dn (x:Hp) (o:c9) (z:Hp) (v:Int):Prop where
 rt:L5 z
 sl:SL z
 ev:Ev x z
 cw:Cw x z (if o.Kind=6 then o.A else -1)
 mc:s6 x o=some (bS z,v,0)
 rf:B9 (hO x) (LV o)=some (hO (bS z),v,0)
def Er(x:Hp)(o:c9)(e:Int):Prop:=e≠0/\s6 x o=some (x,0,e)/\B9 (hO x) (LV o)=some (hO x,0,e)
theorem Vq{x:Hp}(hx:L5 x)(hS:SL x){i:Nat}(hi:i<x.S.S.a8.length)(h0:(ce x.S i).State=0){n:Nat}(hn:n<=4){p:Int}(hp : -1<=p/\p<=5):SL (wS x (dO x.S i n p)):=λk hk=>by
 have hR:=hx.sh.sr;have hk':k∈lv (dO x.S i n p):=hk;show (ob (dO x.S i n p) k).Strong<=_;rw[Hm hR hi h0 hn hp] at hk';rcases zt.1 hk' with q | q
 .rw[ym hR hi h0 hn hp q];exact hS k q
 .rw[zJ.1 q,sn hR hi h0 hn hp];show (0:Int)<=_;decide
theorem nO{y:Hp}(hy:L5 y){a:Int}(ha:0<=a/\a<=5){h:Int}(hh:h=0\/h∈lv y.S):sd (bS (E4 y a.toNat h)) a=h/\Z4 (bS (E4 y a.toNat h)) h=Z4 y h:=by
 have hz:=Z3 hy (r:=a.toNat) (by omega) hh;have st:=na hz;have w:=dA hz;have e1:(bS (E4 y a.toNat h)).Roots=y.Roots.set a.toNat h:=st.rt.trans (gr y a.toNat h).1;have h6:=hy.sh.r6;have e2:sd (bS (E4 y a.toNat h)) a=h:=by
  unfold sd;rw[za (by omega),e1,zd,List.getElem?_set_self (by omega)];rfl
 refine⟨e2,?_⟩;have k:=aY hy.sh.sr a.toNat h;rcases tz w.sh a with q | q
 .rw[e2] at q;subst q;rw[HV w.sh,HV hy.sh]
 .rw[e2] at q;have h1:=(st.ob h q).1;have h2:=st.lv h q;rw[k.lv] at h2;exact h1.trans (k.ob h h2)
section
variable{x:Hp}{a b c:Int}
theorem ly{o:c9}{y:Hp}{e:Int}(he:e≠0):xm x o (y,e)=some (x,0,e):=by
 unfold xm;rw[zb (by simpa using he)]
theorem QJ{z:Hp}(hz:L5 z)(hS:SL z){k:Int}(hk:k≠5/\k≠6/\k≠8/\k≠10):xm x ⟨k,a,b,c⟩ (z,0)=some (bS z,Z4 (bS z) (sd (bS z) a),0):=by
 unfold xm T2;rw[za (by simp),fO hz hS,XB];simp only[jn];rw[za (by simp;omega),za (by simp;omega)];have:(k==8)=false:=by simp;omega
 rw[this,za (by simp),za (by simp;omega),GM (dA hz).sh];rfl
theorem Gb{o:c9}{v e:Int}(he:e≠0):A9 ⟨x,o⟩ v e=some (x,e):=by
 unfold A9;rw[zb (by simpa using he)]
theorem Mx{y:g6}{v e:Int}(he:e≠0):rT y a (v,e)=some (y,0,e):=by
 unfold rT;rw[zb (by simpa using he)]
theorem Jl{y z:g6}{v e:Int}(he:e≠0):rO y (z,v,e)=some (y,0,e):=by
 unfold rO;rw[zb (by simpa using he)]
variable(hx:L5 x)(hS:SL x)
include hx hS
theorem nW{k:Int}(ha:0<=a/\a<=5){h:Int}(hh:h=0\/h∈lv x.S):A9 ⟨x,⟨k,a,b,c⟩⟩ h 0=some (E4 x a.toNat h,0):=by
 unfold A9;rw[za (by simp),HO hx hS a (qE hx hS hh),za (by omega),zb hh];rfl
theorem VE(ha:0<=a/\a<=5){h:Int}(hh:h=0\/h∈lv x.S):rT (hO x) a (h,0)=some (hO (bS (E4 x a.toNat h)),Z4 x h,0):=by
 have hz:=Z3 hx (r:=a.toNat) (by omega) hh;have zS:=gu hx.sh.sr hS a.toNat h;obtain⟨e1,e2⟩:=nO hx ha hh;unfold rT;rw[za (by simp),FL hx hS a (qE hx hS hh),za (by omega),zb hh,XB,jz hz zS,XB,UN (dA hz).sh,e1,e2];rfl
theorem jE{k:Int}(hk:k=2\/k=3\/k=4\/k=7\/k=9)(hc:A2 k a b c=0)(ha:0<=a/\a<=5){h:Int}(hh:h=0\/h∈lv x.S)
  (h1:s6 x ⟨k,a,b,c⟩=xm x ⟨k,a,b,c⟩ (E4 x a.toNat h,0))(h2:dw (hO x) ⟨k,a,b,c⟩=some (h,0)):Dn x ⟨k,a,b,c⟩ (E4 x a.toNat h) (Z4 x h):=by
 have hz:=Z3 hx (r:=a.toNat) (by omega) hh;have zS:=gu hx.sh.sr hS a.toNat h;obtain⟨e1,e2⟩:=nO hx ha hh;refine⟨hz,zS,(aY hx.sh.sr a.toNat h).ev,Cw.same (gr x a.toNat h).2.1 _,?_,?_⟩;·rw[h1,QJ hz zS (by omega),e1,e2]
 .show B9 (hO x) ⟨k,a,b,c⟩=_;rw[HH hk hc,h2,XB,VE hx hS ha hh]
theorem d2(hc:A2 2 a b c=0):Dn x ⟨2,a,b,c⟩ (E4 x a.toNat (sd x b)) (Z4 x (sd x b)):=by
 obtain⟨ha,hb⟩:=Sa hc;refine jE hx hS (.inl rfl) hc ha (tz hx.sh b) ?_ ?_
 .rw[WB hc];unfold G6;rw[kX hx.sh,XB,nW hx hS ha (tz hx.sh b)];rfl
 .unfold dw;rw[zb (by rfl),show (hO x).Roots=x.Roots from rfl,tx hx.sh hb];rfl
theorem d3(hc:A2 3 a b c=0):Dn x ⟨3,a,b,c⟩ (E4 x a.toNat 0) 0:=by
 have ha:=Wt hc;have:=jE (b:=b) (c:=c) hx hS (.inr (.inl rfl)) hc ha (h:=0) (.inl rfl) ?_ ?_;·rwa [HV hx.sh] at this
 .rw[WC hc];unfold X9;rw[nW hx hS ha (.inl rfl)];rfl
 .rfl
theorem d4(hc:A2 4 a b c=0):(sd x b=0/\Er x ⟨4,a,b,c⟩ 2)\/(∃e,Z8 x.S (sd x b) c=some (0,e)/\Er x ⟨4,a,b,c⟩ e) \/
  (sd x b∈lv x.S/\∃n:Nat,c=n/\∃hn:n<(ob x.S (sd x b)).Fields.length,Dn x ⟨4,a,b,c⟩ (E4 x a.toNat (ob x.S (sd x b)).Fields[n]) (Z4 x (ob x.S (sd x b)).Fields[n])):=by
 obtain⟨ha,hb,_⟩:=Wu hc;have hm:s6 x ⟨4,a,b,c⟩=_:=WD hc;unfold Y0 at hm;rw[jh hx.sh,XB] at hm;have hr:B9 (hO x) ⟨4,a,b,c⟩=_:=HH (by omega) hc;have hnm:dw (hO x) ⟨4,a,b,c⟩=(W2 (hO x) b).bind λv2=>if (v2.2 != 0) then some (0,v2.2) else (fM (hO x).S v2.1 c).bind λv3=>some (v3.1,v3.2):=rfl
 rw[pX hx.sh hb,XB] at hnm;by_cases h0:sd x b=0
 .refine .inl ⟨h0,by decide,?_,?_⟩
  .rw[hm];unfold uf;rw[zb h0,zb (by simp),XB,ly (by decide)]
  .show B9 (hO x) ⟨4,a,b,c⟩=_;rw[hr,hnm];unfold uf;rw[zb h0,zb (by simp),XB,Mx (by decide)]
 .have has:uf x b=(sd x b,0):=by unfold uf;rw[za h0]
  rw[has,za (by simp)] at hm hnm;right;rcases tf hx hS (sd x b) c (tA hx.sh b) with ⟨e,he,f1,f2⟩ | ⟨hl,n,hn0,hn,f1,f2⟩
  .refine .inl ⟨e,f1,he,?_,?_⟩
   .rw[hm];dsimp only;rw[f1,XB,Gb he,XB,XB,ly he]
   .show B9 (hO x) ⟨4,a,b,c⟩=_;rw[hr,hnm];dsimp only;rw[show (hO x).S=sO x.S from rfl,f2,XB,XB,Mx he]
  .refine .inr ⟨hl,n,hn0,hn,?_⟩;have hv:=hx.sh.fl _ hl _ (zh hn);refine jE hx hS (by omega) hc ha hv ?_ ?_
   .rw[hm];dsimp only;rw[f1,XB,nW hx hS ha hv];rfl
   .rw[hnm];dsimp only;rw[show (hO x).S=sO x.S from rfl,f2];rfl
theorem OY{n:Nat}(hn:n<6):∃h:n<x.a8.length,jH x.a8 n=some (if x.a8[n].Target=0\/x.a8[n].Intact=false then (0,9) else (x.a8[n].Target,0))/\qR (hO x).a8 n=some (if x.a8[n].Target=0\/x.a8[n].Intact=false then (0,9) else (x.a8[n].Target,0)):=by
 have c6:=hx.sh.c6;have hl:n<x.a8.length:=by omega
 have hl2:n<(x.a8.map og).length:=by simp;exact hl
 refine⟨hl,?_,?_⟩
 .unfold jH jI;have:(decide ((n:Int)>=0)&&decide ((n:Int)<(x.a8.length:Int)))=true:=by simp;omega
  rw[this,XB,za (by simp),o0 hl,XB];by_cases q:x.a8[n].Target=0\/x.a8[n].Intact=false
  .rw[zb q,zb (by rcases q with q | q <;> simp[q])]
  .rw[za q,za (by simpa using q)]
 .unfold qR;show (if _ then _ else (ix (x.a8.map og) (n:Int)).bind _)=_;rw[za (by simp[hO];omega),o0 hl2,XB,wl];by_cases q:x.a8[n].Target=0\/x.a8[n].Intact=false
  .rw[zb q,zb (by rcases q with q | q <;> simp[og,q])]
  .rw[za q,za (by simpa[og] using q)];rfl
theorem d7(hc:A2 7 a b c=0):∃h:b.toNat<x.a8.length,((x.a8[b.toNat].Intact=false/\Er x ⟨7,a,b,c⟩ 9) \/
  (x.a8[b.toNat].Intact=true/\Dn x ⟨7,a,b,c⟩ (E4 x a.toNat x.a8[b.toNat].Target) (Z4 x x.a8[b.toNat].Target))):=by
 obtain⟨ha,hb⟩:=Wx hc;obtain⟨n,rfl⟩:∃n:Nat,b=n:=⟨b.toNat,by omega⟩;obtain⟨hl,l1,l2⟩:=OY hx hS (n:=n) (by omega);rw[zQ];refine⟨hl,?_⟩;have hm:s6 x ⟨7,a,n,c⟩=_:=WI hc;unfold V3 at hm;rw[show jH (p6.mk x ⟨7,a,n,c⟩).x.a8 (p6.mk x ⟨7,a,n,c⟩).o.B=_ from l1,XB] at hm;have hr:B9 (hO x) ⟨7,a,n,c⟩=_:=HH (by omega) hc;have hnm:dw (hO x) ⟨7,a,n,c⟩=(qR (hO x).a8 n).bind λv4=>some (v4.1,v4.2):=rfl;rw[l2,XB] at hnm;have cl:=hx.sh.cl n hl;cases hI:x.a8[n].Intact
 .left;rw[zb (.inr hI)] at hm hnm;refine⟨rfl,by decide,?_,?_⟩
  .rw[hm];dsimp only;rw[Gb (by decide),XB,XB];exact ly (e:=9) (by decide)
  .show B9 (hO x) ⟨7,a,n,c⟩=_;rw[hr,hnm,XB,Mx (by decide)]
 .right;have ht:=(cl.2.2.2.2 hI).1;have ht0:x.a8[n].Target≠0:=λe=>ou hx.sh.sr (e▸ht);rw[za (by simp[ht0,hI])] at hm hnm;refine⟨rfl,jE hx hS (by omega) hc ha (.inr ht) ?_ hnm⟩;rw[hm];dsimp only;rw[nW hx hS ha (.inr ht)];rfl
theorem d9(hc:A2 9 a b c=0):(sd x b=0/\Er x ⟨9,a,b,c⟩ 2)\/(sd x b∈lv x.S/\(∀v,¬Has x.T (sd x b) v)/\Er x ⟨9,a,b,c⟩ 9) \/
  (sd x b∈lv x.S/\∃v,Has x.T (sd x b) v/\Dn x ⟨9,a,b,c⟩ (E4 x a.toNat v) (Z4 x v)):=by
 obtain⟨ha,hb⟩:=Wz hc;have hT:=hx.sh.hr;have hm:s6 x ⟨9,a,b,c⟩=_:=WK hc;unfold aq at hm;rw[jh hx.sh,XB] at hm;have hr:B9 (hO x) ⟨9,a,b,c⟩=_:=HH (by omega) hc;have hnm:dw (hO x) ⟨9,a,b,c⟩=(W2 (hO x) b).bind λv2=>if (v2.2 != 0) then some (0,v2.2) else (uF (hO x).T v2.1).bind λv3=>some (v3.1,v3.2):=rfl
 rw[pX hx.sh hb,XB] at hnm;by_cases h0:sd x b=0
 .refine .inl ⟨h0,by decide,?_,?_⟩
  .rw[hm];unfold uf;rw[zb h0,zb (by simp),XB,ly (by decide)]
  .show B9 (hO x) ⟨9,a,b,c⟩=_;rw[hr,hnm];unfold uf;rw[zb h0,zb (by simp),XB,Mx (by decide)]
 .have has:uf x b=(sd x b,0):=by unfold uf;rw[za h0]
  have hl:=(tz hx.sh b).resolve_left h0;rw[has,za (by simp)] at hm hnm;dsimp only at hm hnm;have g2:uF (hO x).T (sd x b)=(K0 x.T (sd x b)).bind λv=>some (v.1,v.2):=by
   unfold uF;rw[show (hO x).T=x.T.map K1 from rfl,MD hT]
  unfold rQ at hm;rw[g2] at hnm;right;by_cases hv:∃v,Has x.T (sd x b) v
  .obtain⟨v,hv⟩:=hv;rw[GX hT hv] at hm hnm;refine .inr ⟨hl,v,hv,jE hx hS (by omega) hc ha (.inr (hx.sh.pr _ _ hv).2) ?_ hnm⟩;rw[hm,XB,XB];dsimp only;rw[nW hx hS ha (.inr (hx.sh.pr _ _ hv).2)];rfl
  .have hv':∀v,¬Has x.T (sd x b) v:=λv q=>hv ⟨v,q⟩;rw[IJ hT hv'] at hm hnm;refine .inl ⟨hl,hv',by decide,?_,?_⟩
   .rw[hm,XB,XB];dsimp only;rw[Gb (by decide),XB,XB];exact ly (e:=9) (by decide)
   .show B9 (hO x) ⟨9,a,b,c⟩=_;rw[hr,hnm,XB,XB,XB];exact Mx (e:=9) (by decide)
end
section
variable{x:Hp}{a b c:Int}
theorem UW{z:Hp}(hz:L5 z)(hS:SL z){k:Int}{r:Int}(hk:k=5/\r=c\/(k=6\/k=8)/\r=b):xm x ⟨k,a,b,c⟩ (z,0)=some (bS z,Z4 z (sd z r),0):=by
 unfold xm T2;rw[za (by simp),fO hz hS,XB];simp only[jn];rcases hk with ⟨rfl,rfl⟩ | ⟨rfl | rfl,rfl⟩
 .rw[zb (by rfl),GM hz.sh];rfl
 .rw[za (by decide),zb (by rfl),zb (by rfl),GM hz.sh];rfl
 .rw[za (by decide),za (by decide),zb (by rfl),GM hz.sh];rfl
variable(hx:L5 x)(hS:SL x)
include hx hS
theorem VD{z:Hp}(hz:L5 z)(zS:SL z){h:Int}(hh:h=0\/h∈lv x.S):rO (hO x) (hO z,h,0)=some (hO (bS z),Z4 x h,0):=by
 unfold rO;rw[za (by simp),jz hz zS,XB,MS hx.sh (qE hx hS hh)];rfl
theorem pz{z:Hp}(hz:L5 z)(zS:SL z)(k:Ks x.S z.S)(er:z.Roots=x.Roots){kd r:Int}(hk:kd=5/\r=c\/(kd=6\/kd=8)/\r=b)(hc:A2 kd a b c=0)(cw:Cw x z (if kd=6 then a else -1))
  (h1:s6 x ⟨kd,a,b,c⟩=xm x ⟨kd,a,b,c⟩ (z,0))(h2:bM (hO x) ⟨kd,a,b,c⟩=some (hO z,sd x r,0)):Dn x ⟨kd,a,b,c⟩ z (Z4 x (sd x r)):=by
 refine⟨hz,zS,k.ev,cw,?_,?_⟩;·rw[h1,UW hz zS hk,Qc er,Uc hx.sh k (tz hx.sh r)]
 .show B9 (hO x) ⟨kd,a,b,c⟩=_;rw[HG (by omega) hc,h2,XB,VD hx hS hz zS (tz hx.sh r)]
theorem d5(hc:A2 5 a b c=0):(sd x a=0/\Er x ⟨5,a,b,c⟩ 2)\/(∃e,dg x (sd x a) b (sd x c)=some (x,e)/\Er x ⟨5,a,b,c⟩ e) \/
  (sd x a∈lv x.S/\∃n:Nat,b=n/\n<(ob x.S (sd x a)).Fields.length/\Dn x ⟨5,a,b,c⟩ (bl x (sd x a) n (sd x c)) (Z4 x (sd x c))):=by
 obtain⟨ha,hb,hcc⟩:=Wv hc;have hm:s6 x ⟨5,a,b,c⟩=_:=WG hc;unfold U8 at hm;rw[jh hx.sh,XB] at hm;have hr:B9 (hO x) ⟨5,a,b,c⟩=_:=HG (by omega) hc;have hnm:bM (hO x) ⟨5,a,b,c⟩=(W2 (hO x) a).bind λv4=>if (v4.2 != 0) then some (hO x,0,v4.2) else (js (hO x) c).bind λv5=>(jr (hO x) v4.1 b v5).bind λv6=>some (v6.1,v5,v6.2):=rfl
 rw[pX hx.sh ha,XB,MP hx.sh (by omega)] at hnm;by_cases h0:sd x a=0
 .have has:uf x a=(0,2):=by unfold uf;rw[zb h0]
  rw[has,zb (by simp)] at hm hnm;refine .inl ⟨h0,by decide,?_,?_⟩
  .rw[hm,XB];exact ly (e:=2) (by decide)
  .show B9 (hO x) ⟨5,a,b,c⟩=_;rw[hr,hnm,XB];exact Jl (e:=2) (by decide)
 .have has:uf x a=(sd x a,0):=by unfold uf;rw[za h0]
  rw[has,za (by simp)] at hm hnm;dsimp only at hm hnm;rw[kX hx.sh,XB] at hm;rw[XB] at hnm;right;rcases KV hx hS (sd x a) b (sd x c) (tA hx.sh a) (tA hx.sh c) with ⟨e,he,f1,f2⟩ | ⟨hl,hv,n,hn0,hn,f1,f2⟩
  .refine .inl ⟨e,f1,he,?_,?_⟩;·rw[hm,f1,XB,XB,ly he]
   .show B9 (hO x) ⟨5,a,b,c⟩=_;rw[hr,hnm,f2,XB,XB,Jl he]
  .refine .inr ⟨hl,n,hn0,hn,pz hx hS (Ap hx hl hn hv) (IE hx.sh.sr hS hl _ _) (xR hx.sh.sr hl hn _) (mh _ _ _ _).1 (.inl ⟨rfl,rfl⟩) hc (Cw.same (mh _ _ _ _).2.1 _) ?_ ?_⟩
   .rw[hm,f1];rfl
   .rw[hnm,f2];rfl
theorem d6(hc:A2 6 a b c=0):(sd x b=0/\Er x ⟨6,a,b,c⟩ 2)\/(∃e,ao x a (sd x b) c=some (x,e)/\Er x ⟨6,a,b,c⟩ e) \/
  (JF x.Q a=false/\Dn x ⟨6,a,b,c⟩ (da x a.toNat (sd x b) c) (Z4 x (sd x b))):=by
 obtain⟨ha,hb,hcc⟩:=Ww hc;have hm:s6 x ⟨6,a,b,c⟩=_:=WH hc;unfold R2 at hm;have hr:B9 (hO x) ⟨6,a,b,c⟩=_:=HG (by omega) hc;have key:(s6 x ⟨6,a,b,c⟩=(((ao x a (sd x b) c).bind λv1=>some (v1.1,v1.2)).bind (xm x ⟨6,a,b,c⟩))/\bM (hO x) ⟨6,a,b,c⟩=(gk (hO x) a (sd x b) c).bind λv1=>some (v1.1,sd x b,v1.2))\/(sd x b=0/\Er x ⟨6,a,b,c⟩ 2):=by
  by_cases h1:b = -1
  .subst h1;left;rw[wB hx.sh (r:=-1) (by omega)];refine⟨?_,rfl⟩;rw[hm,zb (by rfl)]
  .rw[za (by simpa using h1),jh hx.sh,XB] at hm;have hnm:bM (hO x) ⟨6,a,b,c⟩=(W2 (hO x) b).bind λv4=>if (v4.2 != 0) then some (hO x,0,v4.2) else (gk (hO x) a v4.1 c).bind λv7=>some (v7.1,v4.1,v7.2):=by
    unfold bM;rw[za (by simp;omega)];rfl
   rw[pX hx.sh (by omega),XB] at hnm;by_cases h0:sd x b=0
   .have has:uf x b=(0,2):=by unfold uf;rw[zb h0]
    rw[has,zb (by simp)] at hm hnm;refine .inr ⟨h0,by decide,?_,?_⟩
    .rw[hm,XB];exact ly (e:=2) (by decide)
    .show B9 (hO x) ⟨6,a,b,c⟩=_;rw[hr,hnm,XB];exact Jl (e:=2) (by decide)
   .have has:uf x b=(sd x b,0):=by unfold uf;rw[za h0]
    rw[has,za (by simp)] at hm hnm;exact .inl ⟨hm,hnm⟩
 rcases key with ⟨hm,hnm⟩ | key
 .right;rcases Qz hx a (sd x b) c (tA hx.sh b) hcc with ⟨e,he,f1,f2⟩ | ⟨hh,n,rfl,hn,hw,f1,f2⟩
  .refine .inl ⟨e,f1,he,?_,?_⟩;·rw[hm,f1,XB,XB,ly he]
   .show B9 (hO x) ⟨6,a,b,c⟩=_;rw[hr,hnm,f2,XB,XB,Jl he]
  .rw[zQ];obtain⟨r1,r2,_,_⟩:=wV x n (sd x b) c;refine .inr ⟨hw,pz hx hS (DY hx hn hh hcc hw) (Nh hx hS hn _ _) (DX hx hn _ _) r1 (.inr ⟨.inl rfl,rfl⟩) hc (by rw[zb rfl];exact Cw.set r2) ?_ ?_⟩
   .rw[hm,f1];rfl
   .rw[hnm,f2];rfl
 .exact .inl key
theorem d8(hc:A2 8 a b c=0):(sd x a=0/\Er x ⟨8,a,b,c⟩ 2)\/(sd x a∈lv x.S/\∃e,fI x (sd x a) (sd x b)=some (x,e)/\Er x ⟨8,a,b,c⟩ e) \/
  (sd x a∈lv x.S/\∃r,R8 x.T (sd x a) (sd x b)=some r/\r.2.2=0/\Dn x ⟨8,a,b,c⟩ (jj x (sd x b) r.1 r.2.1) (Z4 x (sd x b))):=by
 obtain⟨ha,hb⟩:=Wy hc;have hm:s6 x ⟨8,a,b,c⟩=_:=WJ hc;unfold Y1 at hm;rw[jh hx.sh,XB] at hm;have hr:B9 (hO x) ⟨8,a,b,c⟩=_:=HG (by omega) hc;have hnm:bM (hO x) ⟨8,a,b,c⟩=(W2 (hO x) a).bind λv4=>if (v4.2 != 0) then some (hO x,0,v4.2) else (js (hO x) b).bind λv8=>(mL (hO x) v4.1 v8).bind λv9=>some (v9.1,v8,v9.2):=rfl
 rw[pX hx.sh ha,XB,MP hx.sh (by omega)] at hnm;by_cases h0:sd x a=0
 .have has:uf x a=(0,2):=by unfold uf;rw[zb h0]
  rw[has,zb (by simp)] at hm hnm;refine .inl ⟨h0,by decide,?_,?_⟩
  .rw[hm,XB];exact ly (e:=2) (by decide)
  .show B9 (hO x) ⟨8,a,b,c⟩=_;rw[hr,hnm,XB];exact Jl (e:=2) (by decide)
 .have has:uf x a=(sd x a,0):=by unfold uf;rw[za h0]
  have hl:=(tz hx.sh a).resolve_left h0;rw[has,za (by simp)] at hm hnm;dsimp only at hm hnm;rw[kX hx.sh,XB] at hm;rw[XB] at hnm;right;rcases PD hx hS (sd x a) (sd x b) (tA hx.sh a) (tA hx.sh b) with ⟨e,he,f1,f2⟩ | ⟨hl,hv,r,r1,r2,f1,f2⟩
  .refine .inl ⟨hl,e,f1,he,?_,?_⟩;·rw[hm,f1,XB,XB,ly he]
   .show B9 (hO x) ⟨8,a,b,c⟩=_;rw[hr,hnm,f2,XB,XB,Jl he]
  .refine .inr ⟨hl,r,r1,r2,pz hx hS (Df hx hl hv r1 r2) (Mi hx.sh.sr hS _ _ _) (De hx.sh.sr _ _ _) (pA _ _ _ _).1 (.inr ⟨.inr rfl,rfl⟩) hc (Cw.same (pA _ _ _ _).2.1 _) ?_ ?_⟩
   .rw[hm,f1];rfl
   .rw[hnm,f2];rfl
theorem d10(hz:zr x = [])(hc:A2 10 a b c=0):Dn x ⟨10,a,b,c⟩ x (if sd x a=sd x b then 1 else 0):=by
 obtain⟨ha,hb⟩:=UP hc;refine⟨hx,hS,Ev.refl x,Cw.refl x _,?_,?_⟩
 .rw[UX hc];unfold N8 xm T2;rw[XB,za (by simp),fO hx hS,XB];simp only[jn];rw[za (by decide),za (by decide),za (by decide),zb (by rfl),kX hx.sh,XB,kX hx.sh,XB];by_cases q:sd x a=sd x b
  .rw[zb (by simpa using q),zb q];rfl
  .rw[za (by simpa using q),za q];rfl
 .show B9 (hO x) ⟨10,a,b,c⟩=_;rw[TP hc,show (hO x).Roots=x.Roots from rfl,tx hx.sh ha,XB,tx hx.sh hb,XB,DJ hz];by_cases q:sd x a=sd x b
  .rw[zb (by simpa using q),zb q]
  .rw[za (by simpa using q),za q]
theorem d1(hb:x.S.Serial<9223372036854775807)(hc:A2 1 a b c=0):(∃e,Q8 x.S b c=some (x.S,0,e)/\Er x ⟨1,a,b,c⟩ e) \/
  (b.toNat<=4/\(-1<=c/\c<=5)/\∃i,UE x.S i/\Dn x ⟨1,a,b,c⟩ (E4 (wS x (dO x.S i b.toNat c)) a.toNat (cS x.S i)) (x.S.Serial+1)):=by
 obtain⟨ha,hbb,hcc⟩:=Ws hc;have hR:=hx.sh.sr;have hm:s6 x ⟨1,a,b,c⟩=_:=WA hc;unfold R1 at hm;dsimp only at hm;have hr:B9 (hO x) ⟨1,a,b,c⟩=_:=VN hc;rw[show (hO x).S=sO x.S from rfl] at hr;rcases Vn hR hb b c with ⟨e,he,f1,f2⟩ | ⟨_,_,i,hF,f1,f2⟩
 .refine .inl ⟨e,f1,he,?_,?_⟩;·rw[hm,f1,XB,zb (by simpa using he),XB,ly he]
  .show B9 (hO x) ⟨1,a,b,c⟩=_;rw[hr,f2,XB,zb (by simpa using he)]
 .refine .inr ⟨by omega,hcc,i,hF,?_⟩;obtain⟨hi,h0,_⟩:=hF;have hn:b.toNat<=4:=by omega
  have hy:=LG hx hi h0 hn hcc;have yS:=Vq hx hS hi h0 hn hcc;have hh:cS x.S i=0\/cS x.S i∈lv (wS x (dO x.S i b.toNat c)).S:=.inr (by
   show _∈lv (dO x.S i b.toNat c);rw[Hm hR hi h0 hn hcc];exact zao _ (zJ.2 rfl))
  have hz:=Z3 hy (r:=a.toNat) (by omega) hh;have zS:=gu hy.sh.sr yS a.toNat (cS x.S i);obtain⟨e1,e2⟩:=nO hy ha hh;have e3:Z4 (wS x (dO x.S i b.toNat c)) (cS x.S i)=x.S.Serial+1:=by
   show (ob (dO x.S i b.toNat c) (cS x.S i)).Serial=_;rw[sn hR hi h0 hn hcc]
  refine⟨hz,zS,(Vp hx hi h0 hn hcc).ks (aY hy.sh.sr a.toNat _),Cw.same (gr (wS x (dO x.S i b.toNat c)) a.toNat _).2.1 _,?_,?_⟩
  .rw[hm,f1,XB,za (by simp)];dsimp only;rw[show A9 ⟨⟨dO x.S i b.toNat c,x.Roots,x.a8,x.T,x.Q⟩,⟨1,a,b,c⟩⟩ (cS x.S i) 0=_ from nW hy yS ha hh,XB,XB,QJ hz zS (by omega),e1,e2,e3]
  .show B9 (hO x) ⟨1,a,b,c⟩=_;rw[hr,f2,XB,za (by simp)];dsimp only;rw[show V4 ⟨sO (dO x.S i b.toNat c),(hO x).Roots,(hO x).a8,(hO x).T,(hO x).Q⟩ a (cS x.S i)=_ from FL hy yS a (qE hy yS hh),za (by omega),zb hh,XB,jz hz zS,XB,UN (dA hz).sh,e1,e2,e3];rfl
end
theorem Sf{x:Hp}(hx:L5 x)(hS:SL x)(hz:zr x = [])(hb:x.S.Serial<9223372036854775807)(o:c9):(∃e,Er x o e)\/∃z v,Dn x o z v:=by
 obtain⟨k,a,b,c⟩:=o;by_cases hc:A2 k a b c=0
 .have:=Hf hc;have hk:k=1\/k=2\/k=3\/k=4\/k=5\/k=6\/k=7\/k=8\/k=9\/k=10\/k=11\/k=12:=by omega
  rcases hk with rfl | rfl | rfl | rfl | rfl | rfl | rfl | rfl | rfl | rfl | rfl | rfl
  .rcases d1 hx hS hb hc with ⟨e,_,h⟩ | ⟨_,_,i,_,h⟩;·exact .inl ⟨e,h⟩
   .exact .inr ⟨_,_,h⟩
  .exact .inr ⟨_,_,d2 hx hS hc⟩
  .exact .inr ⟨_,_,d3 hx hS hc⟩
  .rcases d4 hx hS hc with ⟨_,h⟩ | ⟨e,_,h⟩ | ⟨_,n,_,_,h⟩;·exact .inl ⟨_,h⟩
   .exact .inl ⟨_,h⟩
   .exact .inr ⟨_,_,h⟩
  .rcases d5 hx hS hc with ⟨_,h⟩ | ⟨e,_,h⟩ | ⟨_,n,_,_,h⟩;·exact .inl ⟨_,h⟩
   .exact .inl ⟨_,h⟩
   .exact .inr ⟨_,_,h⟩
  .rcases d6 hx hS hc with ⟨_,h⟩ | ⟨e,_,h⟩ | ⟨_,h⟩;·exact .inl ⟨_,h⟩
   .exact .inl ⟨_,h⟩
   .exact .inr ⟨_,_,h⟩
  .obtain⟨_,⟨_,h⟩ | ⟨_,h⟩⟩:=d7 hx hS hc;·exact .inl ⟨_,h⟩
   .exact .inr ⟨_,_,h⟩
  .rcases d8 hx hS hc with ⟨_,h⟩ | ⟨_,e,_,h⟩ | ⟨_,r,_,_,h⟩;·exact .inl ⟨_,h⟩
   .exact .inl ⟨_,h⟩
   .exact .inr ⟨_,_,h⟩
  .rcases d9 hx hS hc with ⟨_,h⟩ | ⟨_,_,h⟩ | ⟨_,v,_,h⟩;·exact .inl ⟨_,h⟩
   .exact .inl ⟨_,h⟩
   .exact .inr ⟨_,_,h⟩
  .exact .inr ⟨_,_,d10 hx hS hz hc⟩
  .obtain⟨h1,h2⟩:=Ah (x:=x) (a:=a) (b:=b) (c:=c) (.inl rfl) hc;exact .inl ⟨14,by decide,h1,h2⟩
  .obtain⟨h1,h2⟩:=Ah (x:=x) (a:=a) (b:=b) (c:=c) (.inr rfl) hc;exact .inl ⟨14,by decide,h1,h2⟩
 .obtain⟨h1,h2⟩:=KH (x:=x) (o:=⟨k,a,b,c⟩) hc;exact .inl ⟨_,hc,h1,h2⟩
noncomputable def xn(x:Hp)(o:c9):Hp × Int × Int:=(s6 x o).getD (x,0,0)
structure Uv (x:Hp) (o:c9) (y:Hp) (v e:Int):Prop where
 rt:L5 y
 sl:SL y
 zr:zr y = []
 ev:Ev x y
 cw:Cw x y (if o.Kind=6 then o.A else -1)
 er:e≠0->y=x/\v=0
 mc:s6 x o=some (y,v,e)
 rf:B9 (hO x) (LV o)=some (hO y,v,e)
theorem Dn.Xv{x z:Hp}{o:c9}{v:Int}(d:Dn x o z v):Uv x o (bS z) v 0:=by
 have st:=na d.rt;exact⟨dA d.rt,HX d.rt d.sl,yF d.rt,d.ev.Xz st,d.cw.trans (st.cw _),λh=>absurd rfl h,d.mc,d.rf⟩
theorem Pn{x:Hp}(hx:L5 x)(hS:SL x)(hz:zr x = [])(hb:x.S.Serial<9223372036854775807)(o:c9):∃y v e,Uv x o y v e:=by
 rcases Sf hx hS hz hb o with ⟨e,h1,h2,h3⟩ | ⟨z,v,d⟩;·exact⟨x,0,e,hx,hS,hz,Ev.refl x,Cw.refl x _,λ_=>⟨rfl,rfl⟩,h2,h3⟩
 .exact⟨_,_,_,d.Xv⟩
theorem kH{x:Hp}(hx:L5 x)(hS:SL x)(hz:zr x = [])(hb:x.S.Serial<9223372036854775807)(o:c9):Uv x o (xn x o).1 (xn x o).2.1 (xn x o).2.2:=by
 obtain⟨y,v,e,h⟩:=Pn hx hS hz hb o;have:xn x o=(y,v,e):=by unfold xn;rw[h.mc];rfl
 rw[this];exact h
noncomputable def runs(x:Hp)(l:List c9):Hp × List Int:=l.foldl (λp o=>((xn p.1 o).1,p.2 ++ [(xn p.1 o).2.1])) (x,[])
theorem nR(x:Hp)(l:List c9)(o:c9):runs x (l ++ [o])=((xn (runs x l).1 o).1,(runs x l).2 ++ [(xn (runs x l).1 o).2.1]):=by
 unfold runs;rw[za1];rfl
theorem DF{x:Hp}(hx:L5 x)(hS:SL x)(hz:zr x = [])(l:List c9)(hb:x.S.Serial+l.length<9223372036854775807)(P:Hp->Prop)(h0:P x)
  (hs:∀(y:Hp) (o:c9),o∈l->L5 y->Uv y o (xn y o).1 (xn y o).2.1 (xn y o).2.2->P y->P (xn y o).1):∀k,k<=l.length ->
  L5 (runs x (l.take k)).1/\SL (runs x (l.take k)).1/\zr (runs x (l.take k)).1 = []/\(runs x (l.take k)).1.S.Serial<=x.S.Serial+k/\(runs x (l.take k)).2.length=k/\P (runs x (l.take k)).1
 | 0,_=>⟨hx,hS,hz,by show x.S.Serial<=_;omega,rfl,h0⟩
 | k+1,hk=>by
  obtain⟨a1,a2,a3,a4,a5,a6⟩:=DF hx hS hz l hb P h0 hs k (by omega);have hk':k<l.length:=by omega
  have n:=kH a1 a2 a3 (by omega) l[k];rw[L0 hk',nR];exact⟨n.rt,n.sl,n.zr,by have:=n.ev.s2;show (xn _ _).1.S.Serial<=_;omega,by simp[a5],hs _ _ (zh hk') a1 n a6⟩
theorem run_eq{x:Hp}(hx:L5 x)(hS:SL x)(hz:zr x = [])(l:List c9)(hl:l.length<=1000)(hb:x.S.Serial+l.length<9223372036854775807) :
  dY x l=some (runs x l)/\uG (hO x) (l.map LV)=some (hO (runs x l).1,(runs x l).2):=by
 have all:=DF hx hS hz l hb (λ_=>True) trivial (λ_ _ _ _ _ _=>trivial);constructor
 .unfold dY;simp only[jn];refine M2 (T:=Hp × List Int) l.length (λk acc=>acc=runs x (l.take k)) (by omega) rfl (λk acc hk hP=>?_) (λacc hP=>?_)
  .subst hP;obtain⟨a1,a2,a3,a4,a5,_⟩:=all k (by omega);have n:=kH a1 a2 a3 (by omega) l[k];refine .inl ⟨_,?_,rfl⟩;rw[L0 hk,nR];show (if _ then _ else _)=_;rw[zb (by simpa using hk),o0 hk,XB,n.mc,XB,y4 (by omega) (by rw[a5];simp;omega),XB,k8]
  .subst hP;refine⟨runs x (l.take l.length),?_,?_⟩
   .show (if _ then _ else _)=_;rw[za (by simp)]
   .rw[zL]
 .unfold uG;simp only[jn];refine M2 (T:=g6 × List Int) (l.map LV).length (λk acc=>acc=(hO (runs x (l.take k)).1,(runs x (l.take k)).2)) (by simp;omega) rfl (λk acc hk hP=>?_) (λacc hP=>?_)
  .subst hP;have hk':k<l.length:=by simpa using hk
   obtain⟨a1,a2,a3,a4,a5,_⟩:=all k (by omega);have n:=kH a1 a2 a3 (by omega) l[k];refine .inl ⟨_,?_,rfl⟩;rw[L0 hk',nR];show (if _ then _ else _)=_;rw[zb (by simpa using hk'),o0 hk,XB,wl];dsimp only;rw[n.rf,XB,y4 (by omega) (by rw[a5];simp;omega),XB,k8]
  .subst hP;refine⟨(hO (runs x (l.take (l.map LV).length)).1,(runs x (l.take (l.map LV).length)).2),?_,?_⟩
   .show (if _ then _ else _)=_;rw[za (by simp)]
   .rw[wt,zL]
section
variable{x:Hp}(hB:HB x)
include hB
end
def hZ(k:Nat)(l:Int)(p:Nat):Hp:=⟨⟨⟨List.replicate k ⟨0,0,z0⟩,l⟩,0⟩,List.replicate 6 0,List.replicate 6 ⟨0,false,-1⟩,List.replicate p ⟨0,0,0⟩,⟨[],30⟩⟩
theorem Li{k p:Nat}{l:Int}(hk:1<=k/\k<=24)(hl:0<=l/\l<=9)(hp:1<=p/\p<=8) :
  cg k l p=some (hZ k l p)/\qY k l p=some (hO (hZ k l p))/\L5 (hZ k l p)/\SL (hZ k l p)/\zr (hZ k l p) = []:=by
 have e1:bP k l=some (hZ k l p).S:=by
  unfold bP O3;rw[za (by simp;omega),lF (by omega) (by omega)];rfl
 obtain⟨a,h1,h2,h3,_⟩:=Vw k l;rw[e1] at h1;have ha:=zac h1;subst ha;have hR:SR (hZ k l p).S:=r9.1 h3;have hce:∀i,ce (hZ k l p).S i=⟨0,0,z0⟩:=λi=>by
  unfold ce hZ;dsimp only;rw[zd,List.getElem?_replicate];split <;> rfl
 have hlv:lv (hZ k l p).S = []:=zah.2 λh hh=>by
  obtain⟨i,q⟩:=(dX hR).1 hh;have:=q.2.1;rw[hce] at this;cases this
 refine⟨?_,?_,⟨⟨hR,(Nc (V:=Int) (λ_ _=>True) hp.1 hp.2).1,rfl,rfl,rfl,un _,(λt ht=>nomatch ht),List.Pairwise.nil,(λh hh=>.inl (zbc.1 hh).2),λh hh=>?_,λa v hv=>?_,λi hi=>?_⟩,λi hi ht=>?_,λh hh=>?_⟩,λh hh=>?_,?_⟩
 .unfold cg;rw[za (by simp;omega),e1,XB,show mk 8 6 (0:Int)=some (List.replicate 6 0) from rfl,XB];refine tI (a:=List.replicate 6 ⟨0,false,-1⟩) (by kernel_rfl) ?_;rw[LL hp.1 hp.2,XB];refine tI (a:=⟨[],30⟩) (by kernel_rfl) ?_;rfl
 .unfold qY;rw[za (by simp;omega),h2,XB,show mk 8 6 (0:Int)=some (List.replicate 6 0) from rfl,XB];refine tI (a:=List.replicate 6 ⟨0,false,-1⟩) (by kernel_rfl) ?_;unfold HA;rw[za (by simp;omega),lF (by omega) (by omega),XB,XB];refine tI (a:=⟨[],30⟩) (by kernel_rfl) ?_;unfold hO hZ;dsimp only;rw[List.map_replicate,List.map_replicate];rfl
 .rw[hlv] at hh;cases hh
 .obtain⟨i,hi,_⟩:=hv;have:=hi.2.1;rw[show (hZ k l p).T=List.replicate p ⟨0,0,0⟩ from rfl,sx] at this;cases this
 .have:(hZ k l p).a8[i]=⟨0,false,-1⟩:=List.getElem_replicate ..;rw[this];exact⟨by decide,by decide,λ_=>rfl,λh=>absurd rfl h,λh=>by cases h⟩
 .rw[hce] at ht;rcases ht with h | h <;> cases h
 .rw[hlv] at hh;cases hh
 .rw[hlv] at hh;cases hh
 .unfold zr;rw[hlv];rfl
section
variable{x:Hp}(hB:HB x)
include hB
end
def tO(o:c9):H7:=⟨o.Kind,o.A,o.B,o.C⟩
abbrev yX(o:c9):Int:=A2 o.Kind o.A o.B o.C
theorem GR(k a b c:Int):U2 [k,a,b,c]=some (if A2 k a b c≠0 then (⟨0,0,0,0⟩,A2 k a b c) else (⟨k,a,b,c⟩,0)):=by
 unfold U2;rw[za (by simp)];show (Q0 ⟨k,a,b,c⟩).bind _=_;rw[ma,XB];by_cases h:A2 k a b c=0
 .rw[za (by simpa using h),za (by simpa using h)]
 .rw[zb (by simpa using h),zb h]
theorem KG(k a b c:Int):du [k,a,b,c]=some (if A2 k a b c≠0 then (⟨0,0,0,0⟩,A2 k a b c) else (⟨k,a,b,c⟩,0)):=by
 unfold du;rw[za (by simp)];show (bL ⟨k,a,b,c⟩).bind _=_;rw[gN,XB];by_cases h:A2 k a b c=0
 .rw[za (by simpa using h),za (by simpa using h)]
 .rw[zb (by simpa using h),zb h]
theorem four(l:List Int):(∃k a b c,l = [k,a,b,c])\/l.length≠4:=by
 match l with
 | []=>exact .inr (by simp)
 | [_]=>exact .inr (by simp)
 | [_,_]=>exact .inr (by simp)
 | [_,_,_]=>exact .inr (by simp)
 | [k,a,b,c]=>exact .inl ⟨k,a,b,c,rfl⟩
 | _::_::_::_::_::l=>exact .inr (by simp)
theorem Ae{l:List Int}(h:l.length≠4):U2 l=some (⟨0,0,0,0⟩,14)/\du l=some (⟨0,0,0,0⟩,14):=by
 unfold U2 du;have:(((l.length:Int) != 4))=true:=by simp;omega
 rw[zb this,zb this];exact⟨rfl,rfl⟩
def aR(l:List Int):c9 × Int:=(U2 l).getD (⟨0,0,0,0⟩,0)
theorem CA(l:List Int):U2 l=some (aR l)/\du l=some (tO (aR l).1,(aR l).2):=by
 unfold aR;rcases four l with ⟨k,a,b,c,rfl⟩ | h
 .rw[GR,KG];refine⟨rfl,?_⟩;rw[ww];by_cases h:A2 k a b c≠0
  .rw[zb h,zb h];rfl
  .rw[za h,za h];rfl
 .rw[(Ae h).1,(Ae h).2];exact⟨rfl,rfl⟩
def qM(o:c9):Bool:=((decide (o.Kind>=1))&&(decide (o.Kind<=10)))&&(yX o==0)
def tn(p:List c9):Bool:=decide (p.length<=6)&&p.all qM
def kM(l:List (List c9)):Bool:=decide (l.length<=6)&&l.all tn
section
variable{l:List (List c9)}(hl:l.length<=12)(hp:∀p∈l,p.length<=12)
include hl hp
theorem Mr:fR l=some (kM l):=by
 unfold fR kM;by_cases h6:l.length > 6
 .rw[zb (by simp;omega),zI (by omega)];rfl
 .rw[za (by simp;omega),zu (by omega),ut];simp only[jn];have key:=AJ (f:=λ(s23:Int)=>
   if (decide (s23<(l.length:Int))) then
     (ix l s23).bind λv34=>
     if (decide ((v34.length:Int) > 6)) then
      some (.inr (.inl false))
     else
     (lp (S:=Int) (E:=Bool ⊕ Unit) (λ(s36:Int)=>
      if (decide (s36<(v34.length:Int))) then
       (ix v34 s36).bind λv38=>
       (db v38).bind λv39=>
       (p7 ((!v39)==false) 0 (Q0 v38)).bind λv40=>
       if ((!v39)||(v40 != 0)) then
        some (.inr (.inl false))
       else
       some (.inl (u4 (s36+1)))
      else
      some (.inr (.inr ()))) 0).bind λe35=>
     match e35 with
     | .inl w=>some (.inr (.inl w))
     | .inr w=>some (Sum.inl (u4 (s23+1)))
   else
   some (.inr (.inr ()))) l tn (.inr ()) (Sum.inl (β:=Unit) false) (by omega) (λk hk=>?_) (by simp)
  .refine tI key ?_;cases l.all tn <;> rfl
  .rw[zb (by simpa using hk),o0 hk,XB];unfold tn;have hm:=hp _ (zh hk);generalize l[k]=p at hm |-;by_cases hq:p.length > 6
   .rw[zb (by simp;omega),zI (by omega)];rfl
   .rw[za (by simp;omega),zu (by omega),ut];have k2:=AJ (f:=λ(s36:Int)=>
      if (decide (s36<(p.length:Int))) then
       (ix p s36).bind λv38=>
       (db v38).bind λv39=>
       (p7 ((!v39)==false) 0 (Q0 v38)).bind λv40=>
       if ((!v39)||(v40 != 0)) then
        some (.inr (.inl false))
       else
       some (Sum.inl (u4 (s36+1)))
      else
      some (.inr (.inr ()))) p qM (.inr ()) (Sum.inl (β:=Unit) false) (by omega) (λj hj=>?_) (by simp)
    .refine zbk (tI k2 (r:=if p.all qM=true then some (.inl (u4 ((k:Int)+1))) else some (.inr (.inl false))) ?_) ?_;·cases p.all qM <;> rfl
     .rw[k8]
    .rw[zb (by simpa using hj),o0 hj,XB,ma];unfold qM db;rw[XB,k8];cases ((decide (p[j].Kind>=1))&&(decide (p[j].Kind<=10)));·rfl
     .by_cases h:yX p[j]=0
      .have e:A2 p[j].Kind p[j].A p[j].B p[j].C=0:=h;rw[e,h];rfl
      .have e1:(A2 p[j].Kind p[j].A p[j].B p[j].C != 0)=true:=by simpa using h
       have e2:(yX p[j]==0)=false:=by simpa using h
       rw[e2];refine tI (a:=yX p[j]) rfl ?_;rw[show (yX p[j] != 0)=true from e1];rfl
theorem Fu:nJ (l.map (List.map tO))=some (kM l):=by
 unfold nJ kM;rw[wt];by_cases h6:l.length > 6
 .rw[zb (by simp;omega),zI (by omega)];rfl
 .rw[za (by simp;omega),zu (by omega),ut];simp only[jn];have key:=AJ (f:=λ(s23:Int)=>
   if (decide (s23<(l.length:Int))) then
     (ix (l.map (List.map tO)) s23).bind λv34=>
     if (decide ((v34.length:Int) > 6)) then
      some (.inr (.inl false))
     else
     (lp (S:=Int) (E:=Bool ⊕ Unit) (λ(s36:Int)=>
      if (decide (s36<(v34.length:Int))) then
       (ix v34 s36).bind λv38=>
       (W1 v38).bind λv39=>
       (p7 ((!v39)==false) 0 (bL v38)).bind λv40=>
       if ((!v39)||(v40 != 0)) then
        some (.inr (.inl false))
       else
       some (.inl (u4 (s36+1)))
      else
      some (.inr (.inr ()))) 0).bind λe35=>
     match e35 with
     | .inl w=>some (.inr (.inl w))
     | .inr w=>some (Sum.inl (u4 (s23+1)))
   else
   some (.inr (.inr ()))) l tn (.inr ()) (Sum.inl (β:=Unit) false) (by omega) (λk hk=>?_) (by simp)
  .refine tI key ?_;cases l.all tn <;> rfl
  .rw[zb (by simpa using hk),bc,o0 hk,zM,XB,wt];unfold tn;have hm:=hp _ (zh hk);generalize l[k]=p at hm |-;by_cases hq:p.length > 6
   .rw[zb (by simp;omega),zI (by omega)];rfl
   .rw[za (by simp;omega),zu (by omega),ut];have k2:=AJ (f:=λ(s36:Int)=>
      if (decide (s36<(p.length:Int))) then
       (ix (p.map tO) s36).bind λv38=>
       (W1 v38).bind λv39=>
       (p7 ((!v39)==false) 0 (bL v38)).bind λv40=>
       if ((!v39)||(v40 != 0)) then
        some (.inr (.inl false))
       else
       some (Sum.inl (u4 (s36+1)))
      else
      some (.inr (.inr ()))) p qM (.inr ()) (Sum.inl (β:=Unit) false) (by omega) (λj hj=>?_) (by simp)
    .refine zbk (tI k2 (r:=if p.all qM=true then some (.inl (u4 ((k:Int)+1))) else some (.inr (.inl false))) ?_) ?_;·cases p.all qM <;> rfl
     .rw[k8]
    .rw[zb (by simpa using hj),bc,o0 hj,zM,XB,gN];unfold qM W1;rw[XB,k8];rw[show (tO p[j]).Kind=p[j].Kind from rfl];cases ((decide (p[j].Kind>=1))&&(decide (p[j].Kind<=10)));·rfl
     .by_cases h:yX p[j]=0
      .have e:A2 p[j].Kind (tO p[j]).A (tO p[j]).B (tO p[j]).C=0:=h;rw[e,h];rfl
      .have e1:(A2 p[j].Kind p[j].A p[j].B p[j].C != 0)=true:=by simpa using h
       have e2:(yX p[j]==0)=false:=by simpa using h
       rw[e2];refine tI (a:=yX p[j]) rfl ?_;rw[show (yX p[j] != 0)=true from e1];rfl
end
end Go.Sh
