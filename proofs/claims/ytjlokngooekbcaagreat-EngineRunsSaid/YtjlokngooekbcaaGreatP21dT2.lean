/-
 More of the theory.
-/
import Derived.Test.YtjlokngooekbcaaGreatP21dT
set_option linter.unusedVariables false
set_option linter.unusedSimpArgs false
set_option linter.unusedSectionVars false
namespace Go.Sh
theorem a6H(x:Hp)(h:Int):(C8 x h).Roots=x.Roots∧(C8 x h).a8=x.a8∧(C8 x h).T=x.T∧(C8 x h).Q=x.Q:=by
 rw[b3e];exact⟨rfl,rfl,rfl,rfl⟩
theorem a3P{x:Hp}(hR:SR x.S)(h:Int):SR (C8 x h).S:=(G6 hR h λc=>E0).sr
section
variable{x:Hp}(hx:N9 x)(hS:∀k∈lv x.S,(ob x.S k).Strong≤9223372036854775807)
include hx hS
theorem b1G{h:Int}(hh:h=0∨h∈lv x.S):h≤9223372036854775807:=by
 rcases hh with q | q
 ·omega
 ·have:=I0 hx.sh.sr q;omega
theorem c4J(k:Int){h:Int}(hh:h≤9223372036854775807):a0N x k h=some (if k<0∨5<k then (x,6) else if h=0∨h∈lv x.S then (G5 x k.toNat h,0) else (x,3)):=by
 have hR:=hx.sh.sr;have r6:=hx.sh.r6;unfold a0N;by_cases hk:k<0∨5<k
 ·rw[if_pos hk,if_pos (by rw[r6];simp;omega)]
 ·rw[if_neg hk,if_neg (by rw[r6];simp;omega),a2O hR hh,d7R]
  by_cases hn:h=0∨h∈lv x.S
  ·rw[if_pos hn,decide_eq_true hn,if_neg (by simp)]
   obtain⟨n,rfl⟩:∃n:Nat,k=n:=⟨k.toNat,by omega⟩
   have hn6:n<6:=by omega
   have hnl:n<x.Roots.length:=by omega
   have old:x.Roots[n]≤9223372036854775807:=b1G hx hS (hx.sh.rt _ (List.getElem_mem hnl));have e1:=a6H x h;have hn2:n<(C8 x h).Roots.length:=by rw[e1.1];exact hnl
   rw[p8 hnl,d7R];unfold F4 P3 M3;rw[a6F hR hh hS,d7R];dsimp only;rw[M6 (by omega) (by rw[e1.1];omega),d7R,p8 hn2,d7R,d7R]
   have hrel:=a2U (x:=wR (C8 x h) (x.Roots.set n h)) (a3P hR h) old;rw[Int.toNat_natCast,e1.1,show D3 ⟨(C8 x h).S,x.Roots.set n h,(C8 x h).a8,(C8 x h).T,(C8 x h).Q⟩ x.Roots[n]=_ from hrel];unfold G5;rw[List.getD_eq_getElem?_getD,List.getElem?_eq_getElem hnl];rfl
  ·rw[if_neg hn,decide_eq_false hn,if_pos (by simp)]
theorem c24(k:Int){h:Int}(hh:h≤9223372036854775807):V7 (hO x) k h=some (if k<0∨5<k then (hO x,6) else if h=0∨h∈lv x.S then (hO (G5 x k.toNat h),0) else (hO x,3)):=by
 have hR:=hx.sh.sr;have r6:=hx.sh.r6;unfold V7;by_cases hk:k<0∨5<k
 ·rw[if_pos hk,if_pos (by simp;omega)]
 ·rw[if_neg hk,if_neg (by simp;omega),b1J hR hh,d7R]
  by_cases hn:h=0∨h∈lv x.S
  ·rw[if_pos hn,decide_eq_true hn,if_neg (by simp)]
   obtain⟨n,rfl⟩:∃n:Nat,k=n:=⟨k.toNat,by omega⟩
   have hnl:n<x.Roots.length:=by omega
   have hnl':n<(hO x).Roots.length:=hnl;have old:x.Roots[n]≤9223372036854775807:=b1G hx hS (hx.sh.rt _ (List.getElem_mem hnl));have e1:=a6H x h;have r6':(hO x).Roots.length=6:=r6;rw[p8 hnl',d7R,a83 hR hh hS,d7R,M6 (by omega) (by rw[r6'];omega),d7R,p8 hnl',d7R]
   have hrel:=a4r (x:=wR (C8 x h) (x.Roots.set n h)) (a3P hR h) old;rw[Int.toNat_natCast];rw[show E8 ⟨(hO (C8 x h)).S,(hO x).Roots.set n h,(hO (C8 x h)).a8,(hO (C8 x h)).T,(hO (C8 x h)).Q⟩ (hO x).Roots[n]=_ from hrel];unfold G5;rw[List.getD_eq_getElem?_getD,List.getElem?_eq_getElem hnl];rfl
  ·rw[if_neg hn,decide_eq_false hn,if_pos (by simp)]
omit hx hS in
theorem d5o {l:List Int} {n:Nat} (hn:n<l.length):b3p l n=some (l[n],0)∧b29 l n=some (l[n],0):=by
 constructor
 ·unfold b3p a7R;rw[d7R,if_neg (by simp;omega),p8 hn,d7R]
 ·unfold b29;rw[if_neg (by simp;omega),p8 hn,d7R]
omit hx hS in
theorem d1A {l:List Int} {k:Int} (hk:¬(0≤k∧k<l.length)):b3p l k=some (0,5)∧b29 l k=some (0,5):=by
 constructor
 ·unfold b3p a7R;rw[d7R,if_pos (by simp;omega)]
 ·unfold b29;rw[if_pos (by simp;omega)]
theorem b3t(h k:Int)(hh:h≤9223372036854775807):(∃e,e≠0∧a0F x.S h k=some (0,e)∧a2R (sO x.S) h k=some (0,e)) ∨
  (h∈lv x.S∧∃n:Nat,k=n∧∃hn:n<(ob x.S h).Fields.length,a0F x.S h k=some ((ob x.S h).Fields[n],0)∧a2R (sO x.S) h k=some ((ob x.S h).Fields[n],0)):=by
 have hR:=hx.sh.sr;obtain⟨e,h1,h2⟩:=T0 (w9.2 hR) hh;have hg:F5 (sO x.S) h=some (oo (ob x.S h),e):=by
  rw[a6d x.S (by have:=hR.len;omega) hh,h1]
  rfl
 unfold a0F a2R;rw[h1,d7R,hg,d7R];by_cases q:h∈lv x.S
 ·have:=h2.2 q;subst this;rw[if_neg (by simp),if_neg (by simp),show (oo (ob x.S h),(0:Int)).1.Fields=(ob x.S h).Fields from rfl]
  by_cases hk:0≤k∧k<(ob x.S h).Fields.length
  ·right;obtain⟨n,rfl⟩:∃n:Nat,k=n:=⟨k.toNat,by omega⟩
   have hn:n<(ob x.S h).Fields.length:=by omega
   refine⟨q,n,rfl,hn,?_,?_⟩
   ·rw[(d5o hn).1];rfl
   ·rw[(d5o hn).2];rfl
  ·left;refine⟨5,by decide,?_,?_⟩
   ·rw[(d1A hk).1];rfl
   ·rw[(d1A hk).2];rfl
 ·left;have he:(e != 0)=true:=by simpa using λc=>q (h2.1 c)
  refine⟨e,by simpa using he,?_,?_⟩
  ·simp only[he,if_true]
  ·simp only[he,if_true]
theorem c8m{s:a7}(hR:SR s){h:Int}(hh:h∈lv s){n:Nat}(hn:n<(ob s h).Fields.length)(v:Int) :
  a9Q s h n v=some (seO s h (flg (ob s h) ((ob s h).Fields.set n v)),0)∧b4x (sO s) h n v=some (sO (seO s h (flg (ob s h) ((ob s h).Fields.set n v))),0):=by
 have ok:=K3 hR hh;have hf:=ok.fl;have hle:=I0 hR hh;have ho:OkO s (flg (ob s h) ((ob s h).Fields.set n v)):=⟨ok.s1,ok.s2,ok.st,ok.wk,ok.p1,ok.p2,by simpa using hf⟩
 have h1:=b2q (o:=flg (ob s h) ((ob s h).Fields.set n v)) hR hh rfl ho;have h2:=b2r (o:=flg (ob s h) ((ob s h).Fields.set n v)) hR hh rfl ho;constructor
 ·unfold a9Q;rw[b5r (w9.2 hR) hh,d7R,if_neg (by simp)]
  unfold b54 a7R;dsimp only;rw[d7R,if_neg (by simp;omega),a73 (by omega) (by omega),d7R]
  have e:cpy (List.replicate (ob s h).Fields.length (0:Int)) (ob s h).Fields=some (ob s h).Fields:=by
   unfold cpy;rw[if_pos (by simp)]
   simp
  rw[e,d7R,p8 hn,d7R,d7R,if_neg (by simp),Int.toNat_natCast]
  dsimp only;rw[show K6 s h ⟨(ob s h).Serial,(ob s h).Strong,(ob s h).Weak,(ob s h).Prog,(ob s h).Started,(ob s h).Fields.set n v⟩=_ from h1];rfl
 ·unfold b4x;rw[a6d s (by have:=hR.len;omega) (by omega),b5r (w9.2 hR) hh,Option.map_some,d7R,if_neg (by simp)]
  unfold b5E;have hn':n<(oo (ob s h)).Fields.length:=hn;have hf':(oo (ob s h)).Fields.length≤4:=hf;dsimp only;rw[if_neg (by simp;omega),M6 (by omega) (by omega),d7R,p8 hn',d7R,d7R,if_neg (by simp),Int.toNat_natCast]
  dsimp only;rw[show M9 (sO s) h ⟨(oo (ob s h)).Serial,(oo (ob s h)).Strong,(oo (ob s h)).Weak,(oo (ob s h)).Prog,(oo (ob s h)).Started,(oo (ob s h)).Fields.set n v⟩=_ from h2];rfl
theorem c7i(h k v:Int)(hh:h≤9223372036854775807)(hv:v≤9223372036854775807) :
  (∃e,e≠0∧a2L x h k v=some (x,e)∧a4p (hO x) h k v=some (hO x,e)) ∨
  (h∈lv x.S∧(v=0∨v∈lv x.S)∧∃n:Nat,k=n∧n<(ob x.S h).Fields.length∧a2L x h k v=some (a1u x h n v,0)∧a4p (hO x) h k v=some (hO (a1u x h n v),0)):=by
 have hR:=hx.sh.sr;unfold a2L a4p;rcases b3t hx hS h k hh with ⟨e,he,f1,f2⟩ | ⟨hl,n,rfl,hn,f1,f2⟩
 ·left;have he':(e != 0)=true:=by simpa using he
  refine⟨e,he,?_,?_⟩;·rw[f1,d7R,if_pos he']
  ·rw[show (hO x).S=sO x.S from rfl,f2,d7R,if_pos he']
 ·rw[f1,d7R,if_neg (by simp),show (hO x).S=sO x.S from rfl,f2,d7R,if_neg (by simp),a2O hR hv,d7R,b1J hR hv,d7R]
  by_cases hn2:v=0∨v∈lv x.S
  ·right;refine⟨hl,hn2,n,rfl,hn,?_⟩;rw[decide_eq_true hn2,if_neg (by simp),if_neg (by simp)]
   have kin:=G6 hR v (f:=V1) λc=>E0;have hR1:SR (C8 x v).S:=kin.sr;have hl1:h∈lv (C8 x v).S:=by rw[show lv (C8 x v).S=lv x.S from kin.lv];exact hl
   have hof:(ob (C8 x v).S h).Fields=(ob x.S h).Fields:=by
    obtain⟨m,e⟩:=kin.ob h hh;show (ob (stO x v V1).S h).Fields=_;rw[e]
   have hn1:n<(ob (C8 x v).S h).Fields.length:=by rw[hof];exact hn
   have old:(ob x.S h).Fields[n]≤9223372036854775807:=b1G hx hS (hx.sh.fl h hl _ (List.getElem_mem hn));have ok:=K3 hR1 hl1;have sr2:SR (seO (C8 x v).S h (flg (ob (C8 x v).S h) ((ob (C8 x v).S h).Fields.set n v))):=a08 (o:=flg (ob (C8 x v).S h) ((ob (C8 x v).S h).Fields.set n v)) hR1 hl1 rfl ⟨ok.s1,ok.s2,ok.st,ok.wk,ok.p1,ok.p2,by simpa using ok.fl⟩
   obtain⟨p1,p2⟩:=c8m hx hS hR1 hl1 hn1 v;have hd:(ob x.S h).Fields.getD n 0=(ob x.S h).Fields[n]:=by
    rw[List.getD_eq_getElem?_getD,List.getElem?_eq_getElem hn];rfl
   constructor
   ·unfold I8 a03;rw[a6F hR hv hS,d7R];dsimp only;rw[p1,d7R,d7R];have hrel:=a2U (x:=wS (C8 x v) (seO (C8 x v).S h (flg (ob (C8 x v).S h) ((ob (C8 x v).S h).Fields.set n v)))) sr2 old;rw[show D3 ⟨seO (C8 x v).S h (flg (ob (C8 x v).S h) ((ob (C8 x v).S h).Fields.set n v)),(C8 x v).Roots,(C8 x v).a8,(C8 x v).T,(C8 x v).Q⟩ (ob x.S h).Fields[n]=_ from hrel];unfold a1u;rw[hd,hof];rfl
   ·rw[a83 hR hv hS,d7R,show (hO (C8 x v)).S=sO (C8 x v).S from rfl,p2,d7R];have hrel:=a4r (x:=wS (C8 x v) (seO (C8 x v).S h (flg (ob (C8 x v).S h) ((ob (C8 x v).S h).Fields.set n v)))) sr2 old;dsimp only;rw[show E8 ⟨sO (seO (C8 x v).S h (flg (ob (C8 x v).S h) ((ob (C8 x v).S h).Fields.set n v))),(hO (C8 x v)).Roots,(hO (C8 x v)).a8,(hO (C8 x v)).T,(hO (C8 x v)).Q⟩ (ob x.S h).Fields[n]=_ from hrel];unfold a1u;rw[hd,hof];rfl
  ·left;refine⟨3,by decide,?_,?_⟩
   ·rw[decide_eq_false hn2,if_pos (by simp)]
   ·rw[decide_eq_false hn2,if_pos (by simp)]
theorem d0O(k v:Int)(hk:k≤9223372036854775807)(hv:v≤9223372036854775807) :
  (∃e,e≠0∧a4k x k v=some (x,e)∧a6x (hO x) k v=some (hO x,e)) ∨
  (k∈lv x.S∧(v=0∨v∈lv x.S)∧∃r,U7 x.T k v=some r∧r.2.2=0∧a4k x k v=some (a6m x v r.1 r.2.1,0)∧a6x (hO x) k v=some (hO (a6m x v r.1 r.2.1),0)):=by
 have hR:=hx.sh.sr;unfold a4k a6x;by_cases k0:k=0
 ·left;subst k0;exact⟨2,by decide,by simp,by simp⟩
 ·rw[if_neg (by simpa using k0),if_neg (by simpa using k0),a2O hR hk,d7R,b4q hR hk,d7R,a2O hR hv,b1J hR hv]
  have hkk:(k=0∨k∈lv x.S)↔k∈lv x.S:=by simp[k0]
  by_cases hl:k∈lv x.S∧(v=0∨v∈lv x.S)
  ·obtain⟨hl,hn⟩:=hl;rw[decide_eq_true (hkk.2 hl),decide_eq_true hl,decide_eq_true hn];simp only[Bool.not_true,beq_self_eq_true,a0s,d7R,Bool.or_self,Bool.false_eq_true,if_false];obtain⟨r,r1,r2,r3,r4,r5⟩:=c58 hx.sh.hr k v;rw[r1,d7R,show (hO x).T=x.T.map M0 from rfl,r4,d7R];by_cases h0:r.2.2=0
   ·right;refine⟨hl,hn,r,rfl,h0,?_⟩;have e1:(r.2.2 != 0)=false:=by simpa using h0
    have old:r.2.1≤9223372036854775807:=by
     rcases r5 with ⟨_,rfl⟩ | ⟨_,_,⟨i,hi,rfl⟩ | ⟨_,rfl⟩⟩ | ⟨_,_,⟨i,hi,rfl⟩ | ⟨d,_,_,_,_,rfl⟩ | ⟨_,_,rfl⟩⟩;·simp
     ·exact b1G hx hS (.inr (hx.sh.pr k _ ⟨i,hi,rfl⟩).2)
     ·simp
     ·exact b1G hx hS (.inr (hx.sh.pr k _ ⟨i,hi,rfl⟩).2)
     ·simp
     ·simp
    constructor
    ·rw[e1];simp only[Bool.false_eq_true,if_false];unfold J8 W8;rw[a6F hR hv hS,d7R,d7R];dsimp only;have hrel:=a2U (x:=wT (C8 x v) r.1) (a3P hR v) old;rw[show D3 ⟨(C8 x v).S,(C8 x v).Roots,(C8 x v).a8,r.1,(C8 x v).Q⟩ r.2.1=_ from hrel];rfl
    ·dsimp only;rw[e1];simp only[Bool.false_eq_true,if_false];rw[a83 hR hv hS,d7R];have hrel:=a4r (x:=wT (C8 x v) r.1) (a3P hR v) old;rw[show E8 ⟨(hO (C8 x v)).S,(hO (C8 x v)).Roots,(hO (C8 x v)).a8,r.1.map M0,(hO (C8 x v)).Q⟩ r.2.1=_ from hrel];rfl
   ·left;have e1:(r.2.2 != 0)=true:=by simpa using h0
    refine⟨r.2.2,h0,by rw[if_pos e1],by dsimp only;rw[if_pos e1]⟩
  ·left;refine⟨3,by decide,?_,?_⟩
   ·by_cases hl2:k∈lv x.S
    ·have:¬(v=0∨v∈lv x.S):=λq=>hl ⟨hl2,q⟩;rw[decide_eq_true (hkk.2 hl2),decide_eq_false this];rfl
    ·rw[decide_eq_false λq=>hl2 (hkk.1 q)];rfl
   ·by_cases hl2:k∈lv x.S
    ·have:¬(v=0∨v∈lv x.S):=λq=>hl ⟨hl2,q⟩;rw[decide_eq_true hl2,decide_eq_false this];rfl
    ·rw[decide_eq_false hl2];rfl
end
theorem c34{s:a7}(hR:SR s){h:Int}{i:Nat}(q:Y1 s h i):O1 s.S h=some ((gvA s i).S,0):=by
 have hi:=q.1;have hc:=hR.cell i hi;have l9:=hR.l9;unfold O1 gvA;rw[a62 hR q,d7R,if_neg (by simp),c0s hi,d7R]
 by_cases g:(ce s i).Gen=s.S.Last
 ·rw[if_pos (by simpa using g),if_pos g,a6T rfl hi hR.len]
  rfl
 ·rw[if_neg (by simpa using g),if_neg g,a6T rfl hi hR.len,F2 (by omega) (by omega)]
  rfl
theorem d1M{s:a7}{i:Nat}(hi:i<s.S.a8.length):ix (sO s).a8 (i:Int)=some (cO (ce s i)):=by
 rw[c4M,c0s hi];rfl
theorem c4N(s:a7)(i:Nat)(c:b9):sO (H7 s i c)=⟨(sO s).a8.set i (cO c),s.S.Last,s.Serial⟩:=by
 unfold sO H7;rw[List.map_set]
theorem b53(t:k8)(p:y7)(hl:t.a8.length≤1000)(hp:p.a8.length=t.a8.length):a0v t p=some ⟨(List.range t.a8.length).map λk=>⟨(p.a8.getD k ⟨0,0,0⟩).State,(p.a8.getD k ⟨0,0,0⟩).Gen,(t.a8.getD k ⟨0,0,oo z0⟩).Val⟩,t.Last,t.Serial⟩:=by
 unfold a0v;simp only[jn];rw[c7G (b:=80) t.a8.length (λk=>⟨(p.a8.getD k ⟨0,0,0⟩).State,(p.a8.getD k ⟨0,0,0⟩).Gen,(t.a8.getD k ⟨0,0,oo z0⟩).Val⟩) (by omega) (by omega) (λk acc hk=>?_) (λacc=>by simp)]
 ·rfl
 ·have hk2:k<p.a8.length:=by omega
  simp only[Int.ofNat_lt,hk,decide_true,if_true,p8 hk,p8 hk2,d7R];rw[List.getD_eq_getElem?_getD,List.getElem?_eq_getElem hk2,List.getD_eq_getElem?_getD,List.getElem?_eq_getElem hk];rfl
theorem c7q{s:a7}(hR:SR s){h:Int}{i:Nat}(q:Y1 s h i):a8R (sO s) h=some (sO (gvA s i)):=by
 have hi:=q.1;have hc:=hR.cell i hi;have l9:=hR.l9;have hlen:=hR.len;have hr:=q.rng hR;have hH:Hnd h:=((b0J hR).2 q).2.1;have hsl:(h-1) % 32=i:=((b0J hR).2 q).2.2.1;have M0:i<(pl (sO s)).a8.length:=by rw[a1z,C2];exact hi
 have key:∀st g,(st:Int)=st→a0v (sO s) ⟨(pl (sO s)).a8.set i ⟨st,g,0⟩,(pl (sO s)).Last⟩=some ⟨(sO s).a8.set i ⟨st,g,oo (ce s i).Val⟩,s.S.Last,s.Serial⟩:=λst g _=>by
  rw[b53 _ _ (by rw[C2];omega) (by simp[a1z])]
  congr 1;congr 1;refine List.ext_getElem (by simp) λk h1 h2=>?_
  have hk:k<s.S.a8.length:=by simpa[C2] using h1
  have hk2:k<(sO s).a8.length:=by rw[C2];exact hk
  have hk3:k<(pl (sO s)).a8.length:=by rw[a1z];exact hk2
  simp only[List.getElem_map,List.getElem_range,List.getElem_set];have e1:(sO s).a8.getD k ⟨0,0,oo z0⟩=cO (ce s k):=by
   rw[List.getD_eq_getElem?_getD,List.getElem?_eq_getElem hk2,E7 hk];simp[sO]
  have e2:((pl (sO s)).a8.set i ⟨st,g,0⟩).getD k ⟨0,0,0⟩=if k=i then ⟨st,g,0⟩ else plc k (cO (ce s k)):=by
   rw[a6e M0];split;·rfl
   ·rw[List.getD_eq_getElem?_getD,List.getElem?_eq_getElem hk3,E7 hk];simp[pl,sO]
  rw[e1,e2];by_cases e:k=i
  ·subst e;rw[if_pos rfl,if_pos rfl];rfl
  ·rw[if_neg e,if_neg (Ne.symm e)];rw[E7 hk];simp[sO,plc,cO]
 have fin:∀st g,(a1h ⟨(sO s).a8.set i ⟨st,g,oo (ce s i).Val⟩,s.S.Last,s.Serial⟩ (i:Int) ⟨0,0,0,0,false,[]⟩)=some (sO (H7 s i ⟨st,g,z0⟩)):=λst g=>by
  unfold a1h;have hi2:i<((sO s).a8.set i ⟨st,g,oo (ce s i).Val⟩).length:=by simp[C2];exact hi
  rw[M6 (by omega) (by simp[C2];omega),d7R,p8 hi2,d7R,c4N]
  simp[cO,oo,List.set_set]
 unfold a8R b5C gvA;rw[a5y _ (by rw[C2];omega),d7R,b2S s (by omega),a62 hR q,d7R,if_neg (by simp)]
 rw[c0L (by rw[C2];exact hi),d7R]
 have hgen:(plc i ((sO s).a8[i]'(by rw[C2];exact hi))).Gen=(ce s i).Gen:=by
  rw[E7 hi];simp[plc,sO,cO]
 have hlast:(pl (sO s)).Last=s.S.Last:=rfl;have w3:∀c:x4,X9 (pl (sO s)) (i:Int) c=some ⟨(pl (sO s)).a8.set i c,(pl (sO s)).Last⟩:=λc=>by
  unfold X9;rw[M6 (by omega) (by rw[a1z,C2];omega),d7R,p8 M0,d7R,Int.toNat_natCast]
 rw[hgen,hlast,a8O,if_pos hH,hsl];by_cases g:(ce s i).Gen=s.S.Last
 ·rw[if_pos (by simp[g]),if_pos g,w3,d7R,d7R,if_neg (by simp),key _ _ rfl,d7R,d7R,fin]
  rfl
 ·rw[if_neg (by simp;omega),if_neg g,w3,d7R,d7R,if_neg (by simp),key _ _ rfl,d7R,d7R,F2 (by omega) (by omega),fin]
  rfl
section
variable{x:Hp}(hR:SR x.S)
include hR
theorem b7a{h d:Int}(hh:h≤9223372036854775807)(hw:Y1 x.S h (D6 h) → -1000≤(ce x.S (D6 h)).Val.Weak+d∧(ce x.S (D6 h)).Val.Weak+d≤1000):a1L x h d=some (mkd x h d):=by
 unfold a1L mkd;by_cases q:Y1 x.S h (D6 h)
 ·have:=hw q;rw[if_pos q,a62 hR q,d7R];simp only[beq_self_eq_true,if_true];rw[c0s q.1,d7R,F2 (by omega) (by omega),b9m hR q,d7R]
  rfl
 ·have hno:∀i,¬Y1 x.S h i:=λi hi=>q (by rw[hi.D6 hR];exact hi)
  rw[if_neg q,b0z hR hh hno,d7R];have:((if h=0 then 2 else 3:Int)==0)=false:=by simpa using a3n h
  simp only[this,Bool.false_eq_true,if_false]
theorem c1E{h:Int}(hh:h≤9223372036854775807)(hw:Y1 x.S h (D6 h)→1≤(ce x.S (D6 h)).Val.Weak∧(ce x.S (D6 h)).Val.Weak≤1000):a3c x h=some (a9f x h):=by
 unfold a3c;rw[b7a hR hh (λq=>by have:=hw q;omega),d7R]
 unfold mkd a9f;by_cases q:Y1 x.S h (D6 h)
 ·have hw:=hw q;rw[if_pos q,if_pos q];have sr1:=b5t hR q.1 q.2.1 (d:=-1) (by omega)
  have q1:Y1 (mkA x.S (D6 h) (-1)) h (D6 h):=(b4j q.1 _).2 q;dsimp only;rw[a62 sr1 q1,d7R,if_neg (by simp),c0s q1.1,d7R,a3L hR q.1 q.2.1,if_pos rfl]
  dsimp only;by_cases c:(ce x.S (D6 h)).State=2∧(ce x.S (D6 h)).Val.Weak=1
  ·rw[if_pos c,if_pos (by simp[c.1,c.2]),c34 sr1 q1,d7R]
   rfl
  ·rw[if_neg c,if_neg (by simp only[Bool.and_eq_true,beq_iff_eq];omega)]
 ·have hno:∀i,¬Y1 x.S h i:=λi hi=>q (by rw[hi.D6 hR];exact hi)
  rw[if_neg q,if_neg q,b0z hR hh hno,d7R];have:((if h=0 then 2 else 3:Int) != 0)=true:=by simpa using a3n h
  simp only[this,if_true]
theorem c6g{h:Int}(hh:h≤9223372036854775807)(hw:Y1 x.S h (D6 h)→1≤(ce x.S (D6 h)).Val.Weak∧(ce x.S (D6 h)).Val.Weak≤1000):a0y (hO x) h=some (hO (a9f x h)):=by
 have hl:=hR.len;unfold a0y;rw[show (hO x).S=sO x.S from rfl,a5y _ (by rw[C2];omega),d7R,b2S x.S hh]
 unfold a9f;by_cases q:Y1 x.S h (D6 h)
 ·have hw:=hw q;have hr:=q.rng hR;rw[if_pos q,a62 hR q,d7R,if_neg (by simp),d1M q.1,d7R]
  have sr1:=b5t hR q.1 q.2.1 (d:=-1) (by omega)
  have q1:Y1 (mkA x.S (D6 h) (-1)) h (D6 h):=(b4j q.1 _).2 q;have hs:M9 (sO x.S) h (oo (wkg (ce x.S (D6 h)).Val ((ce x.S (D6 h)).Val.Weak + -1)))=some (sO (mkA x.S (D6 h) (-1)),0):=by
   rw[c8N x.S hl hh,b9m hR q];rfl
  have hw64:x8 ((cO (ce x.S (D6 h))).Val.Weak-1)=(ce x.S (D6 h)).Val.Weak + -1:=by
   show x8 ((ce x.S (D6 h)).Val.Weak-1)=_;rw[F2 (by omega) (by omega)]
   omega
  rw[hw64];rw[show M9 (sO x.S) h ⟨(cO (ce x.S (D6 h))).Val.Serial,(cO (ce x.S (D6 h))).Val.Strong,(ce x.S (D6 h)).Val.Weak + -1,(cO (ce x.S (D6 h))).Val.Prog,(cO (ce x.S (D6 h))).Val.Started,(cO (ce x.S (D6 h))).Val.Fields⟩=_ from hs,d7R,d1M q1.1,d7R,a3L hR q.1 q.2.1,if_pos rfl];by_cases c:(ce x.S (D6 h)).State=2∧(ce x.S (D6 h)).Val.Weak=1
  ·rw[if_pos c,if_pos (by simp[cO,c.1,c.2]),c7q sr1 q1,d7R]
   rfl
  ·rw[if_neg c,if_neg (by simp only[cO,Bool.and_eq_true,beq_iff_eq,decide_eq_true_eq];omega)]
   rfl
 ·have hno:∀i,¬Y1 x.S h i:=λi hi=>q (by rw[hi.D6 hR];exact hi)
  rw[if_neg q,b0z hR hh hno,d7R];have:((if h=0 then 2 else 3:Int) != 0)=true:=by simpa using a3n h
  simp only[this,if_true]
end
theorem c8Z{l:List g6}(hl:l.length≤1000){n:Nat}(hn:n<l.length)(h call:Int):b2E l n h call=some (l.set n (wcl h call),l[n].Target,0):=by
 unfold b2E a6S a0G;simp only[d7R];rw[if_neg (by simp;omega),a73 (by omega) (by omega),d7R]
 have e:cpy (List.replicate l.length (⟨0,false,0⟩:g6)) l=some l:=by
  unfold cpy;rw[if_pos (by simp)]
  simp
 rw[e,d7R,d7R,p8 hn,d7R,d7R,Int.toNat_natCast]
theorem c3o{l:List g6}(hl:l.length≤1000){n:Nat}(hn:n<l.length)(h call:Int):b4y (l.map wcR) n h call=some ((l.set n (wcl h call)).map wcR,l[n].Target,0):=by
 unfold b4y;have hn':n<(l.map wcR).length:=by simpa using hn
 rw[if_neg (by simp;omega),M6 (by omega) (by simp;omega),d7R,p8 hn',d7R,d7R,Int.toNat_natCast,List.map_set]
 simp[wcR]
theorem d3H(l:List g6)(h:Int):nmg l h≤l.length:=List.countP_le_length
theorem d1u{x:Hp}(hx:N9 x)(k h call:Int)(hh:h≤9223372036854775807)(hc : -1≤call∧call≤5) :
  (∃e,e≠0∧a0O x k h call=some (x,e)∧a2k (hO x) k h call=some (hO x,e)) ∨
  ((h=0∨h∈lv x.S)∧∃n:Nat,k=n∧n<6∧wts x.Q n=false∧a0O x k h call=some (a2C x n h call,0)∧a2k (hO x) k h call=some (hO (a2C x n h call),0)):=by
 have hR:=hx.sh.sr;have c6:=hx.sh.c6;have q30:=hx.sh.q30;unfold a0O a2k;by_cases hk:k<0∨5<k
 ·left;have e1:((decide (k<0))||(decide (k≥(x.a8.length:Int))))=true:=by rw[c6];simp;omega
  have e2:((decide (k<0))||(decide (k > 5)))=true:=by simp;omega
  refine⟨7,by decide,?_,?_⟩
  ·rw[e1];rfl
  ·rw[e2];rfl
 ·obtain⟨n,rfl⟩:∃n:Nat,k=n:=⟨k.toNat,by omega⟩
  have hn6:n<6:=by omega
  have e1:((decide ((n:Int)<0))||(decide ((n:Int)≥(x.a8.length:Int))))=false:=by rw[c6];simp;omega
  have e2:((decide ((n:Int)<0))||(decide ((n:Int) > 5)))=false:=by simp;omega
  rw[e1,e2];simp only[beq_self_eq_true,a0s,Bool.false_or];have hwq:a4Y x.Q n=some (wts x.Q n):=d1j (by omega)
  have hwr:a4o (hO x).Q n=some (wts x.Q n):=d0Y (by omega)
  rw[hwq,d7R,hwr,d7R,a2O hR hh,d7R,b1J hR hh,d7R];by_cases hw:wts x.Q n=true
  ·left;rw[if_pos hw,if_pos hw];exact⟨7,by decide,rfl,rfl⟩
  ·have hw:wts x.Q n=false:=by simpa using hw
   rw[hw,if_neg (show ¬(false=true) by decide),if_neg (show ¬(false=true) by decide)]
   by_cases hl:h=0∨h∈lv x.S
   ·right;refine⟨hl,n,rfl,hn6,hw,?_⟩;have hnl:n<x.a8.length:=by omega
    rw[decide_eq_true hl,if_neg (by simp),if_neg (by simp),c8Z (by omega) hnl,d7R,show (hO x).a8=x.a8.map wcR from rfl,c3o (by omega) hnl,d7R]
    have htg:tgt x n=x.a8[n].Target:=by
     unfold tgt;rw[List.getD_eq_getElem?_getD,List.getElem?_eq_getElem hnl];rfl
    have wkb:∀i,i<x.S.S.a8.length→Th (ce x.S i)→0≤(ce x.S i).Val.Weak∧(ce x.S i).Val.Weak≤6:=λi hi ht=>by
     have:=(hx.wk i hi ht).1;have:=d3H x.a8 (1+(i:Int)+32*(ce x.S i).Gen);omega
    have mk1:∃s2,mkd (wC x (x.a8.set n (wcl h call))) h 1=wS (wC x (x.a8.set n (wcl h call))) s2∧SR s2∧(∀k i,Y1 s2 k i↔Y1 x.S k i)∧(∀i,i<x.S.S.a8.length→Th (ce x.S i)→(ce x.S i).Val.Weak≤(ce s2 i).Val.Weak∧(ce s2 i).Val.Weak≤(ce x.S i).Val.Weak+1) ∧
      (h≠0→F5 (sO x.S) h=some (oo (ce x.S (D6 h)).Val,0)∧M9 (sO x.S) h (oo (wkg (ce x.S (D6 h)).Val ((ce x.S (D6 h)).Val.Weak+1)))=some (sO s2,0))∧(h=0→s2=x.S):=by
     unfold mkd;by_cases h0:h=0
     ·have hno:¬Y1 x.S h (D6 h):=λq=>by have:=q.rng hR;omega
      rw[if_neg hno];exact⟨x.S,rfl,hR,λ_ _=>Iff.rfl,λi _ _=>by omega,λq=>absurd h0 q,λ_=>rfl⟩
     ·have hll:=hl.resolve_left h0;have hp:=A8 hR hll;have hb:=wkb _ hp.1 (.inl hp.2.1);rw[if_pos hp.d];have kn:=a7k hR hp.1 (.inl hp.2.1) (d:=1) (by omega)
      refine⟨_,rfl,kn.sr,kn.ad,λi hi ht=>?_,λ_=>⟨?_,?_⟩,λq=>absurd q h0⟩
      ·rw[a3L hR hp.1 (.inl hp.2.1)];split;·rename_i e;subst e;dsimp only;omega
       ·omega
      ·rw[a6d x.S (by have:=hR.len;omega) hh,d2H hR hp]
       rfl
      ·rw[c8N x.S hR.len hh,b9m hR hp.d];rfl
    obtain⟨s2,m1,m2,m3,m4,m5,m6⟩:=mk1;have hold:tgt x n≤9223372036854775807:=by
     by_cases q:tgt x n=0
     ·omega
     ·obtain⟨p,hp⟩:=(hx.sh.cl n hnl).2.2.2.1 (by rw[←htg];exact q)
      have:=hp.rng hR;rw[htg];omega
    have hun:Y1 s2 (tgt x n) (D6 (tgt x n))→1≤(ce s2 (D6 (tgt x n))).Val.Weak∧(ce s2 (D6 (tgt x n))).Val.Weak≤1000:=λq=>by
     have q':=(m3 _ _).1 q;have r:=q'.rng hR;have:=(hx.wk _ q'.1 q'.2.1).1;have hp:0<nmg x.a8 x.a8[n].Target:=b1M hnl (by rw[←htg];omega)
     rw[←htg,q'.2.2] at hp;have:=m4 _ q'.1 q'.2.1;have:=wkb _ q'.1 q'.2.1;omega
    have u1:=c1E (x:=wS (wC x (x.a8.set n (wcl h call))) s2) m2 hold hun;have u2:=c6g (x:=wS (wC x (x.a8.set n (wcl h call))) s2) m2 hold hun;have hwb:Y1 x.S h (D6 h) → -1000≤(ce x.S (D6 h)).Val.Weak+1∧(ce x.S (D6 h)).Val.Weak+1≤1000:=λq=>by
     have:=wkb _ q.1 q.2.1;omega
    have mm:=b7a (x:=wC x (x.a8.set n (wcl h call))) (d:=1) hR hh hwb;constructor
    ·dsimp only;rw[show a1L ⟨x.S,x.Roots,x.a8.set n (wcl h call),x.T,x.Q⟩ h 1=_ from mm,d7R,m1,←htg,u1,d7R];unfold a2C;rw[m1]
    ·unfold a2C;rw[m1];dsimp only;by_cases h0:h=0
     ·rw[if_neg (by simpa using h0),←htg]
      rw[m6 h0] at u2 ⊢;rw[show a0y ⟨(hO x).S,(hO x).Roots,(x.a8.set n (wcl h call)).map wcR,(hO x).T,(hO x).Q⟩ (tgt x n)=_ from u2,d7R]
     ·obtain⟨g1,g2⟩:=m5 h0;have hp:=A8 hR (hl.resolve_left h0);have hb:=wkb _ hp.1 (.inl hp.2.1);rw[if_pos (by simpa using h0),show (hO x).S=sO x.S from rfl,g1,d7R]
      have e:x8 ((oo (ce x.S (D6 h)).Val).Weak+1)=(ce x.S (D6 h)).Val.Weak+1:=by
       show x8 ((ce x.S (D6 h)).Val.Weak+1)=_;rw[F2 (by omega) (by omega)]
      dsimp only;rw[e];rw[show M9 (sO x.S) h ⟨(oo (ce x.S (D6 h)).Val).Serial,(oo (ce x.S (D6 h)).Val).Strong,(ce x.S (D6 h)).Val.Weak+1,(oo (ce x.S (D6 h)).Val).Prog,(oo (ce x.S (D6 h)).Val).Started,(oo (ce x.S (D6 h)).Val).Fields⟩=_ from g2,d7R,←htg];dsimp only;rw[show a0y ⟨sO s2,(hO x).Roots,(x.a8.set n (wcl h call)).map wcR,(hO x).T,(hO x).Q⟩ (tgt x n)=_ from u2,d7R]
   ·left;rw[decide_eq_false hl];refine⟨3,by decide,?_,?_⟩ <;> rw[if_pos (by rfl)]
end Go.Sh
namespace Go.Sh
section
variable{x:Hp}(hx:N9 x)(hS:∀k∈lv x.S,(ob x.S k).Strong≤9223372036854775807)
include hx hS
end
end Go.Sh
namespace Go.Sh
theorem c32{α:Type}{l:List α}{i:Nat}(h:i<l.length)(d:α):l.getD i d=l[i]:=by
 rw[List.getD_eq_getElem?_getD,List.getElem?_eq_getElem h];rfl
def TkS(a b:k9):Prop:=a.Kind=b.Kind∧a.At=b.At
instance(a b:k9):Decidable (TkS a b):=by unfold TkS;infer_instance
section
variable{x:Hp}(hR:SR x.S)
include hR
omit hR in
theorem c7d:d1y x.S x.T (otr x)↔a1F x []:=by
 constructor
 ·intro h k hk hlt;have:=h k hk hlt;unfold rst inr at this;rw[if_pos hk] at this;rw[Q2];unfold nms;omega
 ·intro h k hk hlt;have:=h k hk hlt;rw[Q2] at this;unfold nms at this;unfold rst inr;rw[if_pos hk];omega
end
end Go.Sh
namespace Go.Sh
section
variable{x:Hp}(hx:N9 x)(hB:HB x)
include hx hB
end
end Go.Sh
namespace Go.Sh
theorem d4z{l:List m8}(h:l.length≤100000):b11 l l=some true:=by
 unfold b11;rw[if_neg (by simp)]
 simp only[jn];refine V2 l.length (λ_=>True) (by omega) trivial (λk hk _=>.inl ⟨?_,trivial⟩) (λ_=>⟨.inr (),by simp,rfl⟩)
 rw[if_pos (by simpa using hk),p8 hk,d7R,d7R,if_neg (by simp),l7 (by omega)]
def SL(x:Hp):Prop:=∀k∈lv x.S,(ob x.S k).Strong≤9223372036854775807
theorem SB.sl{x:Hp}(hR:SR x.S)(h:SB x.S):SL x:=λk hk=>c6e hR h k hk
theorem d1K{x:Hp}(hx:N9 x)(hS:SL x):HB x:=by
 have hR:=hx.sh.sr;have bd:∀v,v=0∨v∈lv x.S→v≤9223372036854775807:=λv q=>by
  rcases q with q | q
  ·omega
  ·have:=I0 hR q;omega
 refine⟨d6t.2 λi hi=>?_,d5E.2 λi hi v hv=>?_,λv hv=>bd v (hx.sh.rt v hv),λc hc=>?_,λp hp=>?_,λt ht=>?_⟩
 ·by_cases t:Th (ce x.S i)
  ·rcases t with t | t
   ·have q:At x.S (1+(i:Int)+32*(ce x.S i).Gen) i:=⟨hi,t,rfl⟩;have:=hS _ ((a3p hR).2 ⟨i,q⟩);rwa [P2 hR q] at this
   ·have:=((hx.wk i hi (.inr t)).2 t).2.2;omega
  ·have:=(hR.no i hi t).2.1;simp only[oo] at this;omega
 ·by_cases t:Th (ce x.S i)
  ·rcases t with t | t
   ·have q:At x.S (1+(i:Int)+32*(ce x.S i).Gen) i:=⟨hi,t,rfl⟩;have hm:=(a3p hR).2 ⟨i,q⟩;exact bd v (hx.sh.fl _ hm v (by rw[P2 hR q];exact hv))
   ·rw[((hx.wk i hi (.inr t)).2 t).2.1] at hv;cases hv
  ·have:=(hR.no i hi t).2.2.2.2.2;simp only[oo] at this;rw[List.eq_nil_of_length_eq_zero this] at hv;cases hv
 ·obtain⟨i,hi,rfl⟩:=List.getElem_of_mem hc;by_cases e:x.a8[i].Target=0
  ·omega
  ·obtain⟨p,hp⟩:=(hx.sh.cl i hi).2.2.2.1 e;have:=hp.rng hR;omega
 ·obtain⟨i,hi,rfl⟩:=List.getElem_of_mem hp;have e:pt x.T i=x.T[i]:=by
   unfold pt;rw[List.getD_eq_getElem?_getD,List.getElem?_eq_getElem hi];rfl
  by_cases s1:(pt x.T i).State=1
  ·obtain⟨a,b⟩:=hx.sh.pr (pt x.T i).Key (pt x.T i).Val ⟨i,⟨hi,s1,rfl⟩,rfl⟩;rw[e] at a b;exact⟨bd _ (.inr a),bd _ (.inr b)⟩
  ·obtain⟨a,b⟩:=(hx.sh.hr.st i hi).2 s1;rw[e] at a b;omega
 ·obtain⟨_,_,q | q⟩:=hx.sh.tk t ht;·exact bd _ (.inr q.2.1)
  ·omega
theorem d2e{s:a7}(hR:SR s):Sm s:=by
 refine⟨by have:=hR.len;omega,λi hi=>?_⟩
 by_cases t:Th (ce s i)
 ·have:=(hR.ok i hi t).fl;rw[E7 hi] at this;omega
 ·have:=(hR.no i hi t).2.2.2.2.2;simp only[oo] at this;rw[E7 hi] at this;omega
theorem d4A{x:Hp}(h:HpS x):b2e (hO x) (hO x)=some true:=by
 have sm:=d2e h.sr;have h1:=h.r6;have h2:=h.c6;have h3:=h.hr.l8;have h4:=h.q30;unfold b2e;rw[show (hO x).S=sO x.S from rfl,c40 _ (by rw[C2];have:=sm.1;omega) (λi hi=>by
  have:=sm.2 i (by rw[C2] at hi;exact hi)
  simp only[sO,List.getElem_map,cO,oo];omega),d7R]
 simp only[beq_self_eq_true,a0s,Bool.true_and];rw[show (hO x).Roots=x.Roots from rfl,c2u (by omega),d7R]
 simp only[beq_self_eq_true,a0s,Bool.true_and];rw[d4z (by simp[hO];omega),d7R]
 simp only[beq_self_eq_true,a0s,Bool.true_and];rw[c57 (by simp[hO];omega),d7R]
 simp only[beq_self_eq_true,a0s,Bool.true_and];rw[show (hO x).Q=tqR x.Q from rfl,d4g (by omega),d7R]
theorem d0j(c:Int):V1 c≤12:=by unfold V1;split <;> (try split) <;> omega
theorem c94{c:Int}(h:c≤9223372036854775807):a6b c≤9223372036854775807:=by unfold a6b;split <;> (try split) <;> omega
theorem SL.of{x y:Hp}(h:SL x)(hl:lv y.S=lv x.S)(hs:∀k∈lv x.S,(ob y.S k).Strong=(ob x.S k).Strong):SL y:=λk hk=>by
 rw[hl] at hk;rw[hs k hk];exact h k hk
theorem SL.st{x:Hp}(h:SL x)(hR:SR x.S)(v:Int){f:Int→Int}(hf:∀c,0≤c→0≤f c)(hb:∀c,c≤9223372036854775807→f c≤9223372036854775807):SL (stO x v f):=λk hk=>by
 rw[(G6 hR v hf).lv] at hk;rw[b3k hR v hf hk];split;·exact hb _ (h k hk)
 ·exact h k hk
theorem SL.C8{x:Hp}(h:SL x)(hR:SR x.S)(v:Int):SL (C8 x v):=h.st hR v (λc=>E0) λc _=>by have:=d0j c;omega
theorem SL.rls{x:Hp}(h:SL x)(hR:SR x.S)(v:Int):SL (Q5 x v):=h.st hR v (λc=>O5) λc hc=>c94 hc
theorem c22{x:Hp}(hR:SR x.S)(v:Int):SR (Q5 x v).S:=(G6 hR v λc=>O5).sr
theorem a4U{x:Hp}(hR:SR x.S)(h:SL x)(r:Nat)(v:Int):SL (G5 x r v):=by
 unfold G5;exact SL.rls (x:=wR (C8 x v) (x.Roots.set r v)) (h.C8 hR v) (a3P hR v) _
theorem c5s{x:Hp}(hR:SR x.S)(hS:SL x){h:Int}(hh:h∈lv x.S)(k:Nat)(v:Int):SL (a1u x h k v):=by
 have kin:=G6 hR v (f:=V1) λc=>E0;have hR1:SR (C8 x v).S:=kin.sr;have hl1:h∈lv (C8 x v).S:=by rw[show lv (C8 x v).S=lv x.S from kin.lv];exact hh
 have hof:(ob (C8 x v).S h).Fields=(ob x.S h).Fields:=by
  obtain⟨m,e⟩:=kin.ob h (by have:=I0 hR hh;omega)
  show (ob (stO x v V1).S h).Fields=_;rw[e]
 have ok:=K3 hR1 hl1;have ho:OkO (C8 x v).S (flg (ob (C8 x v).S h) ((ob x.S h).Fields.set k v)):=⟨ok.s1,ok.s2,ok.st,ok.wk,ok.p1,ok.p2,by have:=ok.fl;rw[hof] at this;simpa using this⟩
 have sr2:=a08 (o:=flg (ob (C8 x v).S h) ((ob x.S h).Fields.set k v)) hR1 hl1 rfl ho;unfold a1u;refine SL.rls (x:=wS (C8 x v) (seO (C8 x v).S h (flg (ob (C8 x v).S h) ((ob x.S h).Fields.set k v)))) ?_ sr2 _;refine (hS.C8 hR v).of (a3Q hR1 hl1 rfl ho) λj hj=>?_;dsimp only;rw[a2W (o:=flg (ob (C8 x v).S h) ((ob x.S h).Fields.set k v)) hR1 hl1 rfl ho (by have:=I0 hR1 hj;omega)]
 split;·rename_i e;rw[e]
 ·rfl
theorem c8e{x:Hp}(hR:SR x.S)(hS:SL x)(v:Int)(t:Tb)(old:Int):SL (a6m x v t old):=by
 unfold a6m;exact SL.rls (x:=wT (C8 x v) t) (hS.C8 hR v) (a3P hR v) _
theorem d3E{x:Hp}(hR:SR x.S)(hS:SL x)(h:Int){d:Int}(hd:Y1 x.S h (D6 h)→0≤(ce x.S (D6 h)).Val.Weak+d):SL (mkd x h d):=by
 unfold mkd;split
 ·rename_i q;exact hS.of (a7k hR q.1 q.2.1 (hd q)).lv λk hk=>a7l hR q.1 q.2.1 (hd q) hk
 ·exact hS
theorem c4Y{x:Hp}(hR:SR x.S)(hS:SL x)(h:Int)(hd:Y1 x.S h (D6 h)→1≤(ce x.S (D6 h)).Val.Weak):SL (a9f x h):=by
 unfold a9f;split
 ·rename_i q;have hd:=hd q;have kn:=a7k (d:=-1) hR q.1 q.2.1 (by omega)
  have s1:SL (wS x (mkA x.S (D6 h) (-1))):=hS.of kn.lv λk hk=>a7l hR q.1 q.2.1 (by omega) hk
  split
  ·rename_i c;have hi1:D6 h<(mkA x.S (D6 h) (-1)).S.a8.length:=by rw[kn.len];exact q.1
   have hce:ce (mkA x.S (D6 h) (-1)) (D6 h)=⟨(ce x.S (D6 h)).State,(ce x.S (D6 h)).Gen,wkg (ce x.S (D6 h)).Val ((ce x.S (D6 h)).Val.Weak + -1)⟩:=by
    rw[a3L hR q.1 q.2.1,if_pos rfl]
   have h2:(ce (mkA x.S (D6 h) (-1)) (D6 h)).State=2:=by rw[hce];exact c.1
   exact s1.of (b8r kn.sr hi1 h2) λk hk=>by
    dsimp only;rw[b8s kn.sr hi1 h2 hk]
  ·exact s1
 ·exact hS
theorem c8X{x:Hp}(hx:N9 x)(hS:SL x){n:Nat}(hn:n<6)(h call:Int):SL (a2C x n h call):=by
 have hR:=hx.sh.sr;have hnl:n<x.a8.length:=by have:=hx.sh.c6;omega
 have ok:∀k i,Y1 x.S k i→0≤(ce x.S i).Val.Weak:=λk i q=>(hR.ok i q.1 q.2.1).wk;have tw:∀i,Y1 x.S (tgt x n) i→1≤(ce x.S i).Val.Weak:=λi q=>by
  have htg:tgt x n=x.a8[n].Target:=by
   unfold tgt;rw[List.getD_eq_getElem?_getD,List.getElem?_eq_getElem hnl];rfl
  have r:=q.rng hR;have p:=b1M hnl (by rw[←htg];omega)
  rw[←htg,q.2.2] at p;have:=(hx.wk i q.1 q.2.1).1;omega
 unfold a2C;have s1:SL (mkd (wC x (x.a8.set n (wcl h call))) h 1):=d3E (x:=wC x (x.a8.set n (wcl h call))) hR hS h λq=>by
  have:=ok _ _ q;dsimp only;omega
 by_cases q:Y1 x.S h (D6 h)
 ·have e:mkd (wC x (x.a8.set n (wcl h call))) h 1=wS (wC x (x.a8.set n (wcl h call))) (mkA x.S (D6 h) 1):=by
   unfold mkd;rw[if_pos q]
  have hd:=ok _ _ q;have kn:=a7k (d:=1) hR q.1 q.2.1 (by omega)
  rw[e] at s1 ⊢;refine c4Y kn.sr s1 _ λq2=>?_;dsimp only at q2 ⊢;have q3:=(kn.ad _ _).1 q2;have:=tw _ q3;rw[a3L hR q.1 q.2.1];split
  ·rename_i e2;rw[e2] at this;show 1≤(ce x.S (D6 h)).Val.Weak+1;omega
  ·exact this
 ·have e:mkd (wC x (x.a8.set n (wcl h call))) h 1=wC x (x.a8.set n (wcl h call)):=by
   unfold mkd;rw[if_neg q]
  rw[e] at s1 ⊢;exact c4Y (x:=wC x (x.a8.set n (wcl h call))) hR s1 _ λq2=>tw _ q2
section
variable{x:Hp}(hx:N9 x)(hS:SL x)
include hx hS
end
end Go.Sh
namespace Go.Sh
end Go.Sh
namespace Go.Sh
end Go.Sh
namespace Go.Sh
def b9R(x:Hp):Prop:=Sm x.S∧x.Roots.length≤20∧x.a8.length≤20∧x.T.length≤20∧x.Q.L.length≤60
instance(x:Hp):Decidable (b9R x):=by unfold b9R;infer_instance
theorem HpS.d7k{x:Hp}(h:HpS x):b9R x:=by
 have h1:=h.r6;have h2:=h.c6;have h3:=h.hr.l8;have h4:=h.q30;exact⟨d2e h.sr,by omega,by omega,by omega,by omega⟩
end Go.Sh
namespace Go.Sh
def c7x:Hp:=⟨⟨⟨[],0⟩,0⟩,[],[],[],⟨[],0⟩⟩
theorem b5Z(x:Hp)(h:Int)(f:Int→Int):(stO x h f).Roots=x.Roots∧(stO x h f).a8=x.a8∧(stO x h f).T=x.T∧(stO x h f).Q=x.Q:=by
 unfold stO;split <;> exact⟨rfl,rfl,rfl,rfl⟩
theorem a4T(x:Hp)(r:Nat)(h:Int):(G5 x r h).Roots=x.Roots.set r h∧(G5 x r h).a8=x.a8∧(G5 x r h).T=x.T∧(G5 x r h).Q=x.Q:=by
 obtain⟨a,b,c,d⟩:=b5Z (wR (C8 x h) (x.Roots.set r h)) (x.Roots.getD r 0) a6b;obtain⟨a',b',c',d'⟩:=b5Z x h V1;exact⟨a,b.trans b',c.trans c',d.trans d'⟩
section
variable{x:Hp}(hB:HB x)
include hB
end
end Go.Sh
namespace Go.Sh
abbrev ded(o:m9):m9:=⟨o.Serial,0,o.Weak,o.Prog,o.Started,[]⟩
def gnC(s:a7)(i:Nat):b9:=
 if (ce s i).Val.Weak=0 then (if (ce s i).Gen=s.S.Last then ⟨3,(ce s i).Gen,z0⟩ else ⟨0,(ce s i).Gen+1,z0⟩) else ⟨2,(ce s i).Gen,ded (ce s i).Val⟩
def gnA(s:a7)(d:Int):a7:=H7 s (D6 d) (gnC s (D6 d))
def gnL(s:a7)(ds:List Int):a7:=ds.foldl gnA s
theorem d3h(s:a7)(i:Nat):(gnC s i).State≠1:=by
 unfold gnC;split;·split <;> simp
 ·simp
theorem c2G{s:a7}(hR:SR s){a b:Int}(ha:a∈lv s)(hb:b∈lv s)(h:a≠b):D6 a≠D6 b:=λe=>by
 have h1:=A8 hR ha;have h2:=A8 hR hb;rw[e] at h1;exact h (h1.2.2.trans h2.2.2.symm)
section
variable{s:a7}(hR:SR s){d:Int}(hd:d∈lv s)
include hR hd
theorem c2q:SR (gnA s d):=by
 have q:=A8 hR hd;have hc:=hR.cell _ q.1;have ho:=hR.ok _ q.1 (.inl q.2.1);have no:c1W (oo z0):=⟨rfl,rfl,rfl,rfl,rfl,rfl⟩;unfold gnA gnC;split
 ·split;·exact hR.H7 q.1 ⟨by simp,by simp,hc.2.2.1,hc.2.2.2⟩ (λ_=>no) (λq=>absurd q (by unfold Th;simp))
  ·refine hR.H7 q.1 ⟨by simp,by simp,?_,?_⟩ (λ_=>no) (λq=>absurd q (by unfold Th;simp))
   ·show 0≤(ce s (D6 d)).Gen+1;omega
   ·show (ce s (D6 d)).Gen+1≤s.S.Last;omega
 ·exact hR.H7 q.1 ⟨by simp,by simp,hc.2.2.1,hc.2.2.2⟩ (λq=>absurd (.inr rfl) q) (λ_=>⟨⟨ho.s1,ho.s2,Int.le_refl _,ho.wk,ho.p1,ho.p2,Nat.zero_le _⟩,.inl q.2.1,rfl⟩)
theorem c7r(j:Nat):ce (gnA s d) j=if j=D6 d then gnC s (D6 d) else ce s j:=L0 (A8 hR hd).1 _ j
theorem d3f:lv (gnA s d)=(lv s).filter λh=>decide (h≠d):=by
 have hS:=c2q hR hd;unfold gnA at hS ⊢;have hc:=d3h s (D6 d);rw[c4g hR (A8 hR hd).1 hc hS];refine List.filter_congr λh hh=>decide_eq_decide.2 ⟨λq e=>q (by rw[e]),λq=>c2G hR hh hd q⟩
theorem d3g{k:Int}(hk:k∈lv s)(hne:k≠d):ob (gnA s d) k=ob s k:=by
 have hS:=c2q hR hd;unfold gnA at hS ⊢;exact c4m hR (A8 hR hd).1 hS hk (c2G hR hk hd hne)
end
structure Gn (s s':a7) (ds:List Int):Prop where
 sr:SR s'
 len:s'.S.a8.length=s.S.a8.length
 last:s'.S.Last=s.S.Last
 ser:s'.Serial=s.Serial
 lv:lv s'=(lv s).filter λh=>decide (h∉ds)
 ob:∀k∈Sh.lv s,k∉ds→ob s' k=ob s k
 ce:∀j,ce s' j=if j∈ds.map D6 then gnC s j else ce s j
theorem a15:∀(ds:List Int) {s:a7} (hR:SR s),ds.Nodup→(∀d∈ds,d∈lv s)→Gn s (gnL s ds) ds
 | [],s,hR,_,_=>⟨hR,rfl,rfl,rfl,(List.filter_eq_self.2 (λa _=>by simp)).symm,λ_ _ _=>rfl,λj=>by simp[gnL]⟩
 | d::ds,s,hR,hn,hm=>by
  rw[List.nodup_cons] at hn;have hd:=hm d (List.mem_cons_self ..);have hlv:=d3f hR hd;have hm':∀e∈ds,e∈lv (gnA s d):=λe he=>by
   rw[hlv,List.mem_filter,decide_eq_true_iff];exact⟨hm e (List.mem_cons_of_mem _ he),λq=>hn.1 (q▸he)⟩
  have ih:=a15 ds (c2q hR hd) hn.2 hm';refine⟨ih.sr,ih.len.trans (Y0 ..),ih.last,ih.ser,?_,λk hk hne=>?_,λj=>?_⟩
  ·show lv (gnL (gnA s d) ds)=_;rw[ih.lv,hlv,List.filter_filter];refine List.filter_congr λh hh=>?_;rw[Bool.eq_iff_iff];simp only[Bool.and_eq_true,decide_eq_true_iff,List.mem_cons,not_or];exact⟨λq=>⟨q.2,q.1⟩,λq=>⟨q.2,q.1⟩⟩
  ·show ob (gnL (gnA s d) ds) k=_;rw[List.mem_cons,not_or] at hne;rw[ih.ob k (by rw[hlv,List.mem_filter,decide_eq_true_iff];exact⟨hk,hne.1⟩) hne.2,d3g hR hd hk hne.1]
  ·show ce (gnL (gnA s d) ds) j=_;have hg:∀e∈ds,D6 e≠D6 d:=λe he=>c2G hR (hm e (List.mem_cons_of_mem _ he)) hd λq=>hn.1 (q▸he);rw[ih.ce];by_cases h1:j∈ds.map D6
   ·obtain⟨e,he,rfl⟩:=List.mem_map.1 h1;rw[if_pos h1,if_pos (by rw[List.map_cons];exact List.mem_cons_of_mem _ h1)]
    unfold gnC;rw[c7r hR hd,if_neg (hg e he)];rfl
   ·rw[if_neg h1,c7r hR hd,List.map_cons];by_cases h2:j=D6 d
    ·subst h2;rw[if_pos rfl,if_pos (List.mem_cons_self ..)]
    ·rw[if_neg h2,if_neg];rw[List.mem_cons];exact λq=>q.elim h2 h1
theorem b7A{α:Type}(p:α→Bool)(f:α→Nat):∀l:List α,(l.map f).sum=((l.filter p).map f).sum+((l.filter λx => !p x).map f).sum
 | []=>rfl
 | x::l=>by
  rw[List.map_cons,List.sum_cons,b7A p f l,List.filter_cons,List.filter_cons];cases p x <;> simp <;> omega
theorem c1C(f:Int→List Int)(y:Int):∀l:List Int,tms (l.flatMap f) y=(l.map λx=>tms (f x) y).sum
 | []=>Q2 y
 | x::l=>by rw[List.flatMap_cons,K7,c1C f y l,List.map_cons,List.sum_cons]
theorem Gn.inn{s s':a7}{ds:List Int}(hR:SR s)(hn:ds.Nodup)(hm:∀d∈ds,d∈Sh.lv s)(g:Gn s s' ds)(y:Int):inn s' y+tms (ds.flatMap (outs s)) y=inn s y:=by
 unfold Sh.inn;rw[g.lv,b7A (λh=>decide (h∉ds)) (λx=>tms (outs s x) y) (Sh.lv s),c1C];have h1:((Sh.lv s).filter λh=>decide (h∉ds)).map (λx=>tms (outs s' x) y)=((Sh.lv s).filter λh=>decide (h∉ds)).map λx=>tms (outs s x) y:=List.map_congr_left λx hx=>by
  rw[List.mem_filter,decide_eq_true_iff] at hx;unfold Sh.outs;rw[g.ob x hx.1 hx.2]
 have h2:((Sh.lv s).filter λx => !decide (x∉ds)).Perm ds:=by
  rw[List.perm_ext_iff_of_nodup ((b1H (w9.2 hR)).filter _) hn];intro a;rw[List.mem_filter];simp only[decide_not,Bool.not_not,decide_eq_true_iff];exact⟨λq=>q.2,λq=>⟨hm a q,q⟩⟩
 rw[h1,(h2.map λx=>tms (outs s x) y).sum_nat]
theorem c0D{L:List k9}(hd:L.Pairwise λa b=>¬(a.Kind=b.Kind∧a.At=b.At))(k:Int):((L.filter (·.Kind==k)).map (·.At)).Nodup:=by
 unfold List.Nodup;rw[List.pairwise_map];refine (hd.filter _).imp_of_mem λ{a b} ha hb h e=>?_;rw[List.mem_filter,beq_iff_eq] at ha hb;exact h ⟨ha.2.trans hb.2.symm,e⟩
theorem b50{L:List k9}{m:List Int}(hd:L.Pairwise λa b=>¬(a.Kind=b.Kind∧a.At=b.At))(h:∀t∈L,(t.Kind=1∧t.At∈m)∨(t.Kind=2∧0≤t.At∧t.At≤5)):L.length≤m.length+6:=by
 have h1:L.length=(L.filter (·.Kind==1)).length+(L.filter (·.Kind==2)).length:=by
  rw[b1j (λt:k9=>t.Kind==1) L];congr 2;refine List.filter_congr λt ht=>?_;rcases h t ht with q | q
  ·simp[q.1]
  ·simp[q.1]
 have h2:=a4K (c0D hd 1) (m:=m) λa ha=>by
  obtain⟨t,ht,rfl⟩:=List.mem_map.1 ha;rw[List.mem_filter,beq_iff_eq] at ht;rcases h t ht.1 with q | q
  ·exact q.2
  ·omega
 have h3:=a4K (c0D hd 2) (m:=[0,1,2,3,4,5]) λa ha=>by
  obtain⟨t,ht,rfl⟩:=List.mem_map.1 ha;rw[List.mem_filter,beq_iff_eq] at ht;rcases h t ht.1 with q | q
  ·omega
  ·simp only[List.mem_cons,List.not_mem_nil,or_false];omega
 rw[List.length_map] at h2 h3;simp only[List.length_cons,List.length_nil] at h3;omega
theorem a5L{q:TQ}{w:Int}:wts q w=true↔∃t∈q.L,t.Kind=2∧t.At=w:=by
 unfold wts;rw[List.any_eq_true];simp
theorem b1K{q:TQ}{h:Int}:h∈b6r q↔∃t∈q.L,t.Kind=1∧t.At=h:=by
 unfold b6r;rw[List.mem_map];simp only[List.mem_filter,beq_iff_eq];exact⟨λ⟨t,⟨a,b⟩,c⟩=>⟨t,a,b,c⟩,λ⟨t,a,b,c⟩=>⟨t,⟨a,b⟩,c⟩⟩
abbrev cz:g6:=⟨0,false,0⟩
def a33(ds:List Int)(c:g6):Bool:=c.Intact&&c.Target != 0&&decide (c.Target∈ds)
def a8u(ds:List Int)(c:g6):g6:=if a33 ds c then ⟨c.Target,false,c.Call⟩ else c
def clr(l:List g6)(ds:List Int):List g6:=l.map (a8u ds)
def cls(l:List g6)(ds:List Int):List Nat:=(List.range l.length).filter λw=>a33 ds (l.getD w cz)&&decide (0≤(l.getD w cz).Call)
def clt(l:List g6)(ds:List Int):List k9:=(cls l ds).map λ(w:Nat)=>⟨2,(w:Int),(l.getD w cz).Call⟩
theorem b72(ds:List Int)(c:g6):(a8u ds c).Target=c.Target∧(a8u ds c).Call=c.Call∧((a8u ds c).Intact=true↔c.Intact=true∧a33 ds c=false):=by
 unfold a8u;cases h:a33 ds c
 ·rw[if_neg (by simp)]
  simp
 ·rw[if_pos rfl];simp
theorem d0w(l:List g6)(ds:List Int)(h:Int):nmg (clr l ds) h=nmg l h:=by
 unfold nmg clr;rw[List.countP_map];congr 1;funext c
 simp only[Function.comp_apply,(b72 ds c).1]
theorem a35{l:List g6}{ds:List Int}{t:k9}:t∈clt l ds↔∃w,∃hw:w<l.length,t=⟨2,(w:Int),l[w].Call⟩∧a33 ds l[w]=true∧0≤l[w].Call:=by
 unfold clt cls;rw[List.mem_map];constructor
 ·rintro⟨w,hw,rfl⟩;rw[List.mem_filter,List.mem_range] at hw;obtain⟨h1,h2⟩:=hw;have e:l.getD w cz=l[w]:=by rw[List.getD_eq_getElem?_getD,List.getElem?_eq_getElem h1];rfl
  rw[e] at h2 ⊢;rw[Bool.and_eq_true,decide_eq_true_iff] at h2;exact⟨w,h1,rfl,h2.1,h2.2⟩
 ·rintro⟨w,hw,rfl,h2,h3⟩;have e:l.getD w cz=l[w]:=by rw[List.getD_eq_getElem?_getD,List.getElem?_eq_getElem hw];rfl
  refine⟨w,?_,by rw[e]⟩
  rw[List.mem_filter,List.mem_range,e,Bool.and_eq_true,decide_eq_true_iff];exact⟨hw,h2,h3⟩
theorem b6S(l:List g6)(ds:List Int):(clt l ds).Pairwise λa b=>¬(a.Kind=b.Kind∧a.At=b.At):=by
 unfold clt cls;rw[List.pairwise_map];refine (List.Pairwise.filter _ (List.nodup_range (n:=l.length))).imp λ{a b} h=>?_;rintro⟨_,e⟩;dsimp only at e;omega
end Go.Sh
namespace Go.Sh
def a47(x:Hp)(ds:List Int)(t:Tb):Hp:=⟨gnL x.S ds,x.Roots,clr x.a8 ds,t,⟨x.Q.L++clt x.a8 ds,x.Q.Cap⟩⟩
theorem b5j(q:TQ)(l:List k9)(c:Int)(h:∀t∈l,t.Kind≠1):b6r ⟨q.L++l,c⟩=b6r q:=by
 unfold b6r;dsimp only;rw[List.filter_append];have:l.filter (λt=>t.Kind==1) = []:=by
  rw[List.filter_eq_nil_iff];intro t ht;simpa using h t ht
 rw[this,List.append_nil]
theorem c5j{x:Hp}(hx:N9 x){ds:List Int}(hn:ds.Nodup)(hm:∀d∈ds,d∈lv x.S)
  (ho:∀d∈ds,d∉otr x)(hf:∀h∈lv x.S,h∉ds→∀v∈(ob x.S h).Fields,v∉ds)(hp:∀k v,Has x.T k v→k∉ds→v∉ds)
  {t:Tb}{vals:List Int}(ht:HR t)(h1:∀k v,Has t k v↔k∉ds∧Has x.T k v)(h2:∀y,own t y+tms vals y=own x.T y) :
  HpS (a47 x ds t)∧Wk (a47 x ds t)∧a1F (a47 x ds t) (ds.flatMap (outs x.S)++vals):=by
 have hS:=hx.sh;have hR:=hS.sr;have g:=a15 ds hR hn hm;have hlv:∀h,h∈lv (gnL x.S ds)↔h∈lv x.S∧h∉ds:=λh=>by rw[g.lv,List.mem_filter,decide_eq_true_iff]
 have hlen:(lv x.S).length≤24:=G2 (w9.2 hR);have hcl:∀w (hw:w<x.a8.length),a33 ds x.a8[w]=true→x.a8[w].Intact=true:=λw hw q=>by
  unfold a33 at q;rw[Bool.and_eq_true,Bool.and_eq_true] at q;exact q.1.1
 have htd:(x.Q.L++clt x.a8 ds).Pairwise λa b=>¬(a.Kind=b.Kind∧a.At=b.At):=by
  rw[List.pairwise_append];refine⟨hS.td,b6S ..,λa ha b hb q=>?_⟩;obtain⟨w,hw,rfl,hh,_⟩:=a35.1 hb;have:=((hS.cl w hw).2.2.2.2 (hcl w hw hh)).2;rw[Bool.eq_false_iff] at this;exact this (a5L.2 ⟨a,ha,q.1,q.2⟩)
 have htk:∀t∈x.Q.L++clt x.a8 ds,0≤t.Prog∧t.Prog≤5∧((t.Kind=1∧t.At∈lv (gnL x.S ds)∧(ob (gnL x.S ds) t.At).Started=true)∨(t.Kind=2∧0≤t.At∧t.At≤5)):=λt htt=>by
  rcases List.mem_append.1 htt with q | q
  ·obtain⟨a,b,c⟩:=hS.tk t q;refine⟨a,b,?_⟩;rcases c with ⟨c1,c2,c3⟩ | c
   ·have hnd:t.At∉ds:=λhd=>ho _ hd (List.mem_append.2 (.inr (b1K.2 ⟨t,q,c1,rfl⟩)));exact .inl ⟨c1,(hlv _).2 ⟨c2,hnd⟩,by rw[g.ob _ c2 hnd];exact c3⟩
   ·exact .inr c
  ·obtain⟨w,hw,rfl,hh,hc⟩:=a35.1 q;have c6:=hS.c6;have:=(hS.cl w hw).2.1;exact⟨hc,this,.inr ⟨rfl,by dsimp only;omega,by dsimp only;omega⟩⟩
 have hq30:(x.Q.L++clt x.a8 ds).length≤30:=by
  have:=b50 (m:=lv x.S) htd λt htt=>by
   rcases (htk t htt).2.2 with q | q
   ·exact .inl ⟨q.1,((hlv _).1 q.2.1).1⟩
   ·exact .inr q
  omega
 have hwts:∀i:Nat,wts x.Q i=false→(∀hi:i<x.a8.length,a33 ds x.a8[i]=false)→wts ⟨x.Q.L++clt x.a8 ds,x.Q.Cap⟩ i=false:=λi q1 q2=>by
  rw[Bool.eq_false_iff] at q1 ⊢;intro q;obtain⟨t,ht,a,b⟩:=a5L.1 q;rcases List.mem_append.1 ht with c | c
  ·exact q1 (a5L.2 ⟨t,c,a,b⟩)
  ·obtain⟨w,hw,rfl,hh,_⟩:=a35.1 c;dsimp only at b;have:w=i:=by omega
   subst this;rw[q2 hw] at hh;cases hh
 refine⟨⟨g.sr,ht,hS.r6,?_,hS.cap,hq30,htk,htd,λh hh=>?_,λh hh v hv=>?_,λk v hkv=>?_,λi hi=>?_⟩,λi hi hti=>?_,λh hh hlt=>?_⟩
 ·unfold a47 clr;rw[List.length_map];exact hS.c6
 ·rcases hS.rt h hh with q | q
  ·exact .inl q
  ·have h0:h≠0:=λe=>a93 hR (e▸q);exact .inr ((hlv h).2 ⟨q,λhd=>ho h hd (List.mem_append.2 (.inl (a7n.2 ⟨hh,h0⟩)))⟩)
 ·obtain⟨a,b⟩:=(hlv h).1 hh;have hv':v∈(ob x.S h).Fields:=by
   have e:=g.ob h a b;unfold a47 at hv;rwa [e] at hv
  rcases hS.fl h a v hv' with q | q
  ·exact .inl q
  ·exact .inr ((hlv v).2 ⟨q,hf h a b v hv'⟩)
 ·obtain⟨a,b⟩:=(h1 k v).1 hkv;obtain⟨c,d⟩:=hS.pr k v b;exact⟨(hlv k).2 ⟨c,a⟩,(hlv v).2 ⟨d,hp k v b a⟩⟩
 ·have hi':i<x.a8.length:=by
   unfold a47 clr at hi;simpa using hi
  have e:(a47 x ds t).a8[i]=a8u ds x.a8[i]:=List.getElem_map _;obtain⟨a1,a2,a3,a4,a5⟩:=hS.cl i hi';obtain⟨b1,b2,b3⟩:=b72 ds x.a8[i];rw[e,b1,b2];refine⟨a1,a2,λq=>?_,λq=>?_,λq=>?_⟩
  ·rw[Bool.eq_false_iff];intro q2;rw[a3 q] at b3;exact absurd (b3.1 q2).1 (by decide)
  ·obtain⟨p,hp1,hp2,hp3⟩:=a4 q;refine⟨p,by show p<(gnL x.S ds).S.a8.length;rw[g.len];exact hp1,?_⟩
   show Th (ce (gnL x.S ds) p)∧_=1+(p:Int)+32*(ce (gnL x.S ds) p).Gen;rw[g.ce];split
   ·have hw:=(hx.wk p hp1 hp2).1;have:=b1M hi' q;rw[hp3] at this;unfold gnC;rw[if_neg (by omega)]
    exact⟨.inr rfl,hp3⟩
   ·exact⟨hp2,hp3⟩
  ·obtain⟨c1,c2⟩:=b3.1 q;obtain⟨d1,d2⟩:=a5 c1;have h0:x.a8[i].Target≠0:=λe=>a93 hR (e▸d1);refine⟨(hlv _).2 ⟨d1,λhd=>?_⟩,hwts i d2 λ_=>c2⟩;have:a33 ds x.a8[i]=true:=by
    unfold a33;simp[c1,h0,hd]
   rw[this] at c2;cases c2
 ·have hi':i<x.S.S.a8.length:=by
   have:=g.len;have hi:i<(gnL x.S ds).S.a8.length:=hi;omega
  show (ce (gnL x.S ds) i).Val.Weak=(nmg (clr x.a8 ds) (1+(i:Int)+32*(ce (gnL x.S ds) i).Gen):Int)∧((ce (gnL x.S ds) i).State=2→_);have hti':Th (ce (gnL x.S ds) i):=hti;show _∧((ce (gnL x.S ds) i).State=2→1≤(ce (gnL x.S ds) i).Val.Weak∧(ce (gnL x.S ds) i).Val.Fields = []∧(ce (gnL x.S ds) i).Val.Strong=0);rw[d0w];rw[g.ce] at hti' ⊢;split
  ·rename_i q;rw[if_pos q] at hti';obtain⟨d,hd,rfl⟩:=List.mem_map.1 q;have hp:=A8 hR (hm d hd);have hw:=(hx.wk _ hi' (.inl hp.2.1)).1;unfold gnC at hti' ⊢;split at hti'
   ·exfalso;unfold Th at hti';split at hti' <;> simp at hti'
   ·rename_i q2;rw[if_neg q2];have:=(hR.ok _ hi' (.inl hp.2.1)).wk;exact⟨hw,λ_=>⟨by dsimp only;omega,rfl,rfl⟩⟩
  ·rename_i q;rw[if_neg q] at hti';exact hx.wk i hi' hti'
 ·obtain⟨a,b⟩:=(hlv h).1 hh;have e:=g.ob h a b;have e':ob (a47 x ds t).S h=ob x.S h:=e;rw[e'] at hlt ⊢;have hf:=hx.fair h a hlt;rw[Q2] at hf;rw[hf];have i1:=g.inn hR hn hm h;have i2:=h2 h;have i3:b6r ⟨x.Q.L++clt x.a8 ds,x.Q.Cap⟩=b6r x.Q:=b5j _ _ _ λt ht=>by
   obtain⟨w,_,rfl,_⟩:=a35.1 ht;simp
  unfold nms otr a47;dsimp only;rw[i3,K7 (ds.flatMap (outs x.S)),K7];omega
theorem b5O:∀(l:List Int) {x:Hp},HpS x→Wk x→a1F x l→N9 (l.foldl Q5 x)
 | [],x,h1,h2,h3=>⟨h1,h2,h3⟩
 | v::l,x,h1,h2,h3=>b5O l (h1.st v λc=>O5) (h2.st h1.sr v λc=>O5) (b2m h1.sr h3)
abbrev srt(o:m9):m9:=⟨o.Serial,o.Strong,o.Weak,o.Prog,true,o.Fields⟩
abbrev qtk(x:Hp)(h:Int):k9:=⟨1,h,(ob x.S h).Prog⟩
noncomputable def quH(x:Hp)(h:Int):Hp:=C8 ⟨seO x.S h (srt (ob x.S h)),x.Roots,x.a8,x.T,⟨x.Q.L ++ [qtk x h],x.Q.Cap⟩⟩ h
theorem b26{x:Hp}(hx:N9 x){h:Int}(hh:h∈lv x.S)(hp:0≤(ob x.S h).Prog)(hs:(ob x.S h).Started=false):N9 (quH x h):=by
 have hS:=hx.sh;have hR:=hS.sr;have oko:=K3 hR hh;have ho:OkO x.S (srt (ob x.S h)):=⟨oko.s1,oko.s2,oko.st,oko.wk,oko.p1,oko.p2,oko.fl⟩;have r1:=a08 (o:=srt (ob x.S h)) hR hh rfl ho;have l1:=a3Q (o:=srt (ob x.S h)) hR hh rfl ho;have o1:∀j,j∈lv x.S→ob (seO x.S h (srt (ob x.S h))) j=if j=h then srt (ob x.S h) else ob x.S j:=λj hj=>by
  have:=I0 hR hj;exact a2W (o:=srt (ob x.S h)) hR hh rfl ho (by omega)
 have hlen:(lv x.S).length≤24:=G2 (w9.2 hR);have s1:HpS (wS x (seO x.S h (srt (ob x.S h)))):=hS.of r1 l1 (λk i q=>(c3a (o:=srt (ob x.S h)) hR hh rfl ho).2 q) (λk hk q=>by
  rw[o1 k hk];split;·rfl
  ·exact q) λk hk v hv=>by
  rw[o1 k hk] at hv;split at hv;·rename_i e;subst e;exact hS.fl k hk v hv
  ·exact hS.fl k hk v hv
 have w1:Wk (wS x (seO x.S h (srt (ob x.S h)))):=λi hi ht=>by
  have M0:=A8 hR hh;have hc:=b9l (o:=srt (ob x.S h)) hR hh rfl ho i;dsimp only at hi ht ⊢;rw[hc] at ht ⊢;have hi':i<x.S.S.a8.length:=by unfold seO at hi;rwa [M8] at hi
  split at ht
  ·rename_i e;subst e;rw[if_pos rfl];dsimp only;have:=hx.wk _ hi' (.inl M0.2.1);rw[P2 hR M0];exact⟨this.1,λq=>absurd q (by rw[M0.2.1];decide)⟩
  ·rename_i e;rw[if_neg e];exact hx.wk i hi' ht
 have htd:(x.Q.L ++ [qtk x h]).Pairwise λa b=>¬(a.Kind=b.Kind∧a.At=b.At):=by
  rw[List.pairwise_append];refine⟨hS.td,by simp,λa ha b hb q=>?_⟩
  rw[List.mem_singleton] at hb;subst hb;dsimp only at q;rcases (hS.tk a ha).2.2 with c | c
  ·rw[q.2,hs] at c;exact absurd c.2.2 (by decide)
  ·omega
 have htk:∀t∈x.Q.L ++ [qtk x h],0≤t.Prog∧t.Prog≤5∧((t.Kind=1∧t.At∈lv (seO x.S h (srt (ob x.S h)))∧(ob (seO x.S h (srt (ob x.S h))) t.At).Started=true)∨(t.Kind=2∧0≤t.At∧t.At≤5)):=λt ht=>by
  rcases List.mem_append.1 ht with q | q
  ·exact s1.tk t q
  ·rw[List.mem_singleton] at q;subst q;refine⟨hp,oko.p2,.inl ⟨rfl,by rw[l1];exact hh,?_⟩⟩
   dsimp only;rw[o1 h hh,if_pos rfl]
 have hq30:(x.Q.L ++ [qtk x h]).length≤30:=by
  have:=b50 (m:=lv x.S) htd λt ht=>by
   rcases (htk t ht).2.2 with q | q
   ·exact .inl ⟨q.1,by rw[←l1];exact q.2.1⟩
   ·exact .inr q
  omega
 have s2:HpS ⟨seO x.S h (srt (ob x.S h)),x.Roots,x.a8,x.T,⟨x.Q.L ++ [qtk x h],x.Q.Cap⟩⟩:=by
  refine⟨s1.sr,s1.hr,s1.r6,s1.c6,s1.cap,hq30,htk,htd,s1.rt,s1.fl,s1.pr,λi hi=>?_⟩;obtain⟨a,b,c,d,e⟩:=s1.cl i hi;refine⟨a,b,c,d,λq=>⟨(e q).1,?_⟩⟩;have:=(e q).2;rw[Bool.eq_false_iff] at this ⊢;intro q2;obtain⟨t,ht,k1,k2⟩:=a5L.1 q2;rcases List.mem_append.1 ht with q3 | q3
  ·exact this (a5L.2 ⟨t,q3,k1,k2⟩)
  ·rw[List.mem_singleton] at q3;subst q3;dsimp only at k1;omega
 have w2:Wk ⟨seO x.S h (srt (ob x.S h)),x.Roots,x.a8,x.T,⟨x.Q.L ++ [qtk x h],x.Q.Cap⟩⟩:=w1;refine⟨s2.st h λc=>E0,w2.st s2.sr h λc=>E0,λk hk hlt=>?_⟩;have hk':k∈lv x.S:=by
  have:lv (quH x h).S=lv x.S:=(G6 s2.sr h λc=>E0).lv.trans l1;rw[←this];exact hk
 have hst:(ob (quH x h).S k).Strong=if k=h then V1 (ob x.S k).Strong else (ob x.S k).Strong:=by
  have:=b3k (x:=⟨seO x.S h (srt (ob x.S h)),x.Roots,x.a8,x.T,⟨x.Q.L ++ [qtk x h],x.Q.Cap⟩⟩) s2.sr h (f:=V1) (λc=>E0) (k:=k) (by rw[←l1] at hk';exact hk')
  refine Eq.trans this ?_;dsimp only;rw[o1 k hk'];by_cases e:k=h
  ·subst e;rw[if_pos rfl,if_pos rfl,if_pos rfl]
  ·rw[if_neg e,if_neg e,if_neg e]
 have hnm:nms (quH x h) k=nms x k+if k=h then 1 else 0:=by
  have:=b4C (x:=⟨seO x.S h (srt (ob x.S h)),x.Roots,x.a8,x.T,⟨x.Q.L ++ [qtk x h],x.Q.Cap⟩⟩) s2.sr h (f:=V1) (λc=>E0) k;refine Eq.trans this ?_;have hi:=c38 (o:=srt (ob x.S h)) hR hh rfl ho k;dsimp only at hi;have h0:k≠0:=λe=>a93 hR (e▸hk');unfold nms otr b6r;dsimp only;rw[List.filter_append,List.map_append,K7,K7,K7];have:tms (List.map (·.At) (List.filter (λt:k9=>t.Kind==1) [qtk x h])) k=if k=h then 1 else 0:=by
   show tms [h] k=_;rw[H0,Q2];by_cases e:k=h
   ·rw[if_pos ⟨e.symm,h0⟩,if_pos e]
   ·rw[if_neg (λq=>e q.1.symm),if_neg e]
  rw[this];omega
 rw[hst] at hlt ⊢;rw[hnm,Q2];have hpos:=(K3 hR hk').st;by_cases e:k=h
 ·rw[if_pos e] at hlt ⊢;rw[if_pos e];have:=hx.fair k hk' (by unfold V1 at hlt;split at hlt <;> omega)
  rw[Q2] at this;unfold V1 at hlt ⊢;split at hlt;·omega
  ·rename_i q;rw[if_neg q,if_neg (by omega)]
   omega
 ·rw[if_neg e] at hlt ⊢;rw[if_neg e];have:=hx.fair k hk' hlt;rw[Q2] at this;exact this
end Go.Sh
namespace Go.Sh
noncomputable def zr(x:Hp):List Int:=(lv x.S).filter λh=>(ob x.S h).Strong==0
theorem a1E{x:Hp}{h:Int}:h∈zr x↔h∈lv x.S∧(ob x.S h).Strong=0:=by
 unfold zr;rw[List.mem_filter,beq_iff_eq]
theorem b9K{x:Hp}(hx:N9 x){z:Int}(hz:z∈zr x):nms x z=0:=by
 obtain⟨a,b⟩:=a1E.1 hz;have:=hx.fair z a (by omega)
 rw[Q2] at this;omega
theorem c1D{l:List Int}{h:Int}(h0:h≠0)(e:tms l h=0):h∉l:=λq=>by
 have:=a2r.2 ⟨h0,q⟩;omega
theorem c7F{α:Type}(f:α→Nat):∀ {l:List α} {a:α},a∈l→f a≤(l.map f).sum
 | b::l,a,h=>by
  rw[List.map_cons,List.sum_cons];rcases List.mem_cons.1 h with e | e
  ·subst e;omega
  ·have:=c7F f e;omega
theorem b8y{s:a7}{a y:Int}(ha:a∈lv s):tms (outs s a) y≤inn s y:=c7F (λx=>tms (outs s x) y) ha
theorem b8M{t:Tb}{k v:Int}(h:Has t k v)(h0:v≠0):0<own t v:=List.countP_pos_iff.2 ⟨⟨k,v⟩,a36.2 h,by simp[h0]⟩
def wot(t:Tb)(ks:List Int):Tb × List Int:=(Y2 t ks).getD (t,[])
theorem a42{t:Tb}(hT:HR t)(ks:List Int)(hks:ks.length≤1000):Y2 t ks=some (wot t ks)∧HR (wot t ks).1∧(wot t ks).2.length≤ks.length∧a3y (t.map M0) ks=some ((wot t ks).1.map M0,(wot t ks).2) ∧
  (∀k v,Has (wot t ks).1 k v↔k∉ks∧Has t k v)∧∀y,own (wot t ks).1 y+tms (wot t ks).2 y=own t y:=by
 obtain⟨a,had,h1,h2,h3,h4,h5,h6,h7,h8,h9⟩:=c1O hT ks hks;have:wot t ks=(a,had):=by unfold wot;rw[h1];rfl
 rw[this];exact⟨h1,h2,h4,h5,h6,h9⟩
noncomputable def buH(x:Hp)(ds:List Int):Hp:=(ds.flatMap (outs x.S)++(wot x.T ds).2).foldl Q5 (a47 x ds (wot x.T ds).1)
theorem a4R:∀(l:List Int) {x:Hp},SR x.S→Kin x.S (l.foldl Q5 x).S∧l.foldl Q5 x=wS x (l.foldl Q5 x).S
 | [],x,h=>⟨Kin.refl h,rfl⟩
 | v::l,x,h=>by
  have k1:=G6 h v (f:=a6b) λc=>O5;obtain⟨k2,e⟩:=a4R l (x:=Q5 x v) k1.sr;refine⟨k1.trans k2,?_⟩;show l.foldl Q5 (Q5 x v)=wS x (l.foldl Q5 (Q5 x v)).S;rw[e,d4u x v]
theorem b6P{x:Hp}(hx:N9 x){ds:List Int}(hn:ds.Nodup)(hm:∀d∈ds,d∈lv x.S)
  (ho:∀d∈ds,d∉otr x)(hf:∀h∈lv x.S,h∉ds→∀v∈(ob x.S h).Fields,v∉ds)(hp:∀k v,Has x.T k v→k∉ds→v∉ds):N9 (buH x ds):=by
 have hl:ds.length≤24:=Nat.le_trans (a4K hn hm) (G2 (w9.2 hx.sh.sr));obtain⟨_,w1,_,_,w2,w3⟩:=a42 hx.sh.hr ds (by omega)
 obtain⟨a,b,c⟩:=c5j hx hn hm ho hf hp w1 w2 w3;exact b5O _ a b c
theorem c16{x:Hp}(hR:SR x.S){ds:List Int}(hn:ds.Nodup)(hm:∀d∈ds,d∈lv x.S):lv (buH x ds).S=(lv x.S).filter λh=>decide (h∉ds):=by
 have g:=a15 ds hR hn hm;exact (a4R (ds.flatMap (outs x.S)++(wot x.T ds).2) (x:=a47 x ds (wot x.T ds).1) g.sr).1.lv.trans g.lv
theorem c17{x:Hp}(hR:SR x.S){ds:List Int}(hn:ds.Nodup)(hm:∀d∈ds,d∈lv x.S){k:Int}(hk:k∈lv x.S)(hd:k∉ds):∃n,ob (buH x ds).S k=stg (ob x.S k) n:=by
 have g:=a15 ds hR hn hm;have hr:=I0 hR hk;obtain⟨n,e⟩:=(a4R (ds.flatMap (outs x.S)++(wot x.T ds).2) (x:=a47 x ds (wot x.T ds).1) g.sr).1.ob k (by omega)
 refine⟨n,?_⟩;have e':ob (buH x ds).S k=_:=e;have g':ob (a47 x ds (wot x.T ds).1).S k=ob x.S k:=g.ob k hk hd;rw[e',g']
theorem b1c{x:Hp}(hR:SR x.S){ds:List Int}(hn:ds.Nodup)(hm:∀d∈ds,d∈lv x.S):(buH x ds).Roots=x.Roots∧(buH x ds).a8=clr x.a8 ds∧(buH x ds).T=(wot x.T ds).1∧(buH x ds).Q=⟨x.Q.L++clt x.a8 ds,x.Q.Cap⟩:=by
 have g:=a15 ds hR hn hm;have e:=(a4R (ds.flatMap (outs x.S)++(wot x.T ds).2) (x:=a47 x ds (wot x.T ds).1) g.sr).2;have e':buH x ds=wS (a47 x ds (wot x.T ds).1) (buH x ds).S:=e;rw[e'];exact⟨rfl,rfl,rfl,rfl⟩
theorem b6d{x:Hp}(hx:N9 x){z:Int}(hz:z∈zr x):N9 (buH x [z]):=by
 obtain⟨a,b⟩:=a1E.1 hz;have h0:z≠0:=λe=>a93 hx.sh.sr (e▸a);have hn:=b9K hx hz;unfold nms at hn;refine b6P hx (by simp) (by simpa using a) (λd hd=>?_) (λh hh hne v hv q=>?_) (λk v hkv _ q=>?_)
 ·rw[List.mem_singleton] at hd;subst hd;exact c1D h0 (by omega)
 ·rw[List.mem_singleton] at q;subst q;have:=b8y (y:=v) hh;have h1:=a2r.2 ⟨h0,show v∈outs x.S h from a7n.2 ⟨hv,h0⟩⟩;omega
 ·rw[List.mem_singleton] at q;subst q;have:=b8M hkv h0;omega
def due(o:m9):Bool:=decide (0≤o.Prog) && !o.Started
noncomputable def stp(x:Hp):Hp:=match zr x with
 | []=>x
 | z::_=>if due (ob x.S z) then quH x z else buH x [z]
noncomputable def stN:Nat→Hp→Hp
 | 0,x=>x
 | n+1,x=>stN n (stp x)
theorem a2q(n:Nat)(x:Hp):stN (n+1) x=stp (stN n x):=by
 induction n generalizing x with
 | zero=>rfl
 | succ n ih=>exact ih (stp x)
theorem a9R{x:Hp}(h:zr x = []):stp x=x:=by unfold stp;rw[h]
theorem a4X{x:Hp}{z:Int}{l:List Int}(h:zr x=z::l):stp x=if due (ob x.S z) then quH x z else buH x [z]:=by unfold stp;rw[h]
theorem c6d{x:Hp}(hx:N9 x):N9 (stp x):=by
 cases h:zr x with
 | nil=>rw[a9R h];exact hx
 | cons z l=>
  have hz:z∈zr x:=by rw[h];exact List.mem_cons_self ..
  rw[a4X h];split
  ·rename_i q;unfold due at q;rw[Bool.and_eq_true,decide_eq_true_iff,Bool.not_eq_true'] at q;exact b26 hx (a1E.1 hz).1 q.1 q.2
  ·exact b6d hx hz
theorem a0W{x:Hp}(hx:N9 x)(n:Nat):N9 (stN n x):=by
 induction n with
 | zero=>exact hx
 | succ n ih=>rw[a2q];exact c6d ih
section
variable{x:Hp}(hR:SR x.S){h:Int}(hh:h∈lv x.S)
include hR hh
theorem a7s:Kin (seO x.S h (srt (ob x.S h))) (quH x h).S∧(quH x h).Roots=x.Roots∧(quH x h).a8=x.a8∧(quH x h).T=x.T∧(quH x h).Q=⟨x.Q.L ++ [qtk x h],x.Q.Cap⟩:=by
 have oko:=K3 hR hh;have r1:=a08 (o:=srt (ob x.S h)) hR hh rfl ⟨oko.s1,oko.s2,oko.st,oko.wk,oko.p1,oko.p2,oko.fl⟩;refine⟨G6 (x:=⟨seO x.S h (srt (ob x.S h)),x.Roots,x.a8,x.T,⟨x.Q.L ++ [qtk x h],x.Q.Cap⟩⟩) r1 h λc=>E0,?_⟩;have e:quH x h=wS ⟨seO x.S h (srt (ob x.S h)),x.Roots,x.a8,x.T,⟨x.Q.L ++ [qtk x h],x.Q.Cap⟩⟩ (quH x h).S:=b3e _ h;rw[e];exact⟨rfl,rfl,rfl,rfl⟩
theorem b8Q:lv (quH x h).S=lv x.S:=by
 have oko:=K3 hR hh;exact (a7s hR hh).1.lv.trans (a3Q (o:=srt (ob x.S h)) hR hh rfl ⟨oko.s1,oko.s2,oko.st,oko.wk,oko.p1,oko.p2,oko.fl⟩)
theorem b5z{k:Int}(hk:k∈lv x.S):∃n,ob (quH x h).S k=stg (if k=h then srt (ob x.S h) else ob x.S k) n:=by
 have oko:=K3 hR hh;have hr:=I0 hR hk;obtain⟨n,e⟩:=(a7s hR hh).1.ob k (by omega)
 refine⟨n,?_⟩;rw[e,a2W (o:=srt (ob x.S h)) hR hh rfl ⟨oko.s1,oko.s2,oko.st,oko.wk,oko.p1,oko.p2,oko.fl⟩ (by omega)]
end
noncomputable def mu(x:Hp):Nat:=(lv x.S).length+((lv x.S).filter λh => !(ob x.S h).Started).length
theorem d5V{x:Hp}(hR:SR x.S):mu x≤48:=by
 have h1:(lv x.S).length≤24:=G2 (w9.2 hR);have h2:((lv x.S).filter λh => !(ob x.S h).Started).length≤(lv x.S).length:=List.length_filter_le ..;unfold mu;omega
theorem d4J{x:Hp}(hx:N9 x)(h:zr x ≠ []):mu (stp x)<mu x:=by
 cases hz:zr x with
 | nil=>exact absurd hz h
 | cons z l=>
  have hzm:z∈zr x:=by rw[hz];exact List.mem_cons_self ..
  have hzl:=(a1E.1 hzm).1;have hR:=hx.sh.sr;rw[a4X hz];split
  ·rename_i q;unfold due at q;rw[Bool.and_eq_true,decide_eq_true_iff,Bool.not_eq_true'] at q;unfold mu;rw[b8Q hR hzl];have:=filter_lt (p:=λh => !(ob (quH x z).S h).Started) (q:=λh => !(ob x.S h).Started) (l:=lv x.S) (λk hk hp=>by
    obtain⟨n,e⟩:=b5z hR hzl hk;rw[e] at hp;split at hp;·exact absurd hp (by simp)
    ·exact hp) z hzl (by rw[q.2];rfl) (by
    obtain⟨n,e⟩:=b5z hR hzl hzl;rw[e,if_pos rfl];rfl)
   omega
  ·unfold mu;have hn:([z]:List Int).Nodup:=by simp
   have hm:∀d ∈ [z],d∈lv x.S:=by simpa using hzl
   rw[c16 hR hn hm,List.filter_filter];have h1:((lv x.S).filter λh=>decide (h ∉ [z])).length<((lv x.S).filter λ_=>true).length:=filter_lt (λ_ _ _=>rfl) z hzl rfl (by simp)
   rw[List.filter_eq_self.2 (λ_ _=>rfl)] at h1;have h2:((lv x.S).filter λa=>(!(ob (buH x [z]).S a).Started)&&decide (a ∉ [z])).length≤((lv x.S).filter λh => !(ob x.S h).Started).length:=by
    rw[←List.countP_eq_length_filter,←List.countP_eq_length_filter];refine List.countP_mono_left λa ha hp=>?_;rw[Bool.and_eq_true,decide_eq_true_iff] at hp;obtain⟨n,e⟩:=c17 hR hn hm ha hp.2;rw[e] at hp;exact hp.1
   omega
noncomputable def a1V(x:Hp):Hp:=stN 100 x
theorem b3h{x:Hp}(hx:N9 x):∃n,n≤48∧zr (stN n x) = []∧(∀j,j<n→zr (stN j x) ≠ [])∧a1V x=stN n x:=by
 have key:∀m,(∃n,n≤m∧zr (stN n x) = [])∨mu (stN m x)+m≤mu x:=by
  intro m;induction m with
  | zero=>exact .inr (Nat.le_refl _)
  | succ m ih=>
   rcases ih with ⟨n,h1,h2⟩ | ih;·exact .inl ⟨n,by omega,h2⟩
   ·by_cases q:zr (stN m x) = []
    ·exact .inl ⟨m,by omega,q⟩
    ·have:=d4J (a0W hx m) q;rw[←a2q] at this;exact .inr (by omega)
 have h48:=d5V hx.sh.sr;have hex:∃n,n≤48∧zr (stN n x) = []:=by
  rcases key 49 with ⟨n,h1,h2⟩ | h
  ·rcases Nat.lt_or_ge n 49 with q | q
   ·exact⟨n,by omega,h2⟩
   ·rcases key 48 with h | h
    ·exact h
    ·have:mu (stN 48 x)=0:=by omega
     refine⟨48,Nat.le_refl _,?_⟩;have hl:(lv (stN 48 x).S).length=0:=by unfold mu at this;omega
     unfold zr;rw[List.eq_nil_of_length_eq_zero hl];rfl
  ·omega
 obtain⟨n,⟨hn,hz⟩,hmin⟩:=a1t hex;refine⟨n,hn,hz,λj hj q=>?_,?_⟩
 ·have:=hmin j ⟨by omega,q⟩
  omega
 ·have:∀k,stN (n+k) x=stN n x:=λk=>by
   induction k with
   | zero=>rfl
   | succ k ih=>rw[show n+(k+1)=(n+k)+1 by omega,a2q,ih,a9R hz]
  have h100:=this (100-n);rw[show n+(100-n)=100 by omega] at h100
  exact h100
theorem a2X{x:Hp}(hx:N9 x):N9 (a1V x):=a0W hx 100
theorem b7x{x:Hp}(hx:N9 x):zr (a1V x) = []:=by
 obtain⟨n,_,h,_,e⟩:=b3h hx;rw[e];exact h
theorem c1u{x:Hp}(h:zr x = []):a1V x=x:=by
 have:∀n,stN n x=x:=λn=>by
  induction n with
  | zero=>rfl
  | succ n ih=>rw[a2q,ih,a9R h]
 exact this 100
end Go.Sh
namespace Go.Sh
section
variable{x:Hp}(hR:SR x.S)
include hR
theorem a2c{h:Int}(hh:h∈lv x.S):h≤9223372036854775807:=by have:=I0 hR hh;omega
theorem b2U{h:Int}(hh:h∈lv x.S):y9 x.S h=some (ob x.S h,0):=by
 obtain⟨e,h1,h2⟩:=T0 (w9.2 hR) (a2c hR hh);rw[h1,h2.2 hh]
theorem b1r{h:Int}(hh:h∈lv x.S):F5 (sO x.S) h=some (oo (ob x.S h),0):=by
 have:=hR.len;rw[a6d x.S (by omega) (a2c hR hh),b2U hR hh]
 rfl
theorem zero_eq:a1Q x=some (zr x):=by
 have h24:(lv x.S).length≤24:=G2 (w9.2 hR);unfold a1Q;simp only[jn];rw[a2b (w9.2 hR),d7R];rw[G7 (lv x.S) (λb h=>if (ob x.S h).Strong==0 then b ++ [h] else b) id (λk b=>b.length≤k) (by omega) (Nat.le_refl _) (λk hk b hb=>?_) (λb hb=>by simp)]
 ·rw[foldl_filter];rfl
 ·simp only[Int.ofNat_lt,hk,decide_true,if_true,p8 hk,d7R,b2U hR (List.getElem_mem hk)];by_cases c:((ob x.S (lv x.S)[k]).Strong==0)=true
  ·rw[if_pos c,if_pos c,A7 (by omega) (by simp;omega),d7R,l7]
   exact⟨rfl,by simp;omega⟩
  ·rw[if_neg c,if_neg c,l7];exact⟨rfl,by omega⟩
theorem c85:a6z (hO x)=some (zr x):=by
 have h24:(lv x.S).length≤24:=G2 (w9.2 hR);unfold a6z;simp only[jn];rw[show (hO x).S=sO x.S from rfl,a8I (w9.2 hR),d7R];rw[G7 (lv x.S) (λb h=>if (ob x.S h).Strong==0 then b ++ [h] else b) id (λk b=>b.length≤k) (by omega) (Nat.le_refl _) (λk hk b hb=>?_) (λb hb=>by simp)]
 ·rw[foldl_filter];rfl
 ·simp only[Int.ofNat_lt,hk,decide_true,if_true,p8 hk,d7R,b1r hR (List.getElem_mem hk)];by_cases c:((ob x.S (lv x.S)[k]).Strong==0)=true
  ·rw[show ((oo (ob x.S (lv x.S)[k])).Strong==0)=true from c,if_pos rfl,if_pos c,A7 (by omega) (by simp;omega),d7R,l7]
   exact⟨rfl,by simp;omega⟩
  ·rw[if_neg (show ¬((oo (ob x.S (lv x.S)[k])).Strong==0)=true from c),if_neg c,l7];exact⟨rfl,by omega⟩
end
noncomputable def quD(x:Hp)(h:Int):Hp:=if h∈lv x.S∧due (ob x.S h)=true then quH x h else x
theorem b9p{s:a7}(hR:SR s){h:Int}(hl:h∈lv s):OkO s (srt (ob s h)):=by
 have oko:=K3 hR hl;exact⟨oko.s1,oko.s2,oko.st,oko.wk,oko.p1,oko.p2,oko.fl⟩
theorem c4s(o:m9):M2 o=some (due o):=by
 unfold M2 due;congr 1
section
variable{x:Hp}(hx:N9 x)(hS:SL x){h:Int}(hh:h≤9223372036854775807)
include hx hS hh
theorem b5A(hl:h∈lv x.S)(hd:due (ob x.S h)=true):x.Q.L.length<30:=by
 have hb:0≤(ob x.S h).Prog∧(ob x.S h).Started=false:=by
  unfold due at hd;rw[Bool.and_eq_true,decide_eq_true_iff,Bool.not_eq_true'] at hd;exact hd
 have:=(b26 hx hl hb.1 hb.2).sh.q30;rw[(a7s hx.sh.sr hl).2.2.2.2] at this;simp at this;omega
theorem b7j:T4 x h=some (quD x h):=by
 have hR:=hx.sh.sr;have cap:=hx.sh.cap;obtain⟨e,h1,h2⟩:=T0 (w9.2 hR) hh;unfold T4 quD;rw[h1,d7R];by_cases hl:h∈lv x.S
 ·have e0:e=0:=h2.2 hl;subst e0;have e1:(((0:Int) != 0)==false)=true:=rfl;simp only[e1,a0s,c4s,d7R];cases hd:due (ob x.S h);·rw[if_pos (by simp),if_neg (by simp)]
  ·rw[if_neg (by simp),if_pos ⟨hl,rfl⟩]
   have hr:=b5A hx hS hh hl hd;have hok:=b9p hR hl;have l1:=a3Q (o:=srt (ob x.S h)) hR hl rfl hok;have r1:=a08 (o:=srt (ob x.S h)) hR hl rfl hok;rw[b2q (o:=srt (ob x.S h)) hR hl rfl hok,d7R,d2h _ (by omega),d7R]
   have et:tad x.Q ⟨1,h,(ob x.S h).Prog⟩=(⟨x.Q.L ++ [qtk x h],x.Q.Cap⟩,0):=by
    unfold tad;rw[if_neg (by omega)]
   rw[et];dsimp only;rw[a6F r1 hh (λk hk=>?_),d7R];·rfl
   ·dsimp only at hk ⊢;rw[l1] at hk;rw[a2W (o:=srt (ob x.S h)) hR hl rfl hok (a2c hR hk)];split;·exact hS h hl
    ·exact hS k hk
 ·have e0:e≠0:=λq=>hl (h2.1 q);have e1:(e != 0)=true:=by simpa using e0
  rw[e1];simp only[show ((true==false)=true)=False by simp,u4,if_false,d7R,Bool.true_or,if_true]
  rw[if_neg (λq=>hl q.1)]
theorem c66:a7A (hO x) h=some (decide (h∈lv x.S)&&due (ob x.S h)):=by
 have hR:=hx.sh.sr;have hlen:=hR.len;obtain⟨e,h1,h2⟩:=T0 (w9.2 hR) hh;unfold a7A;rw[show (hO x).S=sO x.S from rfl,a6d x.S (by omega) hh,h1,Option.map_some,d7R,b4q hR hh,d7R]
 unfold due oo;rw[Bool.and_assoc]
theorem c0R:a2T (hO x) h=some (hO (quD x h)):=by
 have hR:=hx.sh.sr;have cap:=hx.sh.cap;unfold a2T quD;rw[c66 hx hS hh,d7R];by_cases hl:h∈lv x.S
 ·rw[decide_eq_true hl,Bool.true_and];cases hd:due (ob x.S h);·rw[if_pos (by simp),if_neg (by simp)]
  ·rw[if_neg (by simp),if_pos ⟨hl,rfl⟩]
   have hr:=b5A hx hS hh hl hd;have hok:=b9p hR hl;have l1:=a3Q (o:=srt (ob x.S h)) hR hl rfl hok;have r1:=a08 (o:=srt (ob x.S h)) hR hl rfl hok;rw[show (hO x).S=sO x.S from rfl,b1r hR hl,d7R];have es:M9 (sO x.S) h (oo (srt (ob x.S h)))=some (sO (seO x.S h (srt (ob x.S h))),0):=b2r hR hl rfl hok;have es':M9 (sO x.S) h ⟨(oo (ob x.S h)).Serial,(oo (ob x.S h)).Strong,(oo (ob x.S h)).Weak,(oo (ob x.S h)).Prog,true,(oo (ob x.S h)).Fields⟩=some (sO (seO x.S h (srt (ob x.S h))),0):=es;rw[es',d7R];have ea:a5B (hO x).Q ⟨1,h,(oo (ob x.S h)).Prog⟩=some (tqR ⟨x.Q.L ++ [qtk x h],x.Q.Cap⟩,0):=by
    have:=d2c (q:=x.Q) (qtk x h) (by omega)
    have et:tad x.Q (qtk x h)=(⟨x.Q.L ++ [qtk x h],x.Q.Cap⟩,0):=by
     unfold tad;rw[if_neg (by omega)]
    rw[et] at this;exact this
   rw[ea,d7R];have er:=a83 (x:=⟨seO x.S h (srt (ob x.S h)),x.Roots,x.a8,x.T,⟨x.Q.L ++ [qtk x h],x.Q.Cap⟩⟩) r1 hh (λk hk=>by
    dsimp only at hk ⊢;rw[l1] at hk;rw[a2W (o:=srt (ob x.S h)) hR hl rfl hok (a2c hR hk)];split;·exact hS h hl
    ·exact hS k hk)
   have er':a0x ⟨sO (seO x.S h (srt (ob x.S h))),(hO x).Roots,(hO x).a8,(hO x).T,tqR ⟨x.Q.L ++ [qtk x h],x.Q.Cap⟩⟩ h=_:=er;dsimp only;rw[er',d7R];rfl
 ·rw[decide_eq_false hl,Bool.false_and];rw[if_pos (by simp),if_neg (λq=>hl q.1)]
end
noncomputable def lvo(x:Hp)(l:List Int):List Int:=l.foldl (λb h=>if h∈lv x.S∧h∉b then b ++ [h] else b) []
theorem c0y{x:Hp}{z:Int}(hz:z∈lv x.S):lvo x [z] = [z]:=by
 unfold lvo;simp[hz]
section
variable{x:Hp}(hR:SR x.S)
include hR
theorem b1F(l:List Int)(hl:l.length≤1000)(hb:∀h∈l,h≤9223372036854775807):V9 x l=some (lvo x l):=by
 unfold V9;simp only[jn];have key:=G7 (f:=λ((s20,s21,s22):Int × (List (Int × Bool)) × (List Int))=>
   if (decide (s20<(l.length:Int))) then
     (ix l s20).bind λv32=>
     (y9 x.S v32).bind λv33=>
     if ((v33.2==0)==true) then
      if (!((C0 s21 v32).getD (false:Bool))) then
       (app 8 s22 [v32]).bind λv34=>
       some (Sum.inl (x8 (s20+1),(s6 s21 v32 true),v34))
      else
      some (.inl (x8 (s20+1),s21,s22))
     else
     some (.inl (x8 (s20+1),s21,s22))
   else
   some (.inr s22)) l (λ(b:List (Int × Bool) × List Int) h=>if h∈lv x.S∧h∉b.2 then (s6 b.1 h true,b.2 ++ [h]) else b) (λb=>b.2) (λk b=>b.2.length≤k∧∀d,(C0 b.1 d).getD false=decide (d∈b.2)) (b0:=([],[])) (by omega) ⟨Nat.le_refl _,λd=>by simp[C0]⟩ (λk hk b hb2=>?_) (λb hb2=>by simp)
 ·rw[key,d7R];congr 1;have:∀(l:List Int) (m:List (Int × Bool)) (b:List Int),(l.foldl (λ(b:List (Int × Bool) × List Int) h=>if h∈lv x.S∧h∉b.2 then (s6 b.1 h true,b.2 ++ [h]) else b) (m,b)).2=l.foldl (λb h=>if h∈lv x.S∧h∉b then b ++ [h] else b) b:=λl=>by
   induction l with
   | nil=>intro m b;rfl
   | cons h l ih=>
    intro m b;rw[List.foldl_cons,List.foldl_cons];by_cases c:h∈lv x.S∧h∉b
    ·rw[if_pos c,if_pos c,ih]
    ·rw[if_neg c,if_neg c,ih]
  exact this l [] []
 ·obtain⟨hb1,hb3⟩:=hb2;obtain⟨e,h1,h2⟩:=T0 (w9.2 hR) (hb _ (List.getElem_mem hk));simp only[Int.ofNat_lt,hk,decide_true,if_true,p8 hk,d7R,h1,hb3];by_cases hl:l[k]∈lv x.S
  ·have e0:e=0:=h2.2 hl;subst e0;by_cases hm:l[k]∈b.2
   ·rw[if_pos (by rfl),if_neg (by simp[hm]),if_neg (λq=>q.2 hm),l7]
    exact⟨rfl,by omega,hb3⟩
   ·rw[if_pos (by rfl),if_pos (by simp[hm]),if_pos ⟨hl,hm⟩,A7 (by omega) (by simp;omega),d7R,l7]
    refine⟨rfl,by simp;omega,λd=>?_⟩
    rw[a9B];by_cases q:d=l[k]
    ·rw[if_pos q];simp[q]
    ·rw[if_neg q,hb3];simp[q]
  ·have e0:e≠0:=λq=>hl (h2.1 q);rw[if_neg (by simp[e0]),if_neg (λq=>hl q.1),l7]
   exact⟨rfl,by omega,hb3⟩
theorem c67(l:List Int)(hl:l.length≤1000)(hb:∀h∈l,h≤9223372036854775807):a8Z (hO x) l=some (lvo x l):=by
 unfold a8Z;simp only[jn];rw[G7 l (λb h=>if h∈lv x.S∧h∉b then b ++ [h] else b) id (λk b=>b.length≤k) (by omega) (Nat.le_refl _) (λk hk b hb2=>?_) (λb hb=>by simp)]
 ·rfl
 ·simp only[Int.ofNat_lt,hk,decide_true,if_true,p8 hk,d7R,b4q hR (hb _ (List.getElem_mem hk))];by_cases hl:l[k]∈lv x.S
  ·have h0:l[k]≠0:=λe=>a93 hR (e▸hl);rw[decide_eq_true hl];simp only[beq_self_eq_true,a0s,b1t b _ (by omega:b.length≤1000000),d7R,Bool.true_and]
   by_cases hm:l[k]∈b
   ·rw[if_neg (by simp[hm,h0]),if_neg (λq=>q.2 hm),l7]
    exact⟨rfl,by omega⟩
   ·rw[if_pos (by simp[hm]),if_pos ⟨hl,hm⟩,A7 (by omega) (by simp;omega),d7R,l7]
    exact⟨rfl,by simp;omega⟩
  ·rw[decide_eq_false hl];simp only[show ((false==true)=true)=False by simp,u4,if_false,d7R,Bool.false_and]
   rw[if_neg (by simp),if_neg (λq=>hl q.1),l7]
   exact⟨rfl,by omega⟩
end
end Go.Sh
namespace Go.Sh
theorem b5f{α β:Type}(p:α→Bool)(f:α→β):∀(xs:List α) (acc:List β),xs.foldl (λb x=>if p x then b ++ [f x] else b) acc=acc++(xs.filter p).map f
 | [],acc=>by simp
 | x::xs,acc=>by
  rw[List.foldl_cons,b5f p f xs];by_cases h:p x=true
  ·simp[h]
  ·simp[h]
theorem a1o{α:Type}{l:List α}{i:Nat}(h:i<l.length)(d:α):l.getD i d=l[i]:=by
 rw[List.getD_eq_getElem?_getD,List.getElem?_eq_getElem h];rfl
theorem c5k(c:g6)(ds:List Int)(hl:ds.length≤1000):a0Y c ds=some (a33 ds c):=by
 unfold a0Y a33;rw[contains_eq _ _ (by omega)]
 cases (c.Intact&&c.Target != 0);·rfl
 ·simp[u4]
def pks(l:List g6)(ds:List Int):List Nat:=(List.range l.length).filter λw=>a33 ds (l.getD w cz)
theorem d3W{l:List g6}{ds:List Int}{w:Nat}(h:w∈pks l ds):w<l.length:=by
 unfold pks at h;rw[List.mem_filter,List.mem_range] at h;exact h.1
theorem d0P(l:List g6)(ds:List Int):(pks l ds).length≤l.length:=by
 unfold pks;exact Nat.le_trans (List.length_filter_le ..) (by simp)
theorem d3X(l:List g6)(ds:List Int):(pks l ds).Nodup:=List.Pairwise.filter _ List.nodup_range
theorem c91(l:List g6)(ds:List Int):cls l ds=(pks l ds).filter λw=>decide (0≤(l.getD w cz).Call):=by
 unfold cls pks;rw[List.filter_filter];refine List.filter_congr λw _=>?_;rw[Bool.and_comm]
def a7j(l:List Nat):List Int:=l.map λ(n:Nat)=>(n:Int)
theorem b8z{l:List Nat}{k:Nat}(h:k<l.length):ix (a7j l) (k:Int)=some ((l[k]:Nat):Int):=by
 unfold a7j;rw[a1p,p8 h];rfl
theorem a6i(l:List Nat):(a7j l).length=l.length:=List.length_map ..
theorem c5M(l:List g6)(ds:List Int)(hl:l.length≤1000)(hd:ds.length≤1000):K0 l ds=some (a7j (pks l ds)):=by
 unfold K0;simp only[jn];have hr:(List.range l.length).length=l.length:=by simp
 have key:=G7 (List.range l.length) (λ(b:List Int) (w:Nat)=>if a33 ds (l.getD w cz) then b ++ [(w:Int)] else b) id (λk b=>b.length≤k) (b0:=[]) (f:=λ((s17,s18):Int × (List Int))=>
   if (decide (s17<(l.length:Int))) then
     (ix l s17).bind λv26=>
     (a0Y v26 ds).bind λv27=>
     if v27 then
      (app 8 s18 [s17]).bind λv28=>
      some (Sum.inl (x8 (s17+1),v28))
     else
     some (.inl (x8 (s17+1),s18))
   else
   some (.inr s18)) (by omega) (Nat.le_refl _) (λk hk b hb=>?_) (λb hb=>by simp)
 ·rw[key,b5f];rfl
 ·rw[hr] at hk;simp only[Int.ofNat_lt,hk,decide_true,if_true,p8 hk,d7R,c5k _ _ hd,List.getElem_range,a1o hk];by_cases c:a33 ds l[k]=true
  ·rw[if_pos c,if_pos c,A7 (by omega) (by simp;omega),d7R,l7]
   exact⟨rfl,by simp;omega⟩
  ·rw[if_neg c,if_neg c,l7];exact⟨rfl,by omega⟩
theorem c5n(l:List g6)(hl:l.length≤1000):a0G l=some l:=by
 unfold a0G;rw[a73 (by omega) (by omega),d7R]
 unfold cpy;rw[if_pos (by simp),d7R]
 simp
def b1e(l:List g6)(K:List Nat):List g6:=(List.range l.length).map λi=>if i∈K then ⟨(l.getD i cz).Target,false,(l.getD i cz).Call⟩ else l.getD i cz
theorem a59(l:List g6)(K:List Nat):(b1e l K).length=l.length:=by simp[b1e]
theorem b1f{l:List g6}{K:List Nat}{i:Nat}(h:i<(b1e l K).length):(b1e l K)[i]=if i∈K then ⟨(l.getD i cz).Target,false,(l.getD i cz).Call⟩ else l.getD i cz:=by simp[b1e]
theorem c6V(l:List g6):b1e l []=l:=by
 refine List.ext_getElem (a59 ..) λi h1 h2=>?_;rw[b1f,if_neg (by simp),a1o h2]
theorem c5m{l:List g6}{K:List Nat}{w:Nat}(hw:w<l.length):b1e l (K ++ [w])=(b1e l K).set w ⟨(l.getD w cz).Target,false,(l.getD w cz).Call⟩:=by
 refine List.ext_getElem (by rw[List.length_set,a59,a59]) λi h1 h2=>?_
 rw[b1f,List.getElem_set];by_cases e:w=i
 ·subst e;rw[if_pos rfl,if_pos (by simp)]
 ·rw[if_neg e,b1f];by_cases q:i∈K
  ·rw[if_pos (List.mem_append_left _ q),if_pos q]
  ·rw[if_neg,if_neg q];rw[List.mem_append,List.mem_singleton];exact λq2=>q2.elim q λq3=>e q3.symm
theorem c6U(l:List g6)(ds:List Int):b1e l (pks l ds)=clr l ds:=by
 refine List.ext_getElem (by rw[a59];simp[clr]) λi h1 h2=>?_
 have hi:i<l.length:=by rw[a59] at h1;exact h1
 have ec:(clr l ds)[i]=a8u ds l[i]:=List.getElem_map _;rw[b1f,ec,a1o hi];unfold a8u;by_cases c:a33 ds l[i]=true
 ·rw[if_pos c,if_pos];unfold pks;rw[List.mem_filter,List.mem_range,a1o hi];exact⟨hi,c⟩
 ·rw[if_neg c,if_neg];unfold pks;rw[List.mem_filter,List.mem_range,a1o hi];exact λq=>c q.2
theorem N2{α:Type}{l:List α}{k:Nat}(h:k<l.length):l.take (k+1)=l.take k ++ [l[k]]:=List.take_succ_eq_append_getElem h
theorem c6T(l:List g6)(ds:List Int)(hl:l.length≤1000)(hd:ds.length≤1000):a41 l ds=some (clr l ds,a7j (cls l ds)):=by
 unfold a41;rw[c5M l ds hl hd,d7R,c5n l hl,d7R];simp only[jn,a6i];have hp:=d0P l ds;refine M7 (pks l ds).length (λk (b:List g6 × List Int)=>b.1=b1e l ((pks l ds).take k)∧b.2=a7j (((pks l ds).take k).filter λw=>decide (0≤(l.getD w cz).Call))) (by omega) ⟨by simp[c6V],by simp[a7j]⟩ ?_ ?_
 ·rintro k ⟨b1,b2⟩ hk ⟨rfl,rfl⟩;left;have hw:=d3W (List.getElem_mem hk);have hnm:(pks l ds)[k]∉(pks l ds).take k:=λq=>by
   have hn:=d3X l ds;rw[←List.take_append_drop k (pks l ds),List.nodup_append] at hn;exact hn.2.2 _ q (pks l ds)[k] (by rw[List.drop_eq_getElem_cons hk];exact List.mem_cons_self ..) rfl
  have h1:(pks l ds)[k]<(b1e l ((pks l ds).take k)).length:=by rw[a59];exact hw
  have e1:ix (b1e l ((pks l ds).take k)) (((pks l ds)[k]:Nat):Int)=some (l.getD (pks l ds)[k] cz):=by rw[p8 h1,b1f,if_neg hnm]
  have h2:(pks l ds)[k]<((b1e l ((pks l ds).take k)).set (pks l ds)[k] ⟨(l.getD (pks l ds)[k] cz).Target,false,(l.getD (pks l ds)[k] cz).Call⟩).length:=by rw[List.length_set];exact h1
  have e2:ix ((b1e l ((pks l ds).take k)).set (pks l ds)[k] ⟨(l.getD (pks l ds)[k] cz).Target,false,(l.getD (pks l ds)[k] cz).Call⟩) (((pks l ds)[k]:Nat):Int)=some ⟨(l.getD (pks l ds)[k] cz).Target,false,(l.getD (pks l ds)[k] cz).Call⟩:=by rw[p8 h2,List.getElem_set_self]
  dsimp only;simp only[Int.ofNat_lt,hk,decide_true,if_true,b8z hk,d7R,e1,Int.toNat_natCast,e2];have hle:(a7j (((pks l ds).take k).filter λw=>decide (0≤(l.getD w cz).Call))).length≤1000:=by
   rw[a6i];exact Nat.le_trans (List.length_filter_le ..) (by simp;omega)
  rw[N2 hk,c5m hw,List.filter_append];by_cases c:0≤(l.getD (pks l ds)[k] cz).Call
  ·rw[if_pos (decide_eq_true c),A7 (by omega) (by simp only[List.length_cons,List.length_nil];omega),d7R,l7]
   refine⟨_,rfl,rfl,?_⟩;rw[List.filter_cons,if_pos (decide_eq_true c)];simp[a7j]
  ·rw[if_neg (λq=>c (of_decide_eq_true q)),l7];refine⟨_,rfl,rfl,?_⟩;rw[List.filter_cons,if_neg (λq=>c (of_decide_eq_true q))];simp[a7j]
 ·rintro⟨b1,b2⟩ ⟨rfl,rfl⟩;refine⟨_,if_neg (by simp),?_⟩
  dsimp only;rw[List.take_length,c6U,←c91]
theorem d5I(c:g6)(ds:List Int)(hd:ds.length≤1000):((u4 ((wcR c).Intact==true) 0 (a1M ds (wcR c).Target)).bind λv=>some ((wcR c).Intact&&decide (v > 0)))=some (a33 ds c):=by
 unfold a33 wcR;dsimp only;cases hI:c.Intact;·rfl
 ·simp only[beq_self_eq_true,a0s];rw[b0Y _ _ (by omega),d7R]
  congr 1;rw[Bool.true_and,Bool.true_and,Bool.eq_iff_iff];simp only[decide_eq_true_iff,Bool.and_eq_true,bne_iff_ne];have:=a2r (l:=ds) (h:=c.Target);constructor
  ·intro q;exact this.1 (by omega)
  ·intro q;have:=this.2 q;omega
theorem c90(l:List g6)(ds:List Int)(hl:l.length≤1000)(hd:ds.length≤1000):a9E (l.map wcR) ds=some ((clr l ds).map wcR,a7j (cls l ds)):=by
 unfold a9E;simp only[jn,List.length_map];refine M7 l.length (λk (b:List m8 × List Int)=>b.1=((clr l ds).take k).map wcR∧b.2=a7j ((List.range k).filter λw=>a33 ds (l.getD w cz)&&decide (0≤(l.getD w cz).Call))) (by omega) ⟨by simp,by simp[a7j]⟩ ?_ ?_
 ·rintro k ⟨b1,b2⟩ hk ⟨rfl,rfl⟩;left;have hk2:k<(clr l ds).length:=by simp[clr];exact hk
  have e1:ix (l.map wcR) (k:Int)=some (wcR l[k]):=by rw[a1p,p8 hk];rfl
  have hle:(a7j ((List.range k).filter λw=>a33 ds (l.getD w cz)&&decide (0≤(l.getD w cz).Call))).length≤1000:=by
   rw[a6i];exact Nat.le_trans (List.length_filter_le ..) (by simp;omega)
  dsimp only;simp only[Int.ofNat_lt,hk,decide_true,if_true,e1,d7R];obtain⟨v,hv,hv2⟩:=a8s (d5I l[k] ds hd);rw[hv,d7R];have hv2:=Option.some.inj hv2;rw[hv2,N2 hk2,List.map_append,List.range_succ,List.filter_append];have ec:(clr l ds)[k]=a8u ds l[k]:=List.getElem_map _;have lc:(List.map wcR (List.take k (clr l ds))).length≤1000:=by simp[clr];omega
  rw[ec];unfold a8u;by_cases c:a33 ds l[k]=true
  ·rw[if_pos c,if_pos c];by_cases c2:0≤l[k].Call
   ·rw[if_pos (by simpa[wcR] using c2),A7 (by omega) (by simp only[List.length_cons,List.length_nil];omega),d7R,A7 (by omega) (by simp only[List.length_cons,List.length_nil];omega),d7R,l7]
    refine⟨_,rfl,rfl,?_⟩;simp only[List.filter_cons,List.filter_nil,a1o hk,c,c2,decide_true,Bool.and_self,if_true];simp[a7j]
   ·rw[if_neg (by simpa[wcR] using c2),A7 (by omega) (by simp only[List.length_cons,List.length_nil];omega),d7R,l7]
    refine⟨_,rfl,rfl,?_⟩;simp only[List.filter_cons,List.filter_nil,a1o hk,c,c2,decide_false,Bool.and_false,Bool.false_eq_true,if_false,List.append_nil]
  ·rw[if_neg c,if_neg c,A7 (by omega) (by simp only[List.length_cons,List.length_nil];omega),d7R,l7]
   refine⟨_,rfl,rfl,?_⟩;have c:a33 ds l[k]=false:=by simpa using c
   simp only[List.filter_cons,List.filter_nil,a1o hk,c,Bool.false_and,Bool.false_eq_true,if_false,List.append_nil]
 ·rintro⟨b1,b2⟩ ⟨rfl,rfl⟩;refine⟨_,if_neg (by simp),?_⟩
  dsimp only;rw[List.take_of_length_le (by simp[clr])]
  rfl
end Go.Sh
namespace Go.Sh
def clH(x:Hp)(ds:List Int):Hp:=⟨x.S,x.Roots,clr x.a8 ds,x.T,⟨x.Q.L++clt x.a8 ds,x.Q.Cap⟩⟩
theorem a26(l:List g6)(ds:List Int):(clt l ds).length=(cls l ds).length:=List.length_map ..
theorem c6W{l:List g6}{ds:List Int}{w:Nat}(h:w∈cls l ds):w<l.length:=by
 unfold cls at h;rw[List.mem_filter,List.mem_range] at h;exact h.1
theorem c6X{l:List g6}{ds:List Int}{k:Nat}(h:k<(clt l ds).length):(clt l ds)[k]=⟨2,(((cls l ds)[k]'(by rw[←a26];exact h):Nat):Int),(l.getD ((cls l ds)[k]'(by rw[←a26];exact h)) cz).Call⟩:=List.getElem_map _
theorem c0a{l:List g6}{ds:List Int}{w:Nat}(h:w<l.length):ix (clr l ds) (w:Int)=some (a8u ds l[w]):=by
 unfold clr;rw[a1p,p8 h];rfl
section
variable{x:Hp}{ds:List Int}(hc:x.a8.length≤6)(hd:ds.length≤1000)(hq:(x.Q.L++clt x.a8 ds).length≤30)(hcap:x.Q.Cap=30)
include hc hd hq hcap
theorem b6N{k:Nat}(hk:k<(clt x.a8 ds).length):tad ⟨x.Q.L++(clt x.a8 ds).take k,x.Q.Cap⟩ (clt x.a8 ds)[k]=(⟨x.Q.L++(clt x.a8 ds).take (k+1),x.Q.Cap⟩,0):=by
 rw[List.length_append] at hq;unfold tad;rw[if_neg (by dsimp only;rw[List.length_append,List.length_take,hcap];omega),N2 hk,List.append_assoc]
theorem c2a:a2o x ds=some (clH x ds):=by
 unfold a2o;rw[c6T _ _ (by omega) hd,d7R]
 dsimp only;simp only[jn,a6i];have hq2:=hq;rw[List.length_append] at hq2;refine M7 (cls x.a8 ds).length (λk (q:TQ)=>q=⟨x.Q.L++(clt x.a8 ds).take k,x.Q.Cap⟩) (by rw[←a26];omega) (by simp) ?_ ?_
 ·rintro k q hk rfl;left;have hw:=c6W (List.getElem_mem hk);have hk2:k<(clt x.a8 ds).length:=by rw[a26];exact hk
  simp only[Int.ofNat_lt,hk,decide_true,if_true,b8z hk,d7R,c0a hw];have et:(⟨2,(((cls x.a8 ds)[k]:Nat):Int),(a8u ds x.a8[(cls x.a8 ds)[k]]).Call⟩:k9)=(clt x.a8 ds)[k]:=by
   rw[c6X,(b72 ds _).2.1,a1o hw]
  rw[et,d2h _ (by dsimp only;rw[List.length_append,List.length_take];omega),b6N hc hd hq hcap hk2,d7R,l7 (by rw[←a26] at hk;omega)]
  exact⟨_,rfl,rfl⟩
 ·rintro q rfl;refine⟨_,if_neg (by simp),?_⟩
  rw[←a26,List.take_length];rfl
theorem d2E{K:w7→Option c7}:((lp (S:=Int × w7) (E:=w7) (λ((s68,s69):Int × w7)=>
   if (decide (s68<((a7j (cls x.a8 ds)).length:Int))) then
    (ix (a7j (cls x.a8 ds)) s68).bind λv72=>
    (ix ((clr x.a8 ds).map wcR) v72).bind λv73=>
    (a5B s69 (⟨2,v72,v73.Call⟩:o6)).bind λv74=>
    some (.inl (x8 (s68+1),v74.1))
   else
   some (.inr s69)) (0,tqR x.Q)).bind K)=K (tqR (clH x ds).Q):=by
 have hq2:=hq;rw[List.length_append] at hq2;have key:=a2N (f:=λ((s68,s69):Int × w7)=>
   if (decide (s68<((a7j (cls x.a8 ds)).length:Int))) then
    (ix (a7j (cls x.a8 ds)) s68).bind λv72=>
    (ix ((clr x.a8 ds).map wcR) v72).bind λv73=>
    (a5B s69 (⟨2,v72,v73.Call⟩:o6)).bind λv74=>
    some (Sum.inl (x8 (s68+1),v74.1))
   else
   some (.inr s69)) (t0:=tqR x.Q) (cls x.a8 ds).length (λk (q:w7)=>q=tqR ⟨x.Q.L++(clt x.a8 ds).take k,x.Q.Cap⟩) (λq=>q=tqR (clH x ds).Q) (by rw[←a26];omega) (by simp) ?_ ?_
 ·obtain⟨e,h1,h2⟩:=key;rw[h1,d7R,h2]
 ·rintro k q hk rfl;left;have hw:=c6W (List.getElem_mem hk);have hk2:k<(clt x.a8 ds).length:=by rw[a26];exact hk
  have ei:ix ((clr x.a8 ds).map wcR) (((cls x.a8 ds)[k]:Nat):Int)=some (wcR (a8u ds x.a8[(cls x.a8 ds)[k]])):=by rw[a1p,c0a hw];rfl
  simp only[a6i,Int.ofNat_lt,hk,decide_true,if_true,b8z hk,d7R,ei];have et:(⟨2,(((cls x.a8 ds)[k]:Nat):Int),(wcR (a8u ds x.a8[(cls x.a8 ds)[k]])).Call⟩:o6)=tkR (clt x.a8 ds)[k]:=by
   rw[c6X,a1o hw];show (⟨2,_,(a8u ds x.a8[(cls x.a8 ds)[k]]).Call⟩:o6)=_;rw[(b72 ds _).2.1];rfl
  rw[et,d2c _ (by dsimp only;rw[List.length_append,List.length_take];omega),b6N hc hd hq hcap hk2,d7R,l7 (by rw[←a26] at hk;omega)]
  exact⟨_,rfl,rfl⟩
 ·rintro q rfl;refine⟨_,if_neg (by rw[a6i];simp),?_⟩
  rw[←a26,List.take_length];rfl
end
theorem b3g(s:a7)(i:Nat)(c d:b9):H7 (H7 s i c) i d=H7 s i d:=by
 unfold H7;dsimp only;rw[List.set_set]
section
variable{s:a7}(hR:SR s){d:Int}(hd:d∈lv s)
include hR hd
def k1(s:a7)(d:Int):a7:=H7 s (D6 d) ⟨1,(ce s (D6 d)).Gen,ded (ob s d)⟩
def k2(s:a7)(d:Int):a7:=H7 s (D6 d) ⟨2,(ce s (D6 d)).Gen,ded (ob s d)⟩
theorem b79:OkO s (ded (ob s d)):=by
 have ho:=K3 hR hd;exact⟨ho.s1,ho.s2,Int.le_refl _,ho.wk,ho.p1,ho.p2,Nat.zero_le _⟩
theorem c2v:seO s d (ded (ob s d))=k1 s d:=by
 have q:=A8 hR hd;unfold seO a2g k1 H7;rw[q.2.1]
theorem d1O:At (k1 s d) d (D6 d):=by
 have q:=A8 hR hd;refine⟨by unfold k1;rw[Y0];exact q.1,?_,?_⟩
 ·unfold k1;rw[L0 q.1,if_pos rfl]
 ·unfold k1;rw[L0 q.1,if_pos rfl];exact q.2.2
theorem d1P:SR (k1 s d):=by rw[←c2v hR hd];exact a08 (o:=ded (ob s d)) hR hd rfl (b79 hR hd)
theorem d1S:SR (k2 s d):=by
 have q:=A8 hR hd;have hc:=hR.cell _ q.1;unfold k2;refine hR.H7 q.1 ⟨by simp,by simp,hc.2.2.1,hc.2.2.2⟩ (λq=>absurd (.inr rfl) q) (λ_=>⟨b79 hR hd,.inl q.2.1,?_⟩)
 show (ob s d).Serial=_;rw[P2 hR q]
theorem d1Q:Y1 (k2 s d) d (D6 d):=by
 have q:=A8 hR hd;refine⟨by unfold k2;rw[Y0];exact q.1,?_,?_⟩
 ·unfold k2;rw[L0 q.1,if_pos rfl];exact .inr rfl
 ·unfold k2;rw[L0 q.1,if_pos rfl];exact q.2.2
theorem d0m:U3 (k1 s d).S d=some ((k2 s d).S,0):=by
 have q:=A8 hR hd;have hR1:=d1P hR hd;have q1:=d1O hR hd;have hr:=I0 hR hd;have hlen:=hR1.len;have hH:Hnd d:=((b0J hR1).2 q1.d).2.1;have hsl:(d-1) % 32=(D6 d:Nat):=((b0J hR1).2 q1.d).2.2.1;have hg:(d-1) / 32=(ce s (D6 d)).Gen:=by
  have:=q.2.2;have h24:=hR.len;have:=q.1;omega
 unfold U3 E1;rw[a62 hR1 q1.d,d7R,if_neg (by simp),c0s q1.1,d7R,q1.2.1,if_neg (by simp),d7R,if_neg (by simp),a4F (by omega),d7R,if_pos hH,hsl,a5U (by omega),d7R,if_pos hH,hg,a6T rfl q1.1 hlen,d7R]
 have e:(ce (k1 s d) (D6 d)).Val=ded (ob s d):=by unfold k1;rw[L0 q.1,if_pos rfl]
 rw[e];congr 2;show (H7 (k1 s d) (D6 d) _).S=(k2 s d).S;unfold k1 k2;rw[b3g]
theorem d1I(hw:(ob s d).Weak=0):gvA (k2 s d) (D6 d)=gnA s d:=by
 have q:=A8 hR hd;have e:ce (k2 s d) (D6 d)=⟨2,(ce s (D6 d)).Gen,ded (ob s d)⟩:=by unfold k2;rw[L0 q.1,if_pos rfl]
 unfold gvA gnA gnC;rw[e];rw[P2 hR q] at hw;rw[if_pos hw];unfold k2;rw[b3g];rfl
theorem d1R(hw:(ob s d).Weak≠0):k2 s d=gnA s d:=by
 have q:=A8 hR hd;unfold k2 gnA gnC;rw[P2 hR q] at hw ⊢;rw[if_neg hw]
end
theorem c5D{x:Hp}(hR:SR x.S){d:Int}(hd:d∈lv x.S):Z0 x d=some (wS x (gnA x.S d)):=by
 unfold Z0;rw[b2U hR hd,d7R];have e1:K6 x.S d (⟨(ob x.S d).Serial,0,(ob x.S d).Weak,(ob x.S d).Prog,(ob x.S d).Started,[]⟩:m9)=some (k1 x.S d,0):=by
  rw[←c2v hR hd];exact b2q (o:=ded (ob x.S d)) hR hd rfl (b79 hR hd)
 rw[e1,d7R,d0m hR hd,d7R];by_cases hw:(ob x.S d).Weak=0
 ·rw[if_pos (by simpa using hw),c34 (d1S hR hd) (d1Q hR hd),d7R,d1I hR hd hw]
  rfl
 ·rw[if_neg (by simpa using hw)]
  show some (wS x (k2 x.S d))=_;rw[d1R hR hd hw]
theorem d3x{s:a7}(hR:SR s){d:Int}(hd:d∈lv s):b1X (sO (k1 s d)) d=some (sO (k2 s d)):=by
 have q:=A8 hR hd;have hR1:=d1P hR hd;have q1:=d1O hR hd;have hlen:=hR1.len;have hr:=I0 hR hd;have hi:=q1.1;have hi2:D6 d<(sO (k1 s d)).a8.length:=by rw[C2];exact hi
 have M0:D6 d<(pl (sO (k1 s d))).a8.length:=by rw[a1z];exact hi2
 have hlen2:(sO (k1 s d)).a8.length≤24:=by rw[C2];exact hlen
 unfold b1X b5D b1S;rw[a5y _ (by omega),d7R,b2S (k1 s d) (by omega),a62 hR1 q1.d,d7R,if_neg (by simp),c0L hi2,d7R]
 have hst:(plc (D6 d) (sO (k1 s d)).a8[D6 d]).State=1:=by
  have:=q1.2.1;rw[E7 hi] at this;simpa[plc,sO,cO] using this
 have hgen:(plc (D6 d) (sO (k1 s d)).a8[D6 d]).Gen=(ce s (D6 d)).Gen:=by
  have:(ce (k1 s d) (D6 d)).Gen=(ce s (D6 d)).Gen:=by unfold k1;rw[L0 q.1,if_pos rfl]
  rw[E7 hi] at this;simpa[plc,sO,cO] using this
 rw[hst,if_neg (by simp),d7R,if_neg (by simp),d7R]
 dsimp only;rw[c0L hi2,d7R];have w3:∀c:x4,X9 (pl (sO (k1 s d))) ((D6 d:Nat):Int) c=some ⟨(pl (sO (k1 s d))).a8.set (D6 d) c,(pl (sO (k1 s d))).Last⟩:=λc=>by
  unfold X9;rw[M6 (by omega) (by rw[a1z];omega),d7R,p8 M0,d7R,Int.toNat_natCast]
 rw[w3,d7R,d7R,b53 _ _ (by omega) (by simp[a1z]),d7R,hgen]
 unfold k2;rw[←b3g s (D6 d) ⟨1,(ce s (D6 d)).Gen,ded (ob s d)⟩,c4N];show some _=some (⟨(sO (k1 s d)).a8.set (D6 d) _,_,_⟩:k8);congr 1;congr 1;refine List.ext_getElem (by simp) λk h1 h2=>?_
 have hk:k<(k1 s d).S.a8.length:=by simpa[C2] using h1
 have hk2:k<(sO (k1 s d)).a8.length:=by rw[C2];exact hk
 have hk3:k<(pl (sO (k1 s d))).a8.length:=by rw[a1z];exact hk2
 simp only[List.getElem_map,List.getElem_range,List.getElem_set];rw[a6e M0,a1o hk2,a1o hk3];by_cases e:k=D6 d
 ·subst e;rw[if_pos rfl,if_pos rfl];have e2:(sO (k1 s d)).a8[D6 d].Val=oo (ded (ob s d)):=by
   have:(ce (k1 s d) (D6 d)).Val=ded (ob s d):=by unfold k1;rw[L0 q.1,if_pos rfl]
   rw[←this,E7 hi];simp[sO,cO]
  rw[e2];rfl
 ·rw[if_neg e,if_neg (Ne.symm e)];simp[sO,pl,plc,cO]
theorem d3i{x:Hp}(hR:SR x.S){d:Int}(hd:d∈lv x.S):a6A (hO x) d=some (hO (wS x (gnA x.S d))):=by
 unfold a6A;rw[show (hO x).S=sO x.S from rfl,b1r hR hd,d7R];have e1:M9 (sO x.S) d (⟨(oo (ob x.S d)).Serial,0,(oo (ob x.S d)).Weak,(oo (ob x.S d)).Prog,(oo (ob x.S d)).Started,[]⟩:C6)=some (sO (k1 x.S d),0):=by
  rw[←c2v hR hd];exact b2r (o:=ded (ob x.S d)) hR hd rfl (b79 hR hd)
 rw[e1,d7R,d3x hR hd,d7R];by_cases hw:(ob x.S d).Weak=0
 ·rw[if_pos (by simpa[oo] using hw),c7q (d1S hR hd) (d1Q hR hd),d7R,d1I hR hd hw]
  rfl
 ·rw[if_neg (by simpa[oo] using hw)]
  show some (hO (wS x (k2 x.S d)))=_;rw[d1R hR hd hw]
end Go.Sh
namespace Go.Sh
theorem c4G:∀(l:List Int) {x:Hp},SR x.S→SR (l.foldl Q5 x).S
 | [],x,h=>h
 | v::l,x,h=>c4G l (x:=Q5 x v) (c22 h v)
theorem b9d:∀(l:List Int) {x:Hp},SR x.S→SL x→SL (l.foldl Q5 x)
 | [],x,_,h=>h
 | v::l,x,hR,h=>b9d l (x:=Q5 x v) (c22 hR v) (h.rls hR v)
theorem c51(l:List Int){k:Nat}(hk:k<l.length)(x:Hp):(l.take (k+1)).foldl Q5 x=Q5 ((l.take k).foldl Q5 x) l[k]:=by
 rw[N2 hk,List.foldl_append];rfl
theorem b9a{y:Hp}(hR:SR y.S)(l:List Int)(hl:l.length≤1000000)(hb:∀v∈l,v≤9223372036854775807){K:Hp→Option Hp}:((lp (S:=Int × b7) (E:=b7) (λ((s35,s36):Int × b7)=>
     if (decide (s35<(l.length:Int))) then
      (ix l s35).bind λv39=>
      (D3 s36 v39).bind λv40=>
      some (.inl (x8 (s35+1),v40))
     else
     some (.inr s36)) (0,y)).bind K)=K (l.foldl Q5 y):=by
 have key:=G7 l Q5 id (λk z=>SR z.S) (b0:=y) (f:=λ((s35,s36):Int × b7)=>
     if (decide (s35<(l.length:Int))) then
      (ix l s35).bind λv39=>
      (D3 s36 v39).bind λv40=>
      some (Sum.inl (x8 (s35+1),v40))
     else
     some (.inr s36)) (by omega) hR (λk hk z hz=>?_) (λz hz=>by simp)
 ·rw[key,d7R];rfl
 ·simp only[Int.ofNat_lt,hk,decide_true,if_true,p8 hk,d7R,a2U hz (hb _ (List.getElem_mem hk))];rw[l7];exact⟨rfl,c22 hz _⟩
theorem b5M{y:Hp}(hR:SR y.S)(l:List Int)(hl:l.length≤1000000)(hb:∀v∈l,v≤9223372036854775807){K:c7→Option c7}:((lp (S:=Int × c7) (E:=c7) (λ((s45,s46):Int × c7)=>
      if (decide (s45<(l.length:Int))) then
       (ix l s45).bind λv49=>
       (E8 s46 v49).bind λv50=>
       some (.inl (x8 (s45+1),v50))
      else
      some (.inr s46)) (0,hO y)).bind K)=K (hO (l.foldl Q5 y)):=by
 have key:=a2N (f:=λ((s45,s46):Int × c7)=>
      if (decide (s45<(l.length:Int))) then
       (ix l s45).bind λv49=>
       (E8 s46 v49).bind λv50=>
       some (Sum.inl (x8 (s45+1),v50))
      else
      some (.inr s46)) (t0:=hO y) l.length (λk z=>z=hO ((l.take k).foldl Q5 y)) (λz=>z=hO (l.foldl Q5 y)) (by omega) rfl ?_ ?_
 ·obtain⟨e,h1,h2⟩:=key;rw[h1,d7R,h2]
 ·rintro k z hk rfl;left;have hz:=c4G (l.take k) hR;simp only[Int.ofNat_lt,hk,decide_true,if_true,p8 hk,d7R,a4r hz (hb _ (List.getElem_mem hk))];rw[l7,←c51 l hk];exact⟨_,rfl,rfl⟩
 ·rintro z rfl;exact⟨_,if_neg (by simp),by rw[List.take_length]⟩
theorem c0m(s:a7)(ds:List Int){k:Nat}(hk:k<ds.length):gnL s (ds.take (k+1))=gnA (gnL s (ds.take k)) ds[k]:=by
 unfold gnL;rw[N2 hk,List.foldl_append];rfl
section
variable{y:Hp}(hR:SR y.S){ds:List Int}(hn:ds.Nodup)(hm:∀d∈ds,d∈lv y.S)
include hR hn hm
theorem b5o{k:Nat}(hk:k<ds.length):SR (gnL y.S (ds.take k))∧ds[k]∈lv (gnL y.S (ds.take k)):=by
 have g:=a15 (ds.take k) hR ((List.take_sublist k ds).nodup hn) λd hd=>hm d (List.mem_of_mem_take hd);refine⟨g.sr,?_⟩;rw[g.lv,List.mem_filter,decide_eq_true_iff];refine⟨hm _ (List.getElem_mem hk),λq=>?_⟩;rw[←List.take_append_drop k ds,List.nodup_append] at hn;exact hn.2.2 _ q ds[k] (by rw[List.drop_eq_getElem_cons hk];exact List.mem_cons_self ..) rfl
theorem c5C(hl:ds.length≤1000){K:Hp→Option Hp}:((lp (S:=Int × b7) (E:=b7) (λ((s42,s43):Int × b7)=>
    if (decide (s42<(ds.length:Int))) then
     (ix ds s42).bind λv46=>
     (Z0 s43 v46).bind λv47=>
     some (.inl (x8 (s42+1),v47))
    else
    some (.inr s43)) (0,y)).bind K)=K (wS y (gnL y.S ds)):=by
 have key:=a2N (f:=λ((s42,s43):Int × b7)=>
    if (decide (s42<(ds.length:Int))) then
     (ix ds s42).bind λv46=>
     (Z0 s43 v46).bind λv47=>
     some (Sum.inl (x8 (s42+1),v47))
    else
    some (.inr s43)) (t0:=y) ds.length (λk z=>z=wS y (gnL y.S (ds.take k))) (λz=>z=wS y (gnL y.S ds)) (by omega) rfl ?_ ?_
 ·obtain⟨e,h1,h2⟩:=key;rw[h1,d7R,h2]
 ·rintro k z hk rfl;left;obtain⟨h1,h2⟩:=b5o hR hn hm hk;simp only[Int.ofNat_lt,hk,decide_true,if_true,p8 hk,d7R,c5D (x:=wS y (gnL y.S (ds.take k))) h1 h2];rw[l7,c0m _ _ hk];exact⟨_,rfl,rfl⟩
 ·rintro z rfl;exact⟨_,if_neg (by simp),by rw[List.take_length]⟩
theorem c0v(hl:ds.length≤1000){K:c7→Option c7}:((lp (S:=Int × c7) (E:=c7) (λ((s52,s53):Int × c7)=>
     if (decide (s52<(ds.length:Int))) then
      (ix ds s52).bind λv56=>
      (a6A s53 v56).bind λv57=>
      some (.inl (x8 (s52+1),v57))
     else
     some (.inr s53)) (0,hO y)).bind K)=K (hO (wS y (gnL y.S ds))):=by
 have key:=a2N (f:=λ((s52,s53):Int × c7)=>
     if (decide (s52<(ds.length:Int))) then
      (ix ds s52).bind λv56=>
      (a6A s53 v56).bind λv57=>
      some (Sum.inl (x8 (s52+1),v57))
     else
     some (.inr s53)) (t0:=hO y) ds.length (λk z=>z=hO (wS y (gnL y.S (ds.take k)))) (λz=>z=hO (wS y (gnL y.S ds))) (by omega) rfl ?_ ?_
 ·obtain⟨e,h1,h2⟩:=key;rw[h1,d7R,h2]
 ·rintro k z hk rfl;left;obtain⟨h1,h2⟩:=b5o hR hn hm hk;simp only[Int.ofNat_lt,hk,decide_true,if_true,p8 hk,d7R,d3i (x:=wS y (gnL y.S (ds.take k))) h1 h2];rw[l7,c0m _ _ hk];exact⟨_,rfl,rfl⟩
 ·rintro z rfl;exact⟨_,if_neg (by simp),by rw[List.take_length]⟩
end
section
variable{x:Hp}(hx:N9 x){ds:List Int}(hn:ds.Nodup)(hm:∀d∈ds,d∈lv x.S)
include hx hn hm
theorem b8b:ds.length≤24:=Nat.le_trans (a4K hn hm) (G2 (w9.2 hx.sh.sr))
theorem b8k{d:Int}(hd:d∈lv x.S):(ob x.S d).Fields.length≤4:=(K3 hx.sh.sr hd).fl
theorem b8J{d:Int}(hd:d∈lv x.S):(outs x.S d).length≤4:=Nat.le_trans (c7X _) (b8k hx hn hm hd)
theorem a9y:∀(l:List Int),(∀d∈l,d∈lv x.S)→(l.flatMap (outs x.S)).length≤4*l.length
 | [],_=>by simp
 | d::l,h=>by
  rw[List.flatMap_cons,List.length_append,List.length_cons];have:=a9y l λe he=>h e (List.mem_cons_of_mem _ he);have:=b8J hx hn hm (h d (List.mem_cons_self ..));omega
theorem c4q:∀v∈ds.flatMap (outs x.S)++(wot x.T ds).2,v≤9223372036854775807:=λv hv=>by
 rcases List.mem_append.1 hv with q | q
 ·obtain⟨d,hd,q⟩:=List.mem_flatMap.1 q;obtain⟨q,_⟩:=a7n.1 q;rcases hx.sh.fl d (hm d hd) v q with e | e
  ·omega
  ·exact a2c hx.sh.sr e
 ·by_cases h0:v=0
  ·omega
  ·have hl:=b8b hx hn hm;have h3:=(a42 hx.sh.hr ds (by omega)).2.2.2.2.2 v
   have h4:=a2r.2 ⟨h0,q⟩;have h5:0<own x.T v:=by omega
   obtain⟨p,hp,hq⟩:=List.countP_pos_iff.1 h5;have hq:(v != 0&&p.Val==v)=true:=hq;rw[Bool.and_eq_true,beq_iff_eq] at hq;have:=(hx.sh.pr _ _ (a36.1 hp)).2;rw[hq.2] at this;exact a2c hx.sh.sr this
theorem c0I:(ds.flatMap (outs x.S)++(wot x.T ds).2).length≤200:=by
 have hl:=b8b hx hn hm;have h1:=a9y hx hn hm ds hm;have h2:=(a42 hx.sh.hr ds (by omega)).2.2.1
 rw[List.length_append];omega
theorem c3T(hq:(x.Q.L++clt x.a8 ds).length≤30){l:List Int}(h1:V9 x l=some ds):a0C x l=some (buH x ds):=by
 have hl:=b8b hx hn hm;have hR:=hx.sh.sr;obtain⟨w1,w2,w3,w4,w5,w6⟩:=a42 hx.sh.hr ds (by omega)
 have ol:=c0I hx hn hm;have fl:=a9y hx hn hm ds hm;unfold a0C;rw[h1,d7R,c2a (by have:=hx.sh.c6;omega) (by omega) hq hx.sh.cap,d7R]
 simp only[jn];have key:=G7 ds (λb d=>b++outs x.S d) id (λk b=>b.length≤4*k) (b0:=[]) (f:=λ((s49,s50):Int × (List Int))=>
   if (decide (s49<(ds.length:Int))) then
    (ix ds s49).bind λv53=>
    (y9 (clH x ds).S v53).bind λv54=>
    (a4t v54.1.Fields).bind λv55=>
    (app 8 s50 v55).bind λv56=>
    some (Sum.inl (x8 (s49+1),v56))
   else
   some (.inr s50)) (by omega) (by simp) (λk hk b hb=>?_) (λb hb=>by simp)
 ·rw[key,d7R,a2J,List.nil_append];dsimp only[id];rw[show (clH x ds).T=x.T from rfl,w1,d7R];have ol2:=ol;rw[List.length_append] at ol2;rw[A7 (by omega) (by omega),d7R]
  have k1:=c5C (y:=⟨(clH x ds).S,(clH x ds).Roots,(clH x ds).a8,(wot x.T ds).1,(clH x ds).Q⟩) hR hn hm (by omega) (K:=λe=>(lp (S:=Int × b7) (E:=b7) (λ((s35,s36):Int × b7)=>
     if (decide (s35<((ds.flatMap (outs x.S)++(wot x.T ds).2).length:Int))) then
      (ix (ds.flatMap (outs x.S)++(wot x.T ds).2) s35).bind λv39=>
      (D3 s36 v39).bind λv40=>
      some (.inl (x8 (s35+1),v40))
     else
     some (.inr s36)) (0,e)).bind λe34=>some e34)
  refine Eq.trans k1 ?_;have g:=a15 ds hR hn hm;have k2:=b9a (y:=wS (⟨(clH x ds).S,(clH x ds).Roots,(clH x ds).a8,(wot x.T ds).1,(clH x ds).Q⟩:Hp) (gnL x.S ds)) g.sr _ (by omega) (c4q hx hn hm) (K:=λe34=>some e34)
  refine Eq.trans k2 ?_;rfl
 ·have hd:=hm _ (List.getElem_mem hk);have f4:=b8k hx hn hm hd;have o4:=b8J hx hn hm hd;simp only[Int.ofNat_lt,hk,decide_true,if_true,p8 hk,d7R,show (clH x ds).S=x.S from rfl,b2U hR hd,c0C _ (by omega:(ob x.S ds[k]).Fields.length≤1000000)]
  have e:nz (ob x.S ds[k]).Fields=outs x.S ds[k]:=rfl;rw[e,A7 (by omega) (by omega),d7R,l7]
  exact⟨rfl,by rw[List.length_append];omega⟩
theorem b6Q(hq:(x.Q.L++clt x.a8 ds).length≤30){l:List Int}(h1:a8Z (hO x) l=some ds):a6y (hO x) l=some (hO (buH x ds)):=by
 have hl:=b8b hx hn hm;have hR:=hx.sh.sr;obtain⟨w1,w2,w3,w4,w5,w6⟩:=a42 hx.sh.hr ds (by omega)
 have ol:=c0I hx hn hm;have fl:=a9y hx hn hm ds hm;have c6:=hx.sh.c6;unfold a6y;rw[h1,d7R,show (hO x).a8=x.a8.map wcR from rfl,c90 _ _ (by omega) (by omega),d7R]
 simp only[jn];rw[show (hO x).Q=tqR x.Q from rfl,d2E (by omega) (by omega) hq hx.sh.cap]
 have key:=G7 ds (λb d=>b++outs x.S d) id (λk b=>b.length≤4*k) (b0:=[]) (f:=λ((s59,s60):Int × (List Int))=>
    if (decide (s59<(ds.length:Int))) then
     (ix ds s59).bind λv63=>
     (F5 (hO x).S v63).bind λv64=>
     (a2Q v64.1.Fields).bind λv65=>
     (app 8 s60 v65).bind λv66=>
     some (Sum.inl (x8 (s59+1),v66))
    else
    some (.inr s60)) (by omega) (by simp) (λk hk b hb=>?_) (λb hb=>by simp)
 ·rw[key,d7R,a2J,List.nil_append];dsimp only[id];rw[show (hO x).T=x.T.map M0 from rfl,w4,d7R];dsimp only;have ol2:=ol;rw[List.length_append] at ol2;rw[A7 (by omega) (by omega),d7R]
  have k1:=c0v (y:=⟨(clH x ds).S,(clH x ds).Roots,(clH x ds).a8,(wot x.T ds).1,(clH x ds).Q⟩) hR hn hm (by omega) (K:=λe=>(lp (S:=Int × c7) (E:=c7) (λ((s45,s46):Int × c7)=>
      if (decide (s45<((ds.flatMap (outs x.S)++(wot x.T ds).2).length:Int))) then
       (ix (ds.flatMap (outs x.S)++(wot x.T ds).2) s45).bind λv49=>
       (E8 s46 v49).bind λv50=>
       some (.inl (x8 (s45+1),v50))
      else
      some (.inr s46)) (0,e)).bind λe44=>some e44)
  refine Eq.trans k1 ?_;have g:=a15 ds hR hn hm;have k2:=b5M (y:=wS (⟨(clH x ds).S,(clH x ds).Roots,(clH x ds).a8,(wot x.T ds).1,(clH x ds).Q⟩:Hp) (gnL x.S ds)) g.sr _ (by omega) (c4q hx hn hm) (K:=λe44=>some e44)
  refine Eq.trans k2 ?_;rfl
 ·have hd:=hm _ (List.getElem_mem hk);have f4:=b8k hx hn hm hd;have o4:=b8J hx hn hm hd;simp only[Int.ofNat_lt,hk,decide_true,if_true,p8 hk,d7R,show (hO x).S=sO x.S from rfl,b1r hR hd];have e:a2Q (oo (ob x.S ds[k])).Fields=some (outs x.S ds[k]):=b5v _ (by show (ob x.S ds[k]).Fields.length≤_;omega)
  rw[e,d7R,A7 (by omega) (by omega),d7R,l7]
  exact⟨rfl,by rw[List.length_append];omega⟩
end
end Go.Sh
namespace Go.Sh
theorem c9Y{x:Hp}(hR:SR x.S)(hS:SL x){ds:List Int}(hn:ds.Nodup)(hm:∀d∈ds,d∈lv x.S)(t:Tb):SL (a47 x ds t):=λk hk=>by
 have g:=a15 ds hR hn hm;have hk:k∈lv (gnL x.S ds):=hk;rw[g.lv,List.mem_filter,decide_eq_true_iff] at hk;have e:ob (a47 x ds t).S k=ob x.S k:=g.ob k hk.1 hk.2;rw[e];exact hS k hk.1
theorem c6O{x:Hp}(hR:SR x.S)(hS:SL x){ds:List Int}(hn:ds.Nodup)(hm:∀d∈ds,d∈lv x.S):SL (buH x ds):=
 b9d _ (x:=a47 x ds (wot x.T ds).1) (a15 ds hR hn hm).sr (c9Y hR hS hn hm _)
theorem c8o{x:Hp}(hR:SR x.S)(hS:SL x){h:Int}(hh:h∈lv x.S):SL (quH x h):=by
 have hok:=b9p hR hh;have r1:=a08 (o:=srt (ob x.S h)) hR hh rfl hok;refine SL.C8 (x:=⟨seO x.S h (srt (ob x.S h)),x.Roots,x.a8,x.T,⟨x.Q.L ++ [qtk x h],x.Q.Cap⟩⟩) (λk hk=>?_) r1 h;dsimp only at hk ⊢;rw[a3Q (o:=srt (ob x.S h)) hR hh rfl hok] at hk;rw[a2W (o:=srt (ob x.S h)) hR hh rfl hok (a2c hR hk)];split;·exact hS h hh
 ·exact hS k hk
theorem d4K{x:Hp}(hx:N9 x)(hS:SL x):SL (stp x):=by
 cases h:zr x with
 | nil=>rw[a9R h];exact hS
 | cons z l=>
  have hz:=(a1E.1 (show z∈zr x by rw[h];exact List.mem_cons_self ..)).1
  rw[a4X h];split;·exact c8o hx.sh.sr hS hz
  ·exact c6O hx.sh.sr hS (by simp) (by simpa using hz)
theorem b9q{x:Hp}(hx:N9 x)(hS:SL x)(n:Nat):SL (stN n x):=by
 induction n with
 | zero=>exact hS
 | succ n ih=>rw[a2q];exact d4K (a0W hx n) ih
theorem c4R{x:Hp}(hx:N9 x)(hS:SL x):SL (a1V x):=b9q hx hS 100
section
variable{x:Hp}(hx:N9 x)(hS:SL x)
include hx hS
theorem b7D{z:Int}(hz:z∈zr x):(x.Q.L++clt x.a8 [z]).length≤30:=by
 have h1:=(b6d hx hz).sh.q30;have hzl:=(a1E.1 hz).1;rw[(b1c hx.sh.sr (ds:=[z]) (by simp) (by simpa using hzl)).2.2.2] at h1
 exact h1
theorem c54(h:zr x = []):((a1Q x).bind λv4=>
  if ((v4.length:Int)==0) then
   some (Sum.inr x)
  else
  (ix v4 0).bind λv5=>
  (y9 x.S v5).bind λv6=>
  (M2 v6.1).bind λv7=>
  if v7 then
   (T4 x v5).bind λv8=>
   some (.inl v8)
  else
  (cut v4 0 1).bind λv9=>
  (a0C x v9).bind λv10=>
  some (Sum.inl (α:=Hp) (β:=Hp) v10))=some (.inr x):=by
 rw[zero_eq hx.sh.sr,d7R,h];rfl
theorem d5v(z:Int)(l:List Int):cut (z::l) 0 1=some [z]:=by
 unfold cut;rw[if_pos (by simp;omega)]
 simp
theorem c25(h:zr x ≠ []):((a1Q x).bind λv4=>
  if ((v4.length:Int)==0) then
   some (Sum.inr x)
  else
  (ix v4 0).bind λv5=>
  (y9 x.S v5).bind λv6=>
  (M2 v6.1).bind λv7=>
  if v7 then
   (T4 x v5).bind λv8=>
   some (.inl v8)
  else
  (cut v4 0 1).bind λv9=>
  (a0C x v9).bind λv10=>
  some (Sum.inl (α:=Hp) (β:=Hp) v10))=some (.inl (stp x)):=by
 cases hz:zr x with
 | nil=>exact absurd hz h
 | cons z l=>
  have hzm:z∈zr x:=by rw[hz];exact List.mem_cons_self ..
  have hzl:=(a1E.1 hzm).1;have hR:=hx.sh.sr;rw[zero_eq hR,d7R,hz,if_neg (by simp;omega),show ix (z::l) 0=some z from rfl,d7R,b2U hR hzl,d7R,c4s,d7R,a4X hz]
  by_cases hd:due (ob x.S z)=true
  ·rw[if_pos hd,if_pos hd,b7j hx hS (a2c hR hzl),d7R];unfold quD;rw[if_pos ⟨hzl,hd⟩]
  ·rw[if_neg hd,if_neg hd,d5v hx hS,d7R,c3T hx (ds:=[z]) (by simp) (by simpa using hzl) (b7D hx hS hzm) (by rw[b1F hR [z] (by simp) (by simpa using a2c hR hzl),c0y hzl]),d7R]
theorem a4s:O8 x=some (a1V x):=by
 obtain⟨n,hn,h1,h2,h3⟩:=b3h hx;unfold O8;refine a2a (λj=>stN j x) rfl n (λ_=>True) (by omega) trivial (λk hk _=>.inl ⟨?_,trivial⟩) (λ_=>⟨stN n x,?_,by rw[h3]⟩)
 ·have:=c25 (a0W hx k) (b9q hx hS k) (h2 k hk);rw[←a2q] at this;exact this
 ·exact c54 (a0W hx n) (b9q hx hS n) h1
theorem d04{k:Nat}(hk:k<100)(h:zr x ≠ []){E:Type}{e:E}:((a6z (hO x)).bind λv35=>
     if ((v35.length:Int)==0) then
      some (Sum.inr e)
     else
     (ix v35 0).bind λv36=>
     (a7A (hO x) v36).bind λv37=>
     if v37 then
      (a2T (hO x) v36).bind λv38=>
      some (.inl (x8 ((k:Int)+1),v38))
     else
     (cut v35 0 1).bind λv39=>
     (a6y (hO x) v39).bind λv40=>
     some (Sum.inl (x8 ((k:Int)+1),v40)))=some (.inl (((k+1:Nat):Int),hO (stp x))):=by
 cases hz:zr x with
 | nil=>exact absurd hz h
 | cons z l=>
  have hzm:z∈zr x:=by rw[hz];exact List.mem_cons_self ..
  have hzl:=(a1E.1 hzm).1;have hR:=hx.sh.sr;rw[c85 hR,d7R,hz,if_neg (by simp;omega),show ix (z::l) 0=some z from rfl,d7R,c66 hx hS (a2c hR hzl),d7R,decide_eq_true hzl,Bool.true_and,a4X hz,l7]
  by_cases hd:due (ob x.S z)=true
  ·rw[if_pos hd,if_pos hd,c0R hx hS (a2c hR hzl),d7R];unfold quD;rw[if_pos ⟨hzl,hd⟩]
  ·rw[if_neg hd,if_neg hd,d5v hx hS,d7R,b6Q hx (ds:=[z]) (by simp) (by simpa using hzl) (b7D hx hS hzm) (by rw[c67 hR [z] (by simp) (by simpa using a2c hR hzl),c0y hzl]),d7R]
theorem a6K:N8 (hO x)=some (hO (a1V x)):=by
 obtain⟨n,hn,h1,h2,h3⟩:=b3h hx;unfold N8;simp only[jn];refine a2a (λj=>((j:Int),hO (stN j x))) (by rfl) n (λ_=>True) (by omega) trivial (λk hk _=>.inl ⟨?_,trivial⟩) (λ_=>⟨.inl (hO (stN n x)),?_,by rw[h3]⟩)
 ·dsimp only;rw[if_pos (by simp;omega)]
  have:=d04 (a0W hx k) (b9q hx hS k) (k:=k) (by omega) (h2 k hk) (e:=(Sum.inl (hO (stN k x)):c7 ⊕ c7))
  rw[←a2q] at this;exact this
 ·dsimp only;rw[if_pos (by simp;omega),c85 (a0W hx n).sh.sr,d7R,h1]
  rfl
end
end Go.Sh
namespace Go.Sh
def M5(n l m e:Int):Int:=if n<l∨n > m then e else 0
def a0Z(a b c:Int):Int:=if a≠0 then a else if b≠0 then b else c
def B7(k a b c:Int):Int:=
 if k=1 then a0Z (M5 a 0 5 6) (M5 b 0 4 1) (M5 c (-1) 5 13)
 else if k=2∨k=9∨k=10 then a0Z (M5 a 0 5 6) (M5 b 0 5 6) 0
 else if k=3 then M5 a 0 5 6
 else if k=4 then a0Z (M5 a 0 5 6) (M5 b 0 5 6) (M5 c 0 3 5)
 else if k=5 then a0Z (M5 a 0 5 6) (M5 b 0 3 5) (M5 c (-1) 5 6)
 else if k=6 then a0Z (M5 a 0 5 7) (M5 b (-1) 5 6) (M5 c (-1) 5 13)
 else if k=7 then a0Z (M5 a 0 5 6) (M5 b 0 5 7) 0
 else if k=8 then a0Z (M5 a 0 5 6) (M5 b (-1) 5 6) 0
 else if k=11 then 0
 else if k=12 then M5 a 0 200 12
 else 14
def b88:j5:=⟨some 233,0,5,6⟩
def d0Z:j5:=⟨some 234,0,5,6⟩
def d5W:j5:=⟨some 234,-1,5,6⟩
def d6c:j5:=⟨some 236,-1,5,13⟩
def b3s:List (Int × List j5):=[(1,[b88,⟨some 234,0,4,1⟩,d6c]),(2,[b88,d0Z]),(3,[b88]),(4,[b88,d0Z,⟨some 236,0,3,5⟩]),
 (5,[b88,⟨some 234,0,3,5⟩,⟨some 236,-1,5,6⟩]),(6,[⟨some 233,0,5,7⟩,d5W,d6c]),(7,[b88,⟨some 234,0,5,7⟩]),(8,[b88,d5W]),(9,[b88,d0Z]),(10,[b88,d0Z]),(11,[]),(12,[⟨some 233,0,200,12⟩])]
theorem c2b:a65=some b3s:=by kernel_rfl
def a3u(o:g8)(d:j5):Int:=if d.part=some 233 then o.A else if d.part=some 234 then o.B else o.C
def b0c(o:g8)(d:j5):Bool:=decide (a3u o d<d.least)||decide (a3u o d > d.most)
def b1n(o:g8):List j5→Int ⊕ Unit
 | []=>.inr ()
 | d::ds=>if b0c o d then .inl d.e else b1n o ds
theorem c0j(o:g8)(d:j5)(ds:List j5):b1n o (d::ds)=if b0c o d then .inl d.e else b1n o ds:=rfl
def c3s(d:j5):Prop:=d.part=some 233∨d.part=some 234∨d.part=some 236
theorem d4a(o:g8){d:j5}(h:c3s d):b1p d.part o=some (a3u o d):=by
 unfold a3u;rcases h with h | h | h
 ·rw[h];rfl
 ·rw[h];rfl
 ·rw[h];rfl
theorem d3A(o:g8)(ds:List j5)(hl:ds.length≤10)(hp:∀d∈ds,c3s d):lp (S:=Int) (E:=Int ⊕ Unit) (λ(s11:Int)=>
   if (decide (s11<(ds.length:Int))) then
    (ix ds s11).bind λv13=>
    (b1p v13.part o).bind λv14=>
    if ((decide (v14<v13.least))||(decide (v14 > v13.most))) then
     some (.inr (.inl v13.e))
    else
    some (.inl (x8 (s11+1)))
   else
   some (.inr (.inr ()))) 0=some (b1n o ds):=by
 refine a4f (b69 ds.length (λk=>b1n o ds=b1n o (ds.drop k)) (λe=>e=b1n o ds) (by omega) rfl (λk hk hP=>?_) (λhP=>?_))
 ·rw[if_pos (by simpa using hk),p8 hk,d7R,d4a o (hp _ (List.getElem_mem hk)),d7R]
  rw[List.drop_eq_getElem_cons hk,c0j] at hP;by_cases c:b0c o ds[k]=true
  ·rw[if_pos (show ((decide (a3u o ds[k]<ds[k].least))||(decide (a3u o ds[k] > ds[k].most)))=true from c)];rw[if_pos c] at hP;exact .inr ⟨_,rfl,hP.symm⟩
  ·rw[if_neg (show ¬((decide (a3u o ds[k]<ds[k].least))||(decide (a3u o ds[k] > ds[k].most)))=true from c),l7];rw[if_neg c] at hP;exact .inl ⟨rfl,hP⟩
 ·rw[List.drop_length] at hP;exact⟨_,if_neg (by simp),hP.symm⟩
theorem c95:∀p∈b3s,p.2.length≤10∧∀d∈p.2,c3s d:=by
 have:b3s.all (λp=>decide (p.2.length≤10)&&p.2.all λd=>(d.part==some 233)||(d.part==some 234)||(d.part==some 236))=true:=by kernel_rfl
 intro p hp;have:=List.all_eq_true.1 this p hp;rw[Bool.and_eq_true,decide_eq_true_iff,List.all_eq_true] at this;refine⟨this.1,λd hd=>?_⟩;have:=this.2 d hd;simp only[Bool.or_eq_true,beq_iff_eq] at this;unfold c3s;rcases this with (h | h) | h
 ·exact .inl h
 ·exact .inr (.inl h)
 ·exact .inr (.inr h)
theorem c4h{m:List (Int × List j5)}{k:Int}{v:List j5}(h:C0 m k=some v):(k,v)∈m:=by
 induction m with
 | nil=>cases h
 | cons p m ih=>
  unfold C0 at h;split at h
  ·rename_i c;have:k=p.1:=by simpa using c
   cases h;subst this;exact List.mem_cons_self ..
  ·exact List.mem_cons_of_mem _ (ih h)
def b2z(o:g8)(ds:List j5):Int:=match b1n o ds with
 | .inl e=>e
 | .inr _=>0
theorem d1t(o:g8):b2z o []=0:=rfl
theorem b2A(o:g8)(d:j5)(ds:List j5):b2z o (d::ds)=if b0c o d then d.e else b2z o ds:=by
 unfold b2z;rw[c0j];cases b0c o d <;> rfl
theorem b8x(o:g8)(d:j5):M5 (a3u o d) d.least d.most d.e=if b0c o d then d.e else 0:=by
 unfold M5 b0c;by_cases h:a3u o d<d.least∨a3u o d > d.most
 ·rw[if_pos h,if_pos (by simpa using h)]
 ·rw[if_neg h,if_neg (by simpa using h)]
theorem d1r(o:g8)(d:j5):b2z o [d]=M5 (a3u o d) d.least d.most d.e:=by rw[b2A,d1t,b8x]
theorem c8W(o:g8)(d e:j5)(h1:d.e≠0):b2z o [d,e]=a0Z (M5 (a3u o d) d.least d.most d.e) (M5 (a3u o e) e.least e.most e.e) 0:=by
 rw[b2A,d1r,b8x o d];unfold a0Z;cases b0c o d
 ·simp only[Bool.false_eq_true,if_false,ne_eq,not_true_eq_false];split;·rfl
  ·rename_i h;simpa using h
 ·simp[h1]
theorem d1s(o:g8)(d e f:j5)(h1:d.e≠0)(h2:e.e≠0):b2z o [d,e,f]=a0Z (M5 (a3u o d) d.least d.most d.e) (M5 (a3u o e) e.least e.most e.e) (M5 (a3u o f) f.least f.most f.e):=by
 rw[b2A,b2A,d1r,b8x o d,b8x o e];unfold a0Z;cases b0c o d <;> cases b0c o e <;> simp[h1,h2]
theorem c7E(o:g8):(match C0 b3s o.Kind with
  | none=>14
  | some ds=>b2z o ds)=B7 o.Kind o.A o.B o.C:=by
 obtain⟨k,a,b,c⟩:=o;dsimp only;by_cases h:1≤k∧k≤12
 ·have:k=1∨k=2∨k=3∨k=4∨k=5∨k=6∨k=7∨k=8∨k=9∨k=10∨k=11∨k=12:=by omega
  rcases this with rfl | rfl | rfl | rfl | rfl | rfl | rfl | rfl | rfl | rfl | rfl | rfl
  ·exact d1s _ _ _ _ (by decide) (by decide)
  ·exact c8W _ _ _ (by decide)
  ·exact d1r _ _
  ·exact d1s _ _ _ _ (by decide) (by decide)
  ·exact d1s _ _ _ _ (by decide) (by decide)
  ·exact d1s _ _ _ _ (by decide) (by decide)
  ·exact c8W _ _ _ (by decide)
  ·exact c8W _ _ _ (by decide)
  ·exact c8W _ _ _ (by decide)
  ·exact c8W _ _ _ (by decide)
  ·rfl
  ·exact d1r _ _
 ·have e:C0 b3s k=none:=by
   cases hm:C0 b3s k with
   | none=>rfl
   | some v=>
    have:=c4h hm;simp only[b3s,List.mem_cons,Prod.mk.injEq,List.not_mem_nil,or_false] at this;omega
  rw[e];unfold B7;repeat rw[if_neg (by omega)]
theorem a8t(o:g8):S0 o=some (B7 o.Kind o.A o.B o.C):=by
 rw[←c7E];unfold S0;rw[c2b,d7R];cases h:C0 b3s o.Kind with
 | none=>rfl
 | some ds=>
  obtain⟨h1,h2⟩:=c95 _ (c4h h);rw[if_neg (by simp)]
  simp only[jn,Option.getD_some];rw[d3A o ds h1 h2,d7R];unfold b2z;cases b1n o ds <;> rfl
theorem d0i(n l m e:Int):a07 n l m e=some (M5 n l m e):=by
 unfold a07 M5;by_cases h:n<l∨n > m
 ·rw[if_pos h,if_pos (by simpa using h)]
 ·rw[if_neg h,if_neg (by simpa using h)]
theorem c7n(a b c:Int):Y9 a b c=some (a0Z a b c):=by
 unfold Y9 a0Z;by_cases h:a=0
 ·by_cases g:b=0
  ·rw[if_neg (by simpa using h),if_neg (by simpa using g),if_neg (by simpa using h),if_neg (by simpa using g)]
  ·rw[if_neg (by simpa using h),if_pos (by simpa using g),if_neg (by simpa using h),if_pos (by simpa using g)]
 ·rw[if_pos (by simpa using h),if_pos (by simpa using h)]
theorem a5j(o:r8):a0S o=some (B7 o.Kind o.A o.B o.C):=by
 unfold a0S B7;simp only[d0i,c7n,d7R,jn];by_cases h:1≤o.Kind∧o.Kind≤12
 ·have:o.Kind=1∨o.Kind=2∨o.Kind=3∨o.Kind=4∨o.Kind=5∨o.Kind=6∨o.Kind=7∨o.Kind=8∨o.Kind=9∨o.Kind=10∨o.Kind=11∨o.Kind=12:=by omega
  rcases this with h | h | h | h | h | h | h | h | h | h | h | h <;> rw[h] <;> rfl
 ·have n:∀j:Int,1≤j→j≤12→(o.Kind==j)=false:=λj h1 h2=>by
   rw[beq_eq_false_iff_ne];omega
  simp only[n 1 (by omega) (by omega),n 2 (by omega) (by omega),n 3 (by omega) (by omega),n 4 (by omega) (by omega),n 5 (by omega) (by omega),n 6 (by omega) (by omega),n 7 (by omega) (by omega),n 8 (by omega) (by omega),n 9 (by omega) (by omega),n 10 (by omega) (by omega),n 11 (by omega) (by omega),n 12 (by omega) (by omega),Bool.false_eq_true,if_false]
  repeat rw[if_neg (by omega)]
end Go.Sh
namespace Go.Sh
end Go.Sh
namespace Go.Sh
end Go.Sh
namespace Go.Sh
end Go.Sh
namespace Go.Sh
def ooI(o:C6):m9:=⟨o.Serial,o.Strong,o.Weak,o.Prog,o.Started,o.Fields⟩
def sOI(s:k8):a7:=⟨⟨s.a8.map λc=>⟨c.State,c.Gen,ooI c.Val⟩,s.Last⟩,s.Serial⟩
def hOI(x:c7):Hp:=⟨sOI x.S,x.Roots,x.a8.map λc=>⟨c.Target,c.Intact,c.Call⟩,x.T.map λp=>⟨p.State,p.Key,p.Val⟩,⟨x.Q.L.map λt=>⟨t.Kind,t.At,t.Prog⟩,x.Q.Cap⟩⟩
theorem d3m(x:Hp):hOI (hO x)=x:=by
 obtain⟨⟨⟨cs,l⟩,n⟩,r,w,t,⟨q,c⟩⟩:=x;unfold hOI hO sOI sO tqR;dsimp only;have a1:(cs.map cO).map (λc=>(⟨c.State,c.Gen,ooI c.Val⟩:b9))=cs:=by
  rw[List.map_map];refine Eq.trans (List.map_congr_left λa _=>?_) (List.map_id cs);rfl
 have a2:(w.map wcR).map (λc=>(⟨c.Target,c.Intact,c.Call⟩:g6))=w:=by
  rw[List.map_map];refine Eq.trans (List.map_congr_left λa _=>?_) (List.map_id w);rfl
 have a3:(t.map M0).map (λp=>(⟨p.State,p.Key,p.Val⟩:c5))=t:=by
  rw[List.map_map];refine Eq.trans (List.map_congr_left λa _=>?_) (List.map_id t);rfl
 have a4:(q.map tkR).map (λt=>(⟨t.Kind,t.At,t.Prog⟩:k9))=q:=by
  rw[List.map_map];refine Eq.trans (List.map_congr_left λa _=>?_) (List.map_id q);rfl
 rw[a1,a2,a3,a4]
theorem c4I{x:Hp}(hx:N9 x){ds:List Int}:(x.Q.L++clt x.a8 ds).length≤30:=by
 have hS:=hx.sh;have c6:=hS.c6;have h24:(lv x.S).length≤24:=G2 (w9.2 hS.sr);have htd:(x.Q.L++clt x.a8 ds).Pairwise λa b=>¬(a.Kind=b.Kind∧a.At=b.At):=by
  rw[List.pairwise_append];refine⟨hS.td,b6S ..,λa ha b hb q=>?_⟩;obtain⟨w,hw,rfl,hh,_⟩:=a35.1 hb;have hi:x.a8[w].Intact=true:=by
   unfold a33 at hh;rw[Bool.and_eq_true,Bool.and_eq_true] at hh;exact hh.1.1
  have:=((hS.cl w hw).2.2.2.2 hi).2;rw[Bool.eq_false_iff] at this;exact this (a5L.2 ⟨a,ha,q.1,q.2⟩)
 have:=b50 (m:=lv x.S) htd λt ht=>by
  rcases List.mem_append.1 ht with q | q
  ·rcases (hS.tk t q).2.2 with c | c
   ·exact .inl ⟨c.1,c.2.1⟩
   ·exact .inr c
  ·obtain⟨w,hw,rfl,_,_⟩:=a35.1 q;exact .inr ⟨rfl,by dsimp only;omega,by dsimp only;omega⟩
 omega
section
variable{x:Hp}(hB:HB x)
include hB
end
end Go.Sh
namespace Go.Sh
structure Stl (x y:Hp):Prop where
 lv:∀h∈lv y.S,h∈lv x.S
 ser:y.S.Serial=x.S.Serial
 len:y.S.S.a8.length=x.S.S.a8.length
 ob:∀h∈Sh.lv y.S,(ob y.S h).Serial=(ob x.S h).Serial∧(Sh.ob y.S h).Prog=(Sh.ob x.S h).Prog∧(Sh.ob y.S h).Fields=(Sh.ob x.S h).Fields∧((Sh.ob x.S h).Started=true→(Sh.ob y.S h).Started=true)
 rt:y.Roots=x.Roots
 cn:y.a8.length=x.a8.length
 cl:∀i (h:i<y.a8.length) (h':i<x.a8.length),y.a8[i]=⟨x.a8[i].Target,x.a8[i].Intact&&decide (x.a8[i].Target∈Sh.lv y.S),x.a8[i].Call⟩
 q:∃l,y.Q=⟨x.Q.L++l,x.Q.Cap⟩∧(∀t∈l,t.Kind=1→t.At∈Sh.lv x.S∧(Sh.ob x.S t.At).Started=false)∧∀h∈Sh.lv y.S,(Sh.ob y.S h).Started=true→(Sh.ob x.S h).Started=false→∃t∈l,t.Kind=1∧t.At=h
 rc:∀h,a1a x.S x.T (otr x) h→a1a y.S y.T (otr y) h
 has:∀k v,Has y.T k v→Has x.T k v
theorem Stl.refl{x:Hp}(hx:HpS x):Stl x x:=by
 refine⟨λ_ h=>h,rfl,rfl,λh _=>⟨rfl,rfl,rfl,id⟩,rfl,rfl,λi h h'=>?_,⟨[],by simp,by simp,λh _ a b=>?_⟩,λ_ h=>h,λ_ _ h=>h⟩
 ·have:=(hx.cl i h).2.2.2.2;cases hI:x.a8[i].Intact;·rw[Bool.false_and,←hI]
  ·rw[decide_eq_true (this hI).1,Bool.and_self,←hI]
 ·rw[a] at b;cases b
theorem Stl.trans{x y z:Hp}(a:Stl x y)(b:Stl y z):Stl x z:=by
 obtain⟨l1,q1,q2,q3⟩:=a.q;obtain⟨l2,r1,r2,r3⟩:=b.q;refine⟨λh hh=>a.lv h (b.lv h hh),b.ser.trans a.ser,b.len.trans a.len,λh hh=>?_,b.rt.trans a.rt,b.cn.trans a.cn,λi h h'=>?_,⟨l1++l2,?_,λt ht hk=>?_,λh hh s1 s2=>?_⟩,λh hh=>b.rc h (a.rc h hh),λk v hh=>a.has k v (b.has k v hh)⟩
 ·obtain⟨b1,b2,b3,b4⟩:=b.ob h hh;obtain⟨a1,a2,a3,a4⟩:=a.ob h (b.lv h hh);exact⟨b1.trans a1,b2.trans a2,b3.trans a3,λq=>b4 (a4 q)⟩
 ·have hy:i<y.a8.length:=by rw[a.cn];exact h'
  rw[b.cl i h hy,a.cl i hy h'];dsimp only;congr 1;rw[Bool.and_assoc];congr 1;by_cases q:x.a8[i].Target∈Sh.lv z.S
  ·rw[decide_eq_true q,decide_eq_true (b.lv _ q)];rfl
  ·rw[decide_eq_false q,Bool.and_false]
 ·rw[r1,q1,List.append_assoc]
 ·rcases List.mem_append.1 ht with q | q
  ·exact q2 t q hk
  ·obtain⟨e1,e2⟩:=r2 t q hk;refine⟨a.lv _ e1,?_⟩;cases hs:(Sh.ob x.S t.At).Started;·rfl
   ·rw[(a.ob _ e1).2.2.2 hs] at e2;cases e2
 ·cases hs:(Sh.ob y.S h).Started
  ·obtain⟨t,ht,e⟩:=r3 h hh s1 hs;exact⟨t,List.mem_append_right _ ht,e⟩
  ·obtain⟨t,ht,e⟩:=q3 h (b.lv h hh) hs s2;exact⟨t,List.mem_append_left _ ht,e⟩
theorem c4O(s:a7)(h:Int)(o:m9):(seO s h o).S.a8.length=s.S.a8.length:=M8 ..
theorem d0V{x:Hp}(hx:N9 x){z:Int}(hz:z∈lv x.S)(hs:(ob x.S z).Started=false):Stl x (quH x z):=by
 have hR:=hx.sh.sr;obtain⟨k,e1,e2,e3,e4⟩:=a7s hR hz;have l1:=b8Q hR hz;have hob:∀h∈lv x.S,(ob (quH x z).S h).Serial=(ob x.S h).Serial∧(ob (quH x z).S h).Prog=(ob x.S h).Prog∧(ob (quH x z).S h).Fields=(ob x.S h).Fields∧((ob (quH x z).S h).Started=true↔(ob x.S h).Started=true∨h=z):=λh hh=>by
  obtain⟨n,e⟩:=b5z hR hz hh;rw[e];by_cases q:h=z
  ·subst q;rw[if_pos rfl];exact⟨rfl,rfl,rfl,by simp⟩
  ·rw[if_neg q];exact⟨rfl,rfl,rfl,by simp[q]⟩
 have hot:∀h∈otr x,h∈otr (quH x z):=λh hh=>by
  unfold otr at hh ⊢;rw[e1,e4];rcases List.mem_append.1 hh with q | q
  ·exact List.mem_append_left _ q
  ·refine List.mem_append_right _ ?_;obtain⟨t,ht,a,b⟩:=b1K.1 q;exact b1K.2 ⟨t,List.mem_append_left _ ht,a,b⟩
 have rf:=Stl.refl hx.sh;refine⟨λh hh=>by rw[l1] at hh;exact hh,k.ser,k.len.trans (c4O ..),λh hh=>?_,e1,by rw[e2],λi h h'=>?_,⟨[qtk x z],by rw[e4],λt ht hk=>?_,λh hh s1 s2=>?_⟩,λh hh=>?_,λk v hh=>by rw[e3] at hh;exact hh⟩
 ·rw[l1] at hh;obtain⟨a,b,c,d⟩:=hob h hh;exact⟨a,b,c,λq=>d.2 (.inl q)⟩
 ·have e5:(quH x z).a8[i]=x.a8[i]:=by simp only[e2]
  rw[e5,l1];exact rf.cl i h' h'
 ·rw[List.mem_singleton] at ht;subst ht;exact⟨hz,hs⟩
 ·rw[l1] at hh;rcases (hob h hh).2.2.2.1 s1 with q | q
  ·rw[q] at s2;cases s2
  ·exact⟨qtk x z,List.mem_singleton_self _,rfl,q.symm⟩
 ·induction hh with
  | base h1 h2=>exact .base (hot _ h1) (by rw[l1];exact h2)
  | step h0 h1 h2 ih=>
   refine .step ih ?_ (by rw[l1];exact h2)
   unfold outs at h1 ⊢;rw[(hob _ h0.live).2.2.1];exact h1
  | pair h1 h0 h2 ih=>exact .pair (by rw[e3];exact h1) ih (by rw[l1];exact h2)
theorem c9Z{x:Hp}(hx:N9 x){z:Int}(hz:z∈zr x):Stl x (buH x [z]):=by
 have hR:=hx.sh.sr;have hzl:=(a1E.1 hz).1;have h0:z≠0:=λe=>a93 hR (e▸hzl);have hfree:=b9K hx hz;have hn:([z]:List Int).Nodup:=by simp
 have hm:∀d ∈ [z],d∈lv x.S:=by simpa using hzl
 have g:=a15 [z] hR hn hm;have k:=(a4R ([z].flatMap (outs x.S)++(wot x.T [z]).2) (x:=a47 x [z] (wot x.T [z]).1) g.sr).1;obtain⟨e1,e2,e3,e4⟩:=b1c hR hn hm;obtain⟨_,w2,_,_,w5,w6⟩:=a42 hx.sh.hr [z] (by simp)
 have l1:∀h,h∈lv (buH x [z]).S↔h∈lv x.S∧h≠z:=λh=>by
  rw[c16 hR hn hm,List.mem_filter,decide_eq_true_iff,List.mem_singleton]
 have hob:∀h∈lv (buH x [z]).S,(ob (buH x [z]).S h).Serial=(ob x.S h).Serial∧(ob (buH x [z]).S h).Prog=(ob x.S h).Prog∧(ob (buH x [z]).S h).Fields=(ob x.S h).Fields∧(ob (buH x [z]).S h).Started=(ob x.S h).Started:=λh hh=>by
  obtain⟨a,b⟩:=(l1 h).1 hh;obtain⟨n,e⟩:=c17 hR hn hm a (by simpa using b)
  rw[e];exact⟨rfl,rfl,rfl,rfl⟩
 refine⟨λh hh=>((l1 h).1 hh).1,k.ser.trans g.ser,k.len.trans g.len,λh hh=>?_,e1,by rw[e2];simp[clr],λi h h'=>?_,⟨clt x.a8 [z],by rw[e4],λt ht hk=>?_,λh hh s1 s2=>?_⟩,λh hh=>?_,λk v hh=>?_⟩
 ·obtain⟨a,b,c,d⟩:=hob h hh;exact⟨a,b,c,λq=>d.trans q⟩
 ·have e5:(buH x [z]).a8[i]=a8u [z] x.a8[i]:=by
   simp only[e2];exact List.getElem_map _
  rw[e5];have hc:=(hx.sh.cl i h').2.2.2.2;unfold a8u a33;cases hI:x.a8[i].Intact;·rw[if_neg (by simp),Bool.false_and,←hI]
  ·have ht:=(hc hI).1;have ht0:x.a8[i].Target≠0:=λe=>a93 hR (e▸ht);by_cases q:x.a8[i].Target=z
   ·rw[if_pos (by simp[q,h0]),decide_eq_false (λr=>((l1 _).1 r).2 q)]
    rfl
   ·rw[if_neg (by simp[q]),decide_eq_true ((l1 _).2 ⟨ht,q⟩),Bool.and_self,←hI]
 ·obtain⟨w,hw,rfl,_,_⟩:=a35.1 ht;simp at hk
 ·rw[(hob h hh).2.2.2,s2] at s1;cases s1
 ·unfold nms at hfree;have key:a1a (buH x [z]).S (buH x [z]).T (otr (buH x [z])) h∧h≠z:=by
   induction hh with
   | base h1 h2=>
    rename_i a;have hne:a≠z:=λe=>by
     subst e;exact c1D h0 (by omega:tms (otr x) a=0) h1
    refine⟨.base ?_ ((l1 _).2 ⟨h2,hne⟩),hne⟩;unfold otr at h1 ⊢;rw[e1,e4,b5j _ _ _ λt ht=>by
     obtain⟨w,_,rfl,_⟩:=a35.1 ht;simp]
    exact h1
   | step q0 q1 q2 ih=>
    rename_i a b;have hne:b≠z:=λe=>by
     subst e;have:=b8y (y:=b) q0.live;have h1:=a2r.2 ⟨h0,q1⟩;omega
    refine⟨.step ih.1 ?_ ((l1 _).2 ⟨q2,hne⟩),hne⟩;unfold outs at q1 ⊢;rw[(hob _ ((l1 _).2 ⟨q0.live,ih.2⟩)).2.2.1];exact q1
   | pair q1 q0 q2 ih=>
    rename_i a b;have hne:b≠z:=λe=>by
     subst e;have:=b8M q1 h0;omega
    exact⟨.pair (by rw[e3];exact (w5 _ _).2 ⟨by simpa using ih.2,q1⟩) ih.1 ((l1 _).2 ⟨q2,hne⟩),hne⟩
  exact key.1
 ·rw[e3] at hh;exact ((w5 _ _).1 hh).2
theorem d1i{x:Hp}(hx:N9 x):Stl x (stp x):=by
 cases h:zr x with
 | nil=>rw[a9R h];exact Stl.refl hx.sh
 | cons z l=>
  have hz:z∈zr x:=by rw[h];exact List.mem_cons_self ..
  rw[a4X h];split
  ·rename_i q;unfold due at q;rw[Bool.and_eq_true,decide_eq_true_iff,Bool.not_eq_true'] at q;exact d0V hx (a1E.1 hz).1 q.2
  ·exact c9Z hx hz
theorem d1h{x:Hp}(hx:N9 x)(n:Nat):Stl x (stN n x):=by
 induction n with
 | zero=>exact Stl.refl hx.sh
 | succ n ih=>rw[a2q];exact ih.trans (d1i (a0W hx n))
theorem a89{x:Hp}(hx:N9 x):Stl x (a1V x):=d1h hx 100
end Go.Sh
namespace Go.Sh
section
variable{x:Hp}(hB:HB x)
include hB
end
end Go.Sh
namespace Go.Sh
end Go.Sh
namespace Go.Sh
end Go.Sh
namespace Go.Sh
end Go.Sh
namespace Go.Sh
structure Ks (s s':a7):Prop where
 sr:SR s'
 ser:s'.Serial=s.Serial
 lv:lv s'=lv s
 ob:∀h∈Sh.lv s,(ob s' h).Serial=(ob s h).Serial
theorem Ks.refl{s:a7}(hR:SR s):Ks s s:=⟨hR,rfl,rfl,λ_ _=>rfl⟩
theorem Ks.trans{a b c:a7}(h:Ks a b)(q:Ks b c):Ks a c:=⟨q.sr,q.ser.trans h.ser,q.lv.trans h.lv,λk hk=>(q.ob k (by rw[h.lv];exact hk)).trans (h.ob k hk)⟩
theorem Kin.ks{s s':a7}(hR:SR s)(k:Kin s s'):Ks s s':=⟨k.sr,k.ser,k.lv,λh hh=>by
 obtain⟨n,e⟩:=k.ob h (by have:=I0 hR hh;omega)
 rw[e]⟩
theorem Kn.ks{s s':a7}(k:Kn s s')(e:s'.Serial=s.Serial):Ks s s':=⟨k.sr,e,k.lv,λh hh=>by
 obtain⟨n,m,e⟩:=k.ob h hh;rw[e]⟩
theorem d4B{s:a7}(hR:SR s){h:Int}(hh:h∈lv s){o:m9}(hs:o.Serial=(ob s h).Serial)(ho:OkO s o):Ks s (seO s h o):=⟨a08 hR hh hs ho,rfl,a3Q hR hh hs ho,λk hk=>by
 rw[a2W hR hh hs ho (by have:=I0 hR hk;omega)]
 split;·rename_i e;subst e;exact hs
 ·rfl⟩
theorem b9i{x:Hp}(hR:SR x.S)(h:Int):Ks x.S (C8 x h).S:=(G6 hR h λc=>E0).ks hR
theorem b9e{x:Hp}(hR:SR x.S)(h:Int):Ks x.S (Q5 x h).S:=(G6 hR h λc=>O5).ks hR
theorem b5Q(x:Hp)(h:Int):(Q5 x h).Roots=x.Roots∧(Q5 x h).a8=x.a8∧(Q5 x h).T=x.T∧(Q5 x h).Q=x.Q:=b5Z x h a6b
theorem a1l{x:Hp}(hR:SR x.S)(r:Nat)(h:Int):Ks x.S (G5 x r h).S:=
 (b9i hR h).trans (b9e (x:=wR (C8 x h) (x.Roots.set r h)) (a3P hR h) _)
theorem b6T{x:Hp}(hR:SR x.S){h:Int}(hh:h∈lv x.S){n:Nat}(hn:n<(ob x.S h).Fields.length)(v:Int):Ks x.S (a1u x h n v).S:=by
 have k1:=b9i hR v;have hh1:h∈lv (C8 x v).S:=by rw[k1.lv];exact hh
 have hof:(ob (C8 x v).S h).Fields=(ob x.S h).Fields:=by
  obtain⟨n,e⟩:=(G6 hR v (f:=V1) λc=>E0).ob h (by have:=I0 hR hh;omega)
  show (ob (stO x v V1).S h).Fields=_;rw[e]
 have ho:OkO (C8 x v).S (flg (ob (C8 x v).S h) ((ob x.S h).Fields.set n v)):=by
  have:=K3 k1.sr hh1;refine⟨this.s1,this.s2,this.st,this.wk,this.p1,this.p2,?_⟩;have h4:=this.fl;rw[hof] at h4;simpa using h4
 have k2:=d4B (o:=flg (ob (C8 x v).S h) ((ob x.S h).Fields.set n v)) k1.sr hh1 rfl ho;exact (k1.trans k2).trans (b9e (x:=wS (C8 x v) (seO (C8 x v).S h (flg (ob (C8 x v).S h) ((ob x.S h).Fields.set n v)))) k2.sr _)
theorem a8y(x:Hp)(h:Int)(n:Nat)(v:Int):(a1u x h n v).Roots=x.Roots∧(a1u x h n v).a8=x.a8∧(a1u x h n v).T=x.T∧(a1u x h n v).Q=x.Q:=by
 obtain⟨a,b,c,d⟩:=b5Q (wS (C8 x v) (seO (C8 x v).S h (flg (ob (C8 x v).S h) ((ob x.S h).Fields.set n v)))) ((ob x.S h).Fields.getD n 0);obtain⟨a',b',c',d'⟩:=a6H x v;exact⟨a.trans a',b.trans b',c.trans c',d.trans d'⟩
theorem c0J{x:Hp}(hR:SR x.S)(v:Int)(t:Tb)(old:Int):Ks x.S (a6m x v t old).S:=
 (b9i hR v).trans (b9e (x:=wT (C8 x v) t) (a3P hR v) old)
theorem b0Q(x:Hp)(v:Int)(t:Tb)(old:Int):(a6m x v t old).Roots=x.Roots∧(a6m x v t old).a8=x.a8∧(a6m x v t old).T=t∧(a6m x v t old).Q=x.Q:=by
 obtain⟨a,b,c,d⟩:=b5Q (wT (C8 x v) t) old;obtain⟨a',b',c',d'⟩:=a6H x v;exact⟨a.trans a',b.trans b',c,d.trans d'⟩
end Go.Sh
namespace Go.Sh
theorem d3k{s:a7}(hR:SR s){i:Nat}(hi:i<s.S.a8.length)(h2:(ce s i).State=2):Ks s (gvA s i):=⟨b8t hR hi,rfl,b8r hR hi h2,λh hh=>by rw[b8s hR hi h2 hh]⟩
theorem d3D{x:Hp}(hR:SR x.S)(h:Int){d:Int}(hd:Y1 x.S h (D6 h)→0≤(ce x.S (D6 h)).Val.Weak+d):Ks x.S (mkd x h d).S:=by
 unfold mkd;split
 ·rename_i q;exact (a7k hR q.1 q.2.1 (hd q)).ks rfl
 ·exact Ks.refl hR
theorem c7S(x:Hp)(h d:Int):(mkd x h d).Roots=x.Roots∧(mkd x h d).a8=x.a8∧(mkd x h d).T=x.T∧(mkd x h d).Q=x.Q:=by
 unfold mkd;split <;> exact⟨rfl,rfl,rfl,rfl⟩
theorem c6f(x:Hp)(h:Int):(a9f x h).Roots=x.Roots∧(a9f x h).a8=x.a8∧(a9f x h).T=x.T∧(a9f x h).Q=x.Q:=by
 unfold a9f;split;·split <;> exact⟨rfl,rfl,rfl,rfl⟩
 ·exact⟨rfl,rfl,rfl,rfl⟩
theorem c4X{x:Hp}(hR:SR x.S)(h:Int)(hd:Y1 x.S h (D6 h)→1≤(ce x.S (D6 h)).Val.Weak):Ks x.S (a9f x h).S:=by
 unfold a9f;split
 ·rename_i q;have hd:=hd q;have kn:=a7k (d:=-1) hR q.1 q.2.1 (by omega)
  split
  ·rename_i c;have hi1:D6 h<(mkA x.S (D6 h) (-1)).S.a8.length:=by rw[kn.len];exact q.1
   have hce:ce (mkA x.S (D6 h) (-1)) (D6 h)=⟨(ce x.S (D6 h)).State,(ce x.S (D6 h)).Gen,wkg (ce x.S (D6 h)).Val ((ce x.S (D6 h)).Val.Weak + -1)⟩:=by
    rw[a3L hR q.1 q.2.1,if_pos rfl]
   have h2:(ce (mkA x.S (D6 h) (-1)) (D6 h)).State=2:=by rw[hce];exact c.1
   exact (kn.ks rfl).trans (d3k kn.sr hi1 h2)
  ·exact kn.ks rfl
 ·exact Ks.refl hR
theorem c1J{x:Hp}(hx:N9 x){n:Nat}(hn:n<6)(h call:Int):Ks x.S (a2C x n h call).S:=by
 have hR:=hx.sh.sr;have hnl:n<x.a8.length:=by have:=hx.sh.c6;omega
 have ok:∀k i,Y1 x.S k i→0≤(ce x.S i).Val.Weak:=λk i q=>(hR.ok i q.1 q.2.1).wk;have tw:∀i,Y1 x.S (tgt x n) i→1≤(ce x.S i).Val.Weak:=λi q=>by
  have htg:tgt x n=x.a8[n].Target:=by
   unfold tgt;rw[List.getD_eq_getElem?_getD,List.getElem?_eq_getElem hnl];rfl
  have r:=q.rng hR;have p:=b1M hnl (by rw[←htg];omega)
  rw[←htg,q.2.2] at p;have:=(hx.wk i q.1 q.2.1).1;omega
 unfold a2C;have s1:Ks x.S (mkd (wC x (x.a8.set n (wcl h call))) h 1).S:=d3D (x:=wC x (x.a8.set n (wcl h call))) hR h λq=>by
  have:=ok _ _ q;dsimp only;omega
 by_cases q:Y1 x.S h (D6 h)
 ·have e:mkd (wC x (x.a8.set n (wcl h call))) h 1=wS (wC x (x.a8.set n (wcl h call))) (mkA x.S (D6 h) 1):=by
   unfold mkd;rw[if_pos q]
  have hd:=ok _ _ q;have kn:=a7k (d:=1) hR q.1 q.2.1 (by omega)
  rw[e] at s1 ⊢;refine s1.trans (c4X (x:=wS (wC x (x.a8.set n (wcl h call))) (mkA x.S (D6 h) 1)) kn.sr _ λq2=>?_);dsimp only at q2 ⊢;have q3:=(kn.ad _ _).1 q2;have:=tw _ q3;rw[a3L hR q.1 q.2.1];split
  ·rename_i e2;rw[e2] at this;show 1≤(ce x.S (D6 h)).Val.Weak+1;omega
  ·exact this
 ·have e:mkd (wC x (x.a8.set n (wcl h call))) h 1=wC x (x.a8.set n (wcl h call)):=by
   unfold mkd;rw[if_neg q]
  rw[e] at s1 ⊢;exact s1.trans (c4X (x:=wC x (x.a8.set n (wcl h call))) hR _ λq2=>tw _ q2)
theorem b58(x:Hp)(n:Nat)(h call:Int):(a2C x n h call).Roots=x.Roots∧(a2C x n h call).a8=x.a8.set n (wcl h call)∧(a2C x n h call).T=x.T∧(a2C x n h call).Q=x.Q:=by
 obtain⟨a,b,c,d⟩:=c6f (mkd (wC x (x.a8.set n (wcl h call))) h 1) (tgt x n);obtain⟨a',b',c',d'⟩:=c7S (wC x (x.a8.set n (wcl h call))) h 1;exact⟨a.trans a',b.trans b',c.trans c',d.trans d'⟩
end Go.Sh
namespace Go.Sh
abbrev nwo(s:a7)(n:Nat)(p:Int):m9:=⟨s.Serial+1,0,0,p,false,List.replicate n 0⟩
def mkS(s:a7)(i n:Nat)(p:Int):a7:=⟨⟨s.S.a8.set i ⟨1,(ce s i).Gen,nwo s n p⟩,s.S.Last⟩,s.Serial+1⟩
section
variable{s:a7}(hR:SR s){i:Nat}(hi:i<s.S.a8.length)(h0:(ce s i).State=0){n:Nat}(hn:n≤4){p:Int}(hp : -1≤p∧p≤5)
include hR hi h0 hn hp
theorem a5X:(mkS s i n p).S.a8.length=s.S.a8.length:=by simp[mkS]
theorem a72(j:Nat):ce (mkS s i n p) j=if j=i then ⟨1,(ce s i).Gen,nwo s n p⟩ else ce s j:=a6e hi _ _ j
theorem c0B:SR (mkS s i n p):=by
 have hser:=hR.ser;have hc:=hR.cell i hi;have hnt:¬Th (ce s i):=λh=>by
  rcases h with h | h <;> omega
 refine⟨by rw[a5X hR hi h0 hn hp];exact hR.len,hR.l0,hR.l9,by show 0≤s.Serial+1;omega,λj hj=>?_,λj hj ht=>?_,λj hj ht=>?_,λj k hj hk a b e=>?_⟩
 ·rw[a5X hR hi h0 hn hp] at hj;rw[a72 hR hi h0 hn hp];split;·exact⟨show (0:Int)≤1 by decide,show (1:Int)≤3 by decide,hc.2.2.1,hc.2.2.2⟩
  ·exact hR.cell j hj
 ·rw[a5X hR hi h0 hn hp] at hj;rw[a72 hR hi h0 hn hp] at ht ⊢;split at ht;·exact absurd (.inl rfl) ht
  ·rename_i e;rw[if_neg e];exact hR.no j hj ht
 ·rw[a5X hR hi h0 hn hp] at hj;rw[a72 hR hi h0 hn hp] at ht ⊢;split at ht
  ·rename_i e;rw[if_pos e];exact⟨by show 1≤s.Serial+1;omega,Int.le_refl _,Int.le_refl 0,Int.le_refl 0,hp.1,hp.2,by simpa using hn⟩
  ·rename_i e;rw[if_neg e];have:=hR.ok j hj ht;exact⟨this.s1,by show _≤s.Serial+1;have:=this.s2;omega,this.st,this.wk,this.p1,this.p2,this.fl⟩
 ·rw[a5X hR hi h0 hn hp] at hj hk;rw[a72 hR hi h0 hn hp] at a e;rw[a72 hR hi h0 hn hp] at b e;have old:∀m,m<s.S.a8.length→Th (ce s m)→(ce s m).Val.Serial≠s.Serial+1:=λm hm t q=>by
   have:=(hR.ok m hm t).s2;omega
  by_cases ej:j=i <;> by_cases ek:k=i
  ·rw[ej,ek]
  ·rw[if_neg ek] at b e;rw[if_pos ej] at e;exact absurd e.symm (old k hk b)
  ·rw[if_neg ej] at a e;rw[if_pos ek] at e;exact absurd e (old j hj a)
  ·rw[if_neg ej] at a e;rw[if_neg ek] at b e;exact hR.dif j k hj hk a b e
theorem c2x{k:Int}{j:Nat}(q:Y1 s k j):j≠i:=λe=>by
 subst e;rcases q.2.1 with h | h <;> omega
theorem d3C{k:Int}{j:Nat}:Y1 (mkS s i n p) k j↔Y1 s k j∨(j=i∧k=hdl s i):=by
 unfold Y1;rw[a5X hR hi h0 hn hp,a72 hR hi h0 hn hp];by_cases e:j=i
 ·rw[if_pos e];subst e;constructor
  ·rintro⟨a,b,c⟩;exact .inr ⟨rfl,c⟩
  ·rintro (⟨a,b,c⟩ | ⟨_,c⟩);·exact absurd rfl (c2x hR hi h0 hn hp ⟨a,b,c⟩)
   ·exact⟨hi,.inl rfl,c⟩
 ·rw[if_neg e];constructor;·exact .inl
  ·rintro (h | ⟨h,_⟩);·exact h
   ·exact absurd h e
theorem c4i:lv (mkS s i n p)=lv s ++ [hdl s i]:=by
 have e:=c2w (s:=s) (w9.2 hR) hi (by rw[←E7 hi];exact h0) (nwo s n p) rfl (a2b (w9.2 hR))
 unfold mkS;rw[show (ce s i).Gen=s.S.a8[i].Gen by rw[E7 hi]]
 have e2:hdl s i=1+(i:Int)+32*s.S.a8[i].Gen:=by unfold hdl;rw[E7 hi]
 rw[e2];have:=a2b (w9.2 (by have:=c0B hR hi h0 hn hp;unfold mkS at this;rw[show (ce s i).Gen=s.S.a8[i].Gen by rw[E7 hi]] at this;exact this))
 rw[e] at this;exact (Option.some.inj this).symm
theorem c7Q:hdl s i∉lv s:=λh=>by
 obtain⟨j,q⟩:=(a3p hR).1 h;have:i=j:=by
  have a:=q.2.2;have b:=q.1;unfold hdl at a;have:=hR.len;omega
 subst this;have:=q.2.1;omega
theorem b7d{k:Int}(hk:k∈lv s):ob (mkS s i n p) k=ob s k:=by
 obtain⟨j,q⟩:=(a3p hR).1 hk;have hj:=c2x hR hi h0 hn hp q.d;have q2:At (mkS s i n p) k j:=by
  refine⟨by rw[a5X hR hi h0 hn hp];exact q.1,?_,?_⟩ <;> rw[a72 hR hi h0 hn hp,if_neg hj]
  ·exact q.2.1
  ·exact q.2.2
 rw[P2 (c0B hR hi h0 hn hp) q2,P2 hR q,a72 hR hi h0 hn hp,if_neg hj]
theorem b2Z:ob (mkS s i n p) (hdl s i)=nwo s n p:=by
 have q2:At (mkS s i n p) (hdl s i) i:=by
  refine⟨by rw[a5X hR hi h0 hn hp];exact hi,?_,?_⟩ <;> rw[a72 hR hi h0 hn hp,if_pos rfl]
  rfl
 rw[P2 (c0B hR hi h0 hn hp) q2,a72 hR hi h0 hn hp,if_pos rfl]
end
theorem c4V{l:List Int}{h:Int}(e:h∉l):tms l h=0:=Nat.eq_zero_of_not_pos λq=>e (a2r.1 q).2
theorem c7R{x:Hp}(hx:N9 x){i:Nat}(hi:i<x.S.S.a8.length)(h0:(ce x.S i).State=0){n:Nat}(hn:n≤4){p:Int}(hp : -1≤p∧p≤5):N9 (wS x (mkS x.S i n p)):=by
 have hR:=hx.sh.sr;have hS:=c0B hR hi h0 hn hp;have hl:=c4i hR hi h0 hn hp;have hnew:=c7Q hR hi h0 hn hp;have mem:∀ {k},k∈lv x.S→k∈lv (mkS x.S i n p):=λhk=>by rw[hl];exact List.mem_append_left _ hk
 have mem0:∀ {k},k=0∨k∈lv x.S→k=0∨k∈lv (mkS x.S i n p):=λhk=>hk.imp id mem;have hpos:=b4n hR hi;have split:∀ {k},k∈lv (mkS x.S i n p)→k∈lv x.S∨k=hdl x.S i:=λhk=>by
  rw[hl] at hk;rcases List.mem_append.1 hk with q | q
  ·exact .inl q
  ·exact .inr (List.mem_singleton.1 q)
 have rep:∀v∈List.replicate n (0:Int),v=0:=λv hv=>(List.mem_replicate.1 hv).2;have ntgt:∀j (hj:j<x.a8.length),x.a8[j].Target≠hdl x.S i:=λj hj e=>by
  obtain⟨q,hq⟩:=(hx.sh.cl j hj).2.2.2.1 (by rw[e];omega)
  rw[e] at hq;have:q=i:=by
   have a:=hq.2.2;have b:=hq.1;unfold hdl at a;have:=hR.len;omega
  exact c2x hR hi h0 hn hp hq this
 refine⟨⟨hS,hx.sh.hr,hx.sh.r6,hx.sh.c6,hx.sh.cap,hx.sh.q30,λt ht=>?_,hx.sh.td,λh hh=>mem0 (hx.sh.rt h hh),λh hh v hv=>?_,λk v hk=>?_,λj hj=>?_⟩,λj hj ht=>?_,λh hh hs=>?_⟩
 ·obtain⟨a,b,c⟩:=hx.sh.tk t ht;refine⟨a,b,c.imp (λ⟨d,e,f⟩=>⟨d,mem e,?_⟩) id⟩;show (ob (mkS x.S i n p) t.At).Started=true;rw[b7d hR hi h0 hn hp e];exact f
 ·rcases split hh with q | q
  ·have hv':v∈(ob (mkS x.S i n p) h).Fields:=hv;rw[b7d hR hi h0 hn hp q] at hv';exact mem0 (hx.sh.fl h q v hv')
  ·subst q;have hv':v∈(ob (mkS x.S i n p) (hdl x.S i)).Fields:=hv;rw[b2Z hR hi h0 hn hp] at hv';exact .inl (rep v hv')
 ·obtain⟨a,b⟩:=hx.sh.pr k v hk;exact⟨mem a,mem b⟩
 ·obtain⟨a,b,c,d,e⟩:=hx.sh.cl j hj;refine⟨a,b,c,λq=>?_,λq=>⟨mem (e q).1,(e q).2⟩⟩;obtain⟨m,hm⟩:=d q;exact⟨m,(d3C hR hi h0 hn hp).2 (.inl hm)⟩
 ·have hj':j<x.S.S.a8.length:=by have:j<(mkS x.S i n p).S.a8.length:=hj;rwa [a5X hR hi h0 hn hp] at this
  show (ce (mkS x.S i n p) j).Val.Weak=(nmg x.a8 (1+(j:Int)+32*(ce (mkS x.S i n p) j).Gen):Int)∧_;have ht':Th (ce (mkS x.S i n p) j):=ht;rw[a72 hR hi h0 hn hp] at ht' ⊢;by_cases e:j=i
  ·subst e;rw[if_pos rfl];refine⟨?_,λq=>absurd (show (1:Int)=2 from q) (by decide)⟩
   show (0:Int)=(nmg x.a8 (hdl x.S j):Int);have:nmg x.a8 (hdl x.S j)=0:=by
    unfold nmg;rw[List.countP_eq_zero];intro c hc;obtain⟨m,hm,rfl⟩:=List.getElem_of_mem hc;have:=ntgt m hm;simp[this]
   rw[this];rfl
  ·rw[if_neg e] at ht' ⊢;exact hx.wk j hj' ht'
 ·have hinn:∀y,inn (mkS x.S i n p) y=inn x.S y:=λy=>by
   unfold inn;rw[hl,List.map_append,List.sum_append];have e1:(lv x.S).map (λk=>tms (outs (mkS x.S i n p) k) y)=(lv x.S).map λk=>tms (outs x.S k) y:=List.map_congr_left λk hk=>by
    unfold outs;rw[b7d hR hi h0 hn hp hk]
   rw[e1];have e2:outs (mkS x.S i n p) (hdl x.S i) = []:=by
    refine List.eq_nil_iff_forall_not_mem.2 λv hv=>?_;have h1:=a7n.1 hv;rw[b2Z hR hi h0 hn hp] at h1;exact h1.2 (rep v h1.1)
   simp[e2,Q2]
  have hnm:∀y,nms (wS x (mkS x.S i n p)) y=nms x y:=λy=>by
   unfold nms;show inn (mkS x.S i n p) y+own x.T y+tms (otr x) y=_;rw[hinn]
  rw[hnm];have hs':(ob (mkS x.S i n p) h).Strong<12:=hs;show (ob (mkS x.S i n p) h).Strong=_;rcases split hh with q | q
  ·rw[b7d hR hi h0 hn hp q] at hs' ⊢;exact hx.fair h q hs'
  ·subst q;rw[b2Z hR hi h0 hn hp];have h1:nms x (hdl x.S i)=0:=by
    unfold nms;have a1:inn x.S (hdl x.S i)=0:=by
     unfold inn;have:=b9t (λk=>tms (outs x.S k) (hdl x.S i)) 0 (lv x.S) λk hk=>Nat.le_of_eq<|c4V λq=>by
      have q2:=a7n.1 q;rcases hx.sh.fl k hk _ q2.1 with e | e
      ·exact q2.2 e
      ·exact hnew e
     omega
    have a2:own x.T (hdl x.S i)=0:=by
     unfold own;rw[List.countP_eq_zero];intro c hc;have:=(hx.sh.pr _ _ (a36.1 hc)).2;have hne:c.Val≠hdl x.S i:=λe=>hnew (e▸this);simp[hne]
    have a3:tms (otr x) (hdl x.S i)=0:=c4V λq=>by
     unfold otr at q;rcases List.mem_append.1 q with q | q
     ·have q2:=a7n.1 q;rcases hx.sh.rt _ q2.1 with e | e
      ·exact q2.2 e
      ·exact hnew e
     ·obtain⟨t,ht,k1,k2⟩:=b1K.1 q;rcases (hx.sh.tk t ht).2.2 with ⟨_,b,_⟩ | ⟨b,_⟩;·exact hnew (k2▸b)
      ·omega
    omega
   rw[h1,Q2];rfl
end Go.Sh
namespace Go.Sh
structure Ev (x y:Hp):Prop where
 lv:∀h∈lv y.S,(h∈Sh.lv x.S∧(ob y.S h).Serial=(ob x.S h).Serial)∨(h∉Sh.lv x.S∧(ob y.S h).Serial=x.S.Serial+1)
 s1:x.S.Serial≤y.S.Serial
 s2:y.S.Serial≤x.S.Serial+1
theorem Ev.refl(x:Hp):Ev x x:=⟨λh hh=>.inl ⟨hh,rfl⟩,by omega,by omega⟩
theorem Ks.ev{x y:Hp}(k:Ks x.S y.S):Ev x y:=⟨λh hh=>by
 rw[k.lv] at hh;exact .inl ⟨hh,k.ob h hh⟩,by rw[k.ser];omega,by rw[k.ser];omega⟩
theorem Ev.ks{x y z:Hp}(e:Ev x y)(k:Ks y.S z.S):Ev x z:=⟨λh hh=>by
 rw[k.lv] at hh;rw[k.ob h hh];exact e.lv h hh,by rw[k.ser];exact e.s1,by rw[k.ser];exact e.s2⟩
theorem Ev.stl{x y z:Hp}(e:Ev x y)(s:Stl y z):Ev x z:=⟨λh hh=>by
 rw[(s.ob h hh).1];exact e.lv h (s.lv h hh),by rw[s.ser];exact e.s1,by rw[s.ser];exact e.s2⟩
theorem d5R{x:Hp}(hx:N9 x){i:Nat}(hi:i<x.S.S.a8.length)(h0:(ce x.S i).State=0){n:Nat}(hn:n≤4){p:Int}(hp : -1≤p∧p≤5):Ev x (wS x (mkS x.S i n p)):=⟨λh hh=>by
 have hR:=hx.sh.sr;have hh':h∈lv (mkS x.S i n p):=hh;show (_∧(ob (mkS x.S i n p) h).Serial=_)∨_∧(ob (mkS x.S i n p) h).Serial=_;rw[c4i hR hi h0 hn hp] at hh';rcases List.mem_append.1 hh' with q | q
 ·exact .inl ⟨q,by rw[b7d hR hi h0 hn hp q]⟩
 ·rw[List.mem_singleton.1 q];exact .inr ⟨c7Q hR hi h0 hn hp,by rw[b2Z hR hi h0 hn hp]⟩,by show _≤x.S.Serial+1;omega,Int.le_refl _⟩
def Cw(x y:Hp)(w:Int):Prop:=∀i:Nat,(i:Int)≠w→(y.a8.getD i cz).Target=(x.a8.getD i cz).Target∧((y.a8.getD i cz).Intact=true→(x.a8.getD i cz).Intact=true)
theorem Cw.refl(x:Hp)(w:Int):Cw x x w:=λi _=>⟨rfl,id⟩
theorem Cw.same{x y:Hp}(h:y.a8=x.a8)(w:Int):Cw x y w:=λi _=>by rw[h];exact⟨rfl,id⟩
theorem Cw.trans{x y z:Hp}{w:Int}(a:Cw x y w)(b:Cw y z w):Cw x z w:=λi hi=>⟨(b i hi).1.trans (a i hi).1,λq=>(a i hi).2 ((b i hi).2 q)⟩
theorem Stl.cw{x y:Hp}(s:Stl x y)(w:Int):Cw x y w:=λi _=>by
 by_cases h:i<x.a8.length
 ·have h':i<y.a8.length:=by rw[s.cn];exact h
  rw[c32 h,c32 h',s.cl i h' h];exact⟨rfl,λq=>(Bool.and_eq_true _ _▸q).1⟩
 ·have h':¬i<y.a8.length:=by rw[s.cn];exact h
  rw[List.getD_eq_getElem?_getD,List.getD_eq_getElem?_getD,List.getElem?_eq_none (by omega),List.getElem?_eq_none (by omega)]
  exact⟨rfl,id⟩
theorem Cw.set{x y:Hp}{w:Nat}{c:g6}(h:y.a8=x.a8.set w c):Cw x y w:=λi hi=>by
 rw[h,List.getD_eq_getElem?_getD,List.getD_eq_getElem?_getD,List.getElem?_set_ne (by omega)]
 exact⟨rfl,id⟩
end Go.Sh
namespace Go.Sh
def Fst(s:a7)(i:Nat):Prop:=i<s.S.a8.length∧(ce s i).State=0∧∀j,j<i→(ce s j).State≠0
theorem d5O{s:a7}(hR:SR s)(hb:s.Serial<9223372036854775807)(a p:Int) :
  (¬(0≤a∧a≤4)∧T6 s a p=some (s,0,1)) ∨
  ((0≤a∧a≤4)∧¬(-1≤p∧p≤5)∧T6 s a p=some (s,0,13)) ∨
  ((0≤a∧a≤4)∧(-1≤p∧p≤5)∧(∀i,i<s.S.a8.length→(ce s i).State≠0)∧T6 s a p=some (s,0,4)) ∨
  ((0≤a∧a≤4)∧(-1≤p∧p≤5)∧∃i,Fst s i∧T6 s a p=some (mkS s i a.toNat p,hdl s i,0)):=by
 have hs':=hR.ser;have hR':=w9.2 hR;unfold T6 b9z;by_cases ha:0≤a∧a≤4
 ·right;obtain⟨ha1,ha2⟩:=ha;obtain⟨n,rfl⟩:∃n:Nat,a=n:=⟨a.toNat,by omega⟩
  rw[if_neg (by simp;omega),a73 (by omega) (by omega)]
  simp only[d7R];by_cases hp : -1≤p∧p≤5
  ·right;unfold R5;simp only[d7R];have e1:(decide (p ≥ -1)&&decide (p<6))=true:=by simp;omega
   rw[e1];have hl:SlO s.S:=⟨a2n hR',hR'.l0,hR'.l9,λi hi=>b9g hR' i hi⟩;rcases b9v hl ⟨s.Serial+1,0,0,p,false,List.replicate n 0⟩ with ⟨i,hi,h0,hf,e⟩ | ⟨hf,e⟩
   ·right;refine⟨⟨ha1,ha2⟩,hp,i,⟨hi,by rw[E7 hi];exact h0,λj hj=>by rw[E7 (by omega)];exact hf j hj⟩,?_⟩
    simp only[bne_self_eq_false,Bool.false_eq_true,if_false,Bool.not_true];rw[show x8 (s.Serial+1)=s.Serial+1 from F2 (by omega) (by omega),e]
    unfold mkS hdl;rw[E7 hi];simp
   ·left;refine⟨⟨ha1,ha2⟩,hp,λi hi=>by rw[E7 hi];exact hf i hi,?_⟩
    simp only[bne_self_eq_false,Bool.false_eq_true,if_false,Bool.not_true];rw[show x8 (s.Serial+1)=s.Serial+1 from F2 (by omega) (by omega),e]
    simp
  ·left;refine⟨⟨ha1,ha2⟩,hp,?_⟩;unfold R5;simp only[d7R];have e1:(decide (p ≥ -1)&&decide (p<6))=false:=by rw[Bool.eq_false_iff];simp;omega
   rw[e1];simp
 ·left;refine⟨ha,?_⟩;rw[if_pos (by simp;omega)]
  simp
end Go.Sh
namespace Go.Sh
def sd(x:Hp)(r:Int):Int:=if r<0 then 0 else x.Roots.getD r.toNat 0
def asd(x:Hp)(r:Int):Int × Int:=if sd x r=0 then (0,2) else (sd x r,0)
def ser(x:Hp)(h:Int):Int:=(ob x.S h).Serial
theorem in0{n l m e:Int}(he:e≠0)(h:M5 n l m e=0):l≤n∧n≤m:=by
 unfold M5 at h;split at h;·exact absurd h he
 ·omega
theorem c2k{a b c:Int}(h:a0Z a b c=0):a=0∧b=0∧c=0:=by
 unfold a0Z at h;split at h;·contradiction
 ·split at h;·contradiction
  ·omega
theorem c4b{k a b c:Int}(h:B7 k a b c=0):1≤k∧k≤12:=by
 refine Decidable.byContradiction λq=>?_;have:B7 k a b c=14:=by
  unfold B7;repeat rw[if_neg (by omega)]
 omega
theorem d6P{a b c:Int}(h:B7 1 a b c=0):(0≤a∧a≤5)∧(0≤b∧b≤4) ∧ -1≤c∧c≤5:=by
 obtain⟨h1,h2,h3⟩:=c2k (show a0Z (M5 a 0 5 6) (M5 b 0 4 1) (M5 c (-1) 5 13)=0 from h);exact⟨in0 (by decide) h1,in0 (by decide) h2,in0 (by decide) h3⟩
theorem d2L{a b c:Int}(h:B7 2 a b c=0):(0≤a∧a≤5)∧(0≤b∧b≤5):=by
 obtain⟨h1,h2,_⟩:=c2k (show a0Z (M5 a 0 5 6) (M5 b 0 5 6) 0=0 from h);exact⟨in0 (by decide) h1,in0 (by decide) h2⟩
theorem d6Q{a b c:Int}(h:B7 3 a b c=0):0≤a∧a≤5:=in0 (by decide) (show M5 a 0 5 6=0 from h)
theorem d6R{a b c:Int}(h:B7 4 a b c=0):(0≤a∧a≤5)∧(0≤b∧b≤5)∧0≤c∧c≤3:=by
 obtain⟨h1,h2,h3⟩:=c2k (show a0Z (M5 a 0 5 6) (M5 b 0 5 6) (M5 c 0 3 5)=0 from h);exact⟨in0 (by decide) h1,in0 (by decide) h2,in0 (by decide) h3⟩
theorem d6S{a b c:Int}(h:B7 5 a b c=0):(0≤a∧a≤5)∧(0≤b∧b≤3) ∧ -1≤c∧c≤5:=by
 obtain⟨h1,h2,h3⟩:=c2k (show a0Z (M5 a 0 5 6) (M5 b 0 3 5) (M5 c (-1) 5 6)=0 from h);exact⟨in0 (by decide) h1,in0 (by decide) h2,in0 (by decide) h3⟩
theorem d6T{a b c:Int}(h:B7 6 a b c=0):(0≤a∧a≤5)∧(-1≤b∧b≤5) ∧ -1≤c∧c≤5:=by
 obtain⟨h1,h2,h3⟩:=c2k (show a0Z (M5 a 0 5 7) (M5 b (-1) 5 6) (M5 c (-1) 5 13)=0 from h);exact⟨in0 (by decide) h1,in0 (by decide) h2,in0 (by decide) h3⟩
theorem d6U{a b c:Int}(h:B7 7 a b c=0):(0≤a∧a≤5)∧(0≤b∧b≤5):=by
 obtain⟨h1,h2,_⟩:=c2k (show a0Z (M5 a 0 5 6) (M5 b 0 5 7) 0=0 from h);exact⟨in0 (by decide) h1,in0 (by decide) h2⟩
theorem d6V{a b c:Int}(h:B7 8 a b c=0):(0≤a∧a≤5)∧(-1≤b∧b≤5):=by
 obtain⟨h1,h2,_⟩:=c2k (show a0Z (M5 a 0 5 6) (M5 b (-1) 5 6) 0=0 from h);exact⟨in0 (by decide) h1,in0 (by decide) h2⟩
theorem d6W{a b c:Int}(h:B7 9 a b c=0):(0≤a∧a≤5)∧(0≤b∧b≤5):=d2L (show B7 2 a b c=0 from h)
theorem d5r{a b c:Int}(h:B7 10 a b c=0):(0≤a∧a≤5)∧(0≤b∧b≤5):=d2L (show B7 2 a b c=0 from h)
section
variable{x:Hp}(hx:HpS x)
include hx
theorem b3L{r:Int}(h:0≤r∧r≤5):ix x.Roots r=some (sd x r):=by
 have:=hx.r6;obtain⟨n,rfl⟩:∃n:Nat,r=n:=⟨r.toNat,by omega⟩
 have hn:n<x.Roots.length:=by omega
 rw[p8 hn];unfold sd;rw[if_neg (by omega),Int.toNat_natCast,List.getD_eq_getElem?_getD,List.getElem?_eq_getElem hn]
 rfl
theorem b5V{r:Int}(h:¬(0≤r∧r≤5)):sd x r=0:=by
 have:=hx.r6;unfold sd;split;·rfl
 ·rw[List.getD_eq_getElem?_getD,List.getElem?_eq_none (by omega)]
  rfl
theorem b3M(r:Int):sd x r=0∨sd x r∈lv x.S:=by
 by_cases h:0≤r∧r≤5
 ·have e:=b3L hx h;unfold ix at e;rw[if_pos h.1] at e;exact hx.rt _ (List.mem_of_getElem? e)
 ·exact .inl (b5V hx h)
theorem b3N(r:Int):sd x r≤9223372036854775807:=by
 rcases b3M hx r with h | h
 ·omega
 ·have:=I0 hx.sr h;omega
theorem a7G(r:Int):L4 x r=some (sd x r):=by
 have h6:=hx.r6;unfold L4;by_cases h:0≤r∧r≤5
 ·rw[if_neg (by simp;omega),b3L hx h]
  rfl
 ·rw[if_pos (by simp;omega),b5V hx h]
theorem c8I{r:Int}(h:r≤5):a4O (hO x) r=some (sd x r):=by
 unfold a4O;by_cases q:r<0
 ·rw[if_pos (by simpa using q),b5V hx (by omega)]
 ·rw[if_neg (by simpa using q),show (hO x).Roots=x.Roots from rfl,b3L hx (by omega)]
  rfl
theorem a6k(r:Int):M1 x r=some (asd x r):=by
 unfold M1 asd;rw[a7G hx,d7R];by_cases h:sd x r=0
 ·rw[if_pos (by simpa using h),if_pos h]
 ·rw[if_neg (by simpa using h),if_neg h]
theorem b1b{r:Int}(h:0≤r∧r≤5):V8 (hO x) r=some (asd x r):=by
 unfold V8 asd;rw[show (hO x).Roots=x.Roots from rfl,b3L hx h,d7R];by_cases h:sd x r=0
 ·rw[if_pos (by simpa using h),if_pos h]
 ·rw[if_neg (by simpa using h),if_neg h]
theorem c8M{h:Int}(hh:h≤9223372036854775807):a0q x h=some (ser x h):=by
 obtain⟨e,h1,_⟩:=T0 (w9.2 hx.sr) hh;unfold a0q;rw[h1];rfl
theorem c8L{h:Int}(hh:h≤9223372036854775807):a1C (hO x) h=some (ser x h):=by
 obtain⟨e,h1,_⟩:=T0 (w9.2 hx.sr) hh;unfold a1C;rw[show (hO x).S=sO x.S from rfl,a6d x.S (by have:=hx.sr.len;omega) hh,h1]
 rfl
theorem c3S(r:Int):a1y x r=some (ser x (sd x r)):=by
 unfold a1y;rw[a7G hx,d7R,c8M hx (b3N hx r)];rfl
theorem c4P:ser x 0=0:=by
 unfold ser;rw[b0o (w9.2 hx.sr) (by omega) (a93 hx.sr)]
theorem d5p(r:Int):b0V (hO x) r=some (ser x (sd x r)):=by
 unfold b0V;by_cases h:0≤r∧r≤5
 ·rw[if_neg (by simp;omega),show (hO x).Roots=x.Roots from rfl,b3L hx h,d7R,c8L hx (b3N hx r)]
  rfl
 ·rw[if_pos (by simp;omega),b5V hx h,c4P hx]
end
theorem d4D{x z:Hp}(hx:HpS x)(k:Ks x.S z.S){h:Int}(hh:h=0∨h∈lv x.S):ser z h=ser x h:=by
 rcases hh with e | e
 ·subst e;unfold ser;rw[b0o (w9.2 hx.sr) (by omega) (a93 hx.sr),b0o (w9.2 k.sr) (by omega) (a93 k.sr)]
 ·exact k.ob h e
theorem d08{x z:Hp}(h:z.Roots=x.Roots)(r:Int):sd z r=sd x r:=by unfold sd;rw[h]
noncomputable def doR(x:Hp)(o:g8)(v:Hp × Int):Option (Hp × Int × Int):=
 if (v.2 != 0) then some (x,0,v.2) else (O8 v.1).bind λv5=>(V3 v.1 v5 o).bind λv6=>some (v5,v6,0)
theorem b0h{x:Hp}{o:g8}{n:Option Nat}(hc:B7 o.Kind o.A o.B o.C=0)(hk:∃l,a3d=some l∧C0 l o.Kind=some n):x6 x o=(b4m n ⟨x,o⟩).bind (doR x o):=by
 obtain⟨l,h1,h2⟩:=hk;unfold x6;rw[a8t,hc,d7R,if_neg (by simp),h1,d7R,h2,if_neg (by simp)]
 rfl
theorem c65{x:Hp}{o:g8}(hc:B7 o.Kind o.A o.B o.C≠0):x6 x o=some (x,0,B7 o.Kind o.A o.B o.C)∧D2 (hO x) ⟨o.Kind,o.A,o.B,o.C⟩=some (hO x,0,B7 o.Kind o.A o.B o.C):=by
 constructor
 ·unfold x6;rw[a8t,d7R,if_pos (by simpa using hc)]
 ·unfold D2;rw[a5j,d7R,if_pos (by simpa using hc)]
section
variable{x:Hp}{a b c:Int}
theorem d6X(hc:B7 1 a b c=0):x6 x ⟨1,a,b,c⟩=(U1 ⟨x,⟨1,a,b,c⟩⟩).bind (doR x ⟨1,a,b,c⟩):=b0h (o:=⟨1,a,b,c⟩) (n:=some 151) hc ⟨_,rfl,rfl⟩
theorem d6Y(hc:B7 2 a b c=0):x6 x ⟨2,a,b,c⟩=(I9 ⟨x,⟨2,a,b,c⟩⟩).bind (doR x ⟨2,a,b,c⟩):=b0h (o:=⟨2,a,b,c⟩) (n:=some 152) hc ⟨_,rfl,rfl⟩
theorem d6Z(hc:B7 3 a b c=0):x6 x ⟨3,a,b,c⟩=(a0f ⟨x,⟨3,a,b,c⟩⟩).bind (doR x ⟨3,a,b,c⟩):=b0h (o:=⟨3,a,b,c⟩) (n:=some 153) hc ⟨_,rfl,rfl⟩
theorem d7a(hc:B7 4 a b c=0):x6 x ⟨4,a,b,c⟩=(a0g ⟨x,⟨4,a,b,c⟩⟩).bind (doR x ⟨4,a,b,c⟩):=b0h (o:=⟨4,a,b,c⟩) (n:=some 154) hc ⟨_,rfl,rfl⟩
theorem d7b(hc:B7 5 a b c=0):x6 x ⟨5,a,b,c⟩=(W9 ⟨x,⟨5,a,b,c⟩⟩).bind (doR x ⟨5,a,b,c⟩):=b0h (o:=⟨5,a,b,c⟩) (n:=some 155) hc ⟨_,rfl,rfl⟩
theorem d7c(hc:B7 6 a b c=0):x6 x ⟨6,a,b,c⟩=(U2 ⟨x,⟨6,a,b,c⟩⟩).bind (doR x ⟨6,a,b,c⟩):=b0h (o:=⟨6,a,b,c⟩) (n:=some 156) hc ⟨_,rfl,rfl⟩
theorem d7d(hc:B7 7 a b c=0):x6 x ⟨7,a,b,c⟩=(X8 ⟨x,⟨7,a,b,c⟩⟩).bind (doR x ⟨7,a,b,c⟩):=b0h (o:=⟨7,a,b,c⟩) (n:=some 157) hc ⟨_,rfl,rfl⟩
theorem d7e(hc:B7 8 a b c=0):x6 x ⟨8,a,b,c⟩=(a0h ⟨x,⟨8,a,b,c⟩⟩).bind (doR x ⟨8,a,b,c⟩):=b0h (o:=⟨8,a,b,c⟩) (n:=some 158) hc ⟨_,rfl,rfl⟩
theorem d7f(hc:B7 9 a b c=0):x6 x ⟨9,a,b,c⟩=(a0P ⟨x,⟨9,a,b,c⟩⟩).bind (doR x ⟨9,a,b,c⟩):=b0h (o:=⟨9,a,b,c⟩) (n:=some 159) hc ⟨_,rfl,rfl⟩
theorem d5y(hc:B7 10 a b c=0):x6 x ⟨10,a,b,c⟩=(P4 ⟨x,⟨10,a,b,c⟩⟩).bind (doR x ⟨10,a,b,c⟩):=b0h (o:=⟨10,a,b,c⟩) (n:=some 160) hc ⟨_,rfl,rfl⟩
theorem b8a{k:Int}(hk:k=11∨k=12)(hc:B7 k a b c=0):x6 x ⟨k,a,b,c⟩=some (x,0,14)∧D2 (hO x) ⟨k,a,b,c⟩=some (hO x,0,14):=by
 constructor
 ·unfold x6;rw[a8t,hc,d7R,if_neg (by simp)]
  rcases hk with rfl | rfl <;> rfl
 ·unfold D2 Q6;rw[a5j,hc,d7R,if_neg (by simp)]
  rcases hk with rfl | rfl <;> rfl
variable{y:c7}
def rT(y:c7)(a:Int)(v:Int × Int):Option (c7 × Int × Int):=
 if (v.2 != 0) then some (y,0,v.2) else (V7 y a v.1).bind λv15=>(N8 v15.1).bind λv16=>(b0V v16 a).bind λv17=>some (v16,v17,0)
def rO(y:c7)(v:c7 × Int × Int):Option (c7 × Int × Int):=
 if (v.2.2 != 0) then some (y,0,v.2.2) else (N8 v.1).bind λv8=>(a1C y v.2.1).bind λv9=>some (v8,v9,0)
theorem c4C{k:Int}(hk:k=2∨k=3∨k=4∨k=7∨k=9)(hc:B7 k a b c=0):D2 y ⟨k,a,b,c⟩=(a1N y ⟨k,a,b,c⟩).bind (rT y a):=by
 unfold D2 Q6;rw[a5j,hc,d7R,if_neg (by simp)]
 rcases hk with rfl | rfl | rfl | rfl | rfl <;> rfl
theorem c4B{k:Int}(hk:k=5∨k=6∨k=8)(hc:B7 k a b c=0):D2 y ⟨k,a,b,c⟩=(a0T y ⟨k,a,b,c⟩).bind (rO y):=by
 unfold D2 Q6;rw[a5j,hc,d7R,if_neg (by simp)]
 rcases hk with rfl | rfl | rfl <;> rfl
theorem d6p(hc:B7 1 a b c=0):D2 y ⟨1,a,b,c⟩=(a2j y.S b c).bind λv10=>if (v10.2.2 != 0) then some (y,0,v10.2.2) else (V7 ⟨v10.1,y.Roots,y.a8,y.T,y.Q⟩ a v10.2.1).bind λv11=>(N8 v11.1).bind λv12=>(b0V v12 a).bind λv13=>some (v12,v13,0):=by
 unfold D2 Q6;rw[a5j,hc,d7R,if_neg (by simp)]
 rfl
theorem d4r(hc:B7 10 a b c=0):D2 y ⟨10,a,b,c⟩=(ix y.Roots a).bind λv3=>(ix y.Roots b).bind λv4=>if (v3==v4) then some (y,1,0) else some (y,0,0):=by
 unfold D2 Q6;rw[a5j,hc,d7R,if_neg (by simp)]
 rfl
end
end Go.Sh
namespace Go.Sh
section
variable{s:a7}(hR:SR s){i:Nat}(hi:i<s.S.a8.length)
include hR hi
theorem d4P(st g:Int):a0v (sO s) ⟨(pl (sO s)).a8.set i ⟨st,g,0⟩,(pl (sO s)).Last⟩=some ⟨(sO s).a8.set i ⟨st,g,oo (ce s i).Val⟩,s.S.Last,s.Serial⟩:=by
 have hlen:=hR.len;have M0:i<(pl (sO s)).a8.length:=by rw[a1z,C2];exact hi
 rw[b53 _ _ (by rw[C2];omega) (by simp[a1z])]
 congr 1;congr 1;refine List.ext_getElem (by simp) λk h1 h2=>?_
 have hk:k<s.S.a8.length:=by simpa[C2] using h1
 have hk2:k<(sO s).a8.length:=by rw[C2];exact hk
 have hk3:k<(pl (sO s)).a8.length:=by rw[a1z];exact hk2
 simp only[List.getElem_map,List.getElem_range,List.getElem_set];have e1:(sO s).a8.getD k ⟨0,0,oo z0⟩=cO (ce s k):=by
  rw[List.getD_eq_getElem?_getD,List.getElem?_eq_getElem hk2,E7 hk];simp[sO]
 have e2:((pl (sO s)).a8.set i ⟨st,g,0⟩).getD k ⟨0,0,0⟩=if k=i then ⟨st,g,0⟩ else plc k (cO (ce s k)):=by
  rw[a6e M0];split;·rfl
  ·rw[List.getD_eq_getElem?_getD,List.getElem?_eq_getElem hk3,E7 hk];simp[pl,sO]
 rw[e1,e2];by_cases e:k=i
 ·subst e;rw[if_pos rfl,if_pos rfl];rfl
 ·rw[if_neg e,if_neg (Ne.symm e)];rw[E7 hk];simp[sO,plc,cO]
theorem d4R(st g:Int)(o:C6):a1h ⟨(sO s).a8.set i ⟨st,g,oo (ce s i).Val⟩,s.S.Last,s.Serial⟩ (i:Int) o=some ⟨(sO s).a8.set i ⟨st,g,o⟩,s.S.Last,s.Serial⟩:=by
 have hlen:=hR.len;unfold a1h;have hi2:i<((sO s).a8.set i ⟨st,g,oo (ce s i).Val⟩).length:=by simp[C2];exact hi
 rw[M6 (by omega) (by simp[C2];omega),d7R,p8 hi2,d7R]
 simp[List.set_set]
theorem c8j:∃h:i<(pl (sO s)).a8.length,(pl (sO s)).a8[i]=⟨(ce s i).State,(ce s i).Gen,(i:Int)⟩:=by
 have M0:i<(pl (sO s)).a8.length:=by rw[a1z,C2];exact hi
 refine⟨M0,?_⟩;rw[E7 hi];simp[pl,sO,plc,cO]
end
theorem d4M{s:a7}(hR:SR s):(∀i,i<s.S.a8.length→(ce s i).State≠0)→a6q (pl (sO s)) 0=some (pl (sO s),0,4):=λhf=>by
 have hlen:=hR.len;have el:(pl (sO s)).a8.length=s.S.a8.length:=by rw[a1z,C2]
 unfold a6q;simp only[jn];refine V2 (pl (sO s)).a8.length (λk=>True) (by omega) trivial (λk hk _=>?_) (λhP=>⟨.inr (),by simp,rfl⟩)
 refine .inl ⟨?_,trivial⟩;obtain⟨h1,h2⟩:=c8j hR (show k<s.S.a8.length by omega)
 have:=hf k (by omega)
 simp only[Int.ofNat_lt,hk,decide_true,if_true,p8 hk,d7R];rw[h2,if_neg (by simpa using this),l7]
theorem d1k{s:a7}(hR:SR s){i:Nat}(hF:Fst s i):a6q (pl (sO s)) 0=some (⟨(pl (sO s)).a8.set i ⟨1,(ce s i).Gen,0⟩,(pl (sO s)).Last⟩,hdl s i,0):=by
 have hlen:=hR.len;have el:(pl (sO s)).a8.length=s.S.a8.length:=by rw[a1z,C2]
 obtain⟨hi,h0,hmin⟩:=hF;have hc:=hR.cell i hi;have l9:=hR.l9;unfold a6q;simp only[jn];refine V2 (pl (sO s)).a8.length (λk=>k≤i) (by omega) (by omega) (λk hk hP=>?_) (λhP=>by omega)
 obtain⟨h1,h2⟩:=c8j hR (show k<s.S.a8.length by omega)
 rcases Nat.lt_or_ge k i with g | g
 ·refine .inl ⟨?_,g⟩;have:=hmin k g;simp only[Int.ofNat_lt,hk,decide_true,if_true,p8 hk,d7R];rw[h2,if_neg (by simpa using this),l7]
 ·have:k=i:=by omega
  subst this;refine .inr ⟨.inl _,?_,rfl⟩;simp only[Int.ofNat_lt,hk,decide_true,if_true,p8 hk,d7R];rw[h2,if_pos (by simpa using h0)]
  have w3:∀c:x4,X9 (pl (sO s)) (k:Int) c=some ⟨(pl (sO s)).a8.set k c,(pl (sO s)).Last⟩:=λc=>by
   unfold X9;rw[M6 (by omega) (by omega),d7R,p8 hk,d7R,Int.toNat_natCast]
  rw[w3,d7R,a8M,if_pos (by dsimp only;omega),d7R]
  rfl
theorem d5P{s:a7}(hR:SR s)(hb:s.Serial<9223372036854775807)(a p:Int) :
  (∃e,e≠0∧T6 s a p=some (s,0,e)∧a2j (sO s) a p=some (sO s,0,e)) ∨
  ((0≤a∧a≤4)∧(-1≤p∧p≤5)∧∃i,Fst s i∧T6 s a p=some (mkS s i a.toNat p,hdl s i,0)∧a2j (sO s) a p=some (sO (mkS s i a.toNat p),hdl s i,0)):=by
 have hser:=hR.ser;have hlen:=hR.len;have r1:∀n:Nat,n≤4→b1V (n:Int)=some (List.replicate n 0,0):=λn hn=>by
  unfold b1V;rw[if_neg (by simp;omega),a73 (by omega) (by omega)]
  rfl
 rcases d5O hR hb a p with ⟨h1,e⟩ | ⟨h1,h2,e⟩ | ⟨h1,h2,h3,e⟩ | ⟨h1,h2,i,h3,e⟩
 ·refine .inl ⟨1,by decide,e,?_⟩
  unfold a2j b1V;rw[if_pos (by simp;omega)]
  rfl
 ·refine .inl ⟨13,by decide,e,?_⟩
  obtain⟨n,rfl⟩:∃n:Nat,a=n:=⟨a.toNat,by omega⟩
  unfold a2j;rw[r1 n (by omega),d7R,if_neg (by simp),if_pos (by simp;omega)]
 ·refine .inl ⟨4,by decide,e,?_⟩
  obtain⟨n,rfl⟩:∃n:Nat,a=n:=⟨a.toNat,by omega⟩
  unfold a2j;rw[r1 n (by omega),d7R,if_neg (by simp),if_neg (by simp;omega),a5y _ (by rw[C2];omega),d7R,d4M hR h3,d7R,if_pos (by simp)]
 ·refine .inr ⟨h1,h2,i,h3,e,?_⟩;obtain⟨n,rfl⟩:∃n:Nat,a=n:=⟨a.toNat,by omega⟩
  have hi:=h3.1;have hc:=hR.cell i hi;have l9:=hR.l9;unfold a2j;rw[r1 n (by omega),d7R,if_neg (by simp),if_neg (by simp;omega),a5y _ (by rw[C2];omega),d7R,d1k hR h3,d7R,if_neg (by simp),d4P hR hi,d7R,a8O,if_pos (by unfold Hnd hdl;dsimp only;omega),d7R,
   show (hdl s i-1) % 32=(i:Int) by unfold hdl;omega,d4R hR hi,d7R,F2 (by show _≤s.Serial+1;omega) (by show s.Serial+1≤_;omega)]
  unfold mkS;rw[Int.toNat_natCast];simp only[sO,List.map_set];rfl
end Go.Sh
namespace Go.Sh
abbrev opR(o:g8):r8:=⟨o.Kind,o.A,o.B,o.C⟩
structure Dn (x:Hp) (o:g8) (z:Hp) (v:Int):Prop where
 rt:N9 z
 sl:SL z
 ev:Ev x z
 cw:Cw x z (if o.Kind=6 then o.A else -1)
 mc:x6 x o=some (a1V z,v,0)
 rf:D2 (hO x) (opR o)=some (hO (a1V z),v,0)
def Er(x:Hp)(o:g8)(e:Int):Prop:=e≠0∧x6 x o=some (x,0,e)∧D2 (hO x) (opR o)=some (hO x,0,e)
theorem d5S{x:Hp}(hx:N9 x)(hS:SL x){i:Nat}(hi:i<x.S.S.a8.length)(h0:(ce x.S i).State=0){n:Nat}(hn:n≤4){p:Int}(hp : -1≤p∧p≤5):SL (wS x (mkS x.S i n p)):=λk hk=>by
 have hR:=hx.sh.sr;have hk':k∈lv (mkS x.S i n p):=hk;show (ob (mkS x.S i n p) k).Strong≤_;rw[c4i hR hi h0 hn hp] at hk';rcases List.mem_append.1 hk' with q | q
 ·rw[b7d hR hi h0 hn hp q];exact hS k q
 ·rw[List.mem_singleton.1 q,b2Z hR hi h0 hn hp];show (0:Int)≤_;decide
theorem a9L{y:Hp}(hy:N9 y){a:Int}(ha:0≤a∧a≤5){h:Int}(hh:h=0∨h∈lv y.S):sd (a1V (G5 y a.toNat h)) a=h∧ser (a1V (G5 y a.toNat h)) h=ser y h:=by
 have hz:=a0A hy (r:=a.toNat) (by omega) hh
 have st:=a89 hz;have w:=a2X hz;have e1:(a1V (G5 y a.toNat h)).Roots=y.Roots.set a.toNat h:=st.rt.trans (a4T y a.toNat h).1;have h6:=hy.sh.r6;have e2:sd (a1V (G5 y a.toNat h)) a=h:=by
  unfold sd;rw[if_neg (by omega),e1,List.getD_eq_getElem?_getD,List.getElem?_set_self (by omega)]
  rfl
 refine⟨e2,?_⟩;have k:=a1l hy.sh.sr a.toNat h;rcases b3M w.sh a with q | q
 ·rw[e2] at q;subst q;rw[c4P w.sh,c4P hy.sh]
 ·rw[e2] at q;have h1:=(st.ob h q).1;have h2:=st.lv h q;rw[k.lv] at h2;exact h1.trans (k.ob h h2)
section
variable{x:Hp}{a b c:Int}
theorem a7U{o:g8}{y:Hp}{e:Int}(he:e≠0):doR x o (y,e)=some (x,0,e):=by
 unfold doR;rw[if_pos (by simpa using he)]
theorem d1D{z:Hp}(hz:N9 z)(hS:SL z){k:Int}(hk:k≠5∧k≠6∧k≠8∧k≠10):doR x ⟨k,a,b,c⟩ (z,0)=some (a1V z,ser (a1V z) (sd (a1V z) a),0):=by
 unfold doR V3;rw[if_neg (by simp),a4s hz hS,d7R]
 simp only[jn];rw[if_neg (by simp;omega),if_neg (by simp;omega)]
 have:(k==8)=false:=by simp;omega
 rw[this,if_neg (by simp),if_neg (by simp;omega),c3S (a2X hz).sh]
 rfl
theorem c3i{o:g8}{v e:Int}(he:e≠0):C3 ⟨x,o⟩ v e=some (x,e):=by
 unfold C3;rw[if_pos (by simpa using he)]
theorem c8r{y:c7}{v e:Int}(he:e≠0):rT y a (v,e)=some (y,0,e):=by
 unfold rT;rw[if_pos (by simpa using he)]
theorem c5Z{y z:c7}{v e:Int}(he:e≠0):rO y (z,v,e)=some (y,0,e):=by
 unfold rO;rw[if_pos (by simpa using he)]
variable(hx:N9 x)(hS:SL x)
include hx hS
theorem a9S{k:Int}(ha:0≤a∧a≤5){h:Int}(hh:h=0∨h∈lv x.S):C3 ⟨x,⟨k,a,b,c⟩⟩ h 0=some (G5 x a.toNat h,0):=by
 unfold C3;rw[if_neg (by simp),c4J hx hS a (b1G hx hS hh),if_neg (by omega),if_pos hh]
 rfl
theorem d6g(ha:0≤a∧a≤5){h:Int}(hh:h=0∨h∈lv x.S):rT (hO x) a (h,0)=some (hO (a1V (G5 x a.toNat h)),ser x h,0):=by
 have hz:=a0A hx (r:=a.toNat) (by omega) hh
 have zS:=a4U hx.sh.sr hS a.toNat h;obtain⟨e1,e2⟩:=a9L hx ha hh;unfold rT;rw[if_neg (by simp),c24 hx hS a (b1G hx hS hh),if_neg (by omega),if_pos hh,d7R,a6K hz zS,d7R,d5p (a2X hz).sh,e1,e2]
 rfl
theorem a6P{k:Int}(hk:k=2∨k=3∨k=4∨k=7∨k=9)(hc:B7 k a b c=0)(ha:0≤a∧a≤5){h:Int}(hh:h=0∨h∈lv x.S)
  (h1:x6 x ⟨k,a,b,c⟩=doR x ⟨k,a,b,c⟩ (G5 x a.toNat h,0))(h2:a1N (hO x) ⟨k,a,b,c⟩=some (h,0)):Dn x ⟨k,a,b,c⟩ (G5 x a.toNat h) (ser x h):=by
 have hz:=a0A hx (r:=a.toNat) (by omega) hh
 have zS:=a4U hx.sh.sr hS a.toNat h;obtain⟨e1,e2⟩:=a9L hx ha hh;refine⟨hz,zS,(a1l hx.sh.sr a.toNat h).ev,Cw.same (a4T x a.toNat h).2.1 _,?_,?_⟩;·rw[h1,d1D hz zS (by omega),e1,e2]
 ·show D2 (hO x) ⟨k,a,b,c⟩=_;rw[c4C hk hc,h2,d7R,d6g hx hS ha hh]
theorem d2(hc:B7 2 a b c=0):Dn x ⟨2,a,b,c⟩ (G5 x a.toNat (sd x b)) (ser x (sd x b)):=by
 obtain⟨ha,hb⟩:=d2L hc;refine a6P hx hS (.inl rfl) hc ha (b3M hx.sh b) ?_ ?_
 ·rw[d6Y hc];unfold I9;rw[a7G hx.sh,d7R,a9S hx hS ha (b3M hx.sh b)];rfl
 ·unfold a1N;rw[if_pos (by rfl),show (hO x).Roots=x.Roots from rfl,b3L hx.sh hb]
  rfl
theorem d3(hc:B7 3 a b c=0):Dn x ⟨3,a,b,c⟩ (G5 x a.toNat 0) 0:=by
 have ha:=d6Q hc;have:=a6P (b:=b) (c:=c) hx hS (.inr (.inl rfl)) hc ha (h:=0) (.inl rfl) ?_ ?_;·rwa [c4P hx.sh] at this
 ·rw[d6Z hc];unfold a0f;rw[a9S hx hS ha (.inl rfl)];rfl
 ·rfl
theorem d4(hc:B7 4 a b c=0):(sd x b=0∧Er x ⟨4,a,b,c⟩ 2)∨(∃e,a0F x.S (sd x b) c=some (0,e)∧Er x ⟨4,a,b,c⟩ e) ∨
  (sd x b∈lv x.S∧∃n:Nat,c=n∧∃hn:n<(ob x.S (sd x b)).Fields.length,Dn x ⟨4,a,b,c⟩ (G5 x a.toNat (ob x.S (sd x b)).Fields[n]) (ser x (ob x.S (sd x b)).Fields[n])):=by
 obtain⟨ha,hb,_⟩:=d6R hc;have hm:x6 x ⟨4,a,b,c⟩=_:=d7a hc;unfold a0g at hm;rw[a6k hx.sh,d7R] at hm;have hr:D2 (hO x) ⟨4,a,b,c⟩=_:=c4C (by omega) hc
 have hnm:a1N (hO x) ⟨4,a,b,c⟩=(V8 (hO x) b).bind λv2=>if (v2.2 != 0) then some (0,v2.2) else (a2R (hO x).S v2.1 c).bind λv3=>some (v3.1,v3.2):=rfl
 rw[b1b hx.sh hb,d7R] at hnm;by_cases h0:sd x b=0
 ·refine .inl ⟨h0,by decide,?_,?_⟩
  ·rw[hm];unfold asd;rw[if_pos h0,if_pos (by simp),d7R,a7U (by decide)]
  ·show D2 (hO x) ⟨4,a,b,c⟩=_;rw[hr,hnm];unfold asd;rw[if_pos h0,if_pos (by simp),d7R,c8r (by decide)]
 ·have has:asd x b=(sd x b,0):=by unfold asd;rw[if_neg h0]
  rw[has,if_neg (by simp)] at hm hnm
  right;rcases b3t hx hS (sd x b) c (b3N hx.sh b) with ⟨e,he,f1,f2⟩ | ⟨hl,n,hn0,hn,f1,f2⟩
  ·refine .inl ⟨e,f1,he,?_,?_⟩
   ·rw[hm];dsimp only;rw[f1,d7R,c3i he,d7R,d7R,a7U he]
   ·show D2 (hO x) ⟨4,a,b,c⟩=_;rw[hr,hnm];dsimp only;rw[show (hO x).S=sO x.S from rfl,f2,d7R,d7R,c8r he]
  ·refine .inr ⟨hl,n,hn0,hn,?_⟩;have hv:=hx.sh.fl _ hl _ (List.getElem_mem hn);refine a6P hx hS (by omega) hc ha hv ?_ ?_
   ·rw[hm];dsimp only;rw[f1,d7R,a9S hx hS ha hv];rfl
   ·rw[hnm];dsimp only;rw[show (hO x).S=sO x.S from rfl,f2];rfl
theorem d0o{n:Nat}(hn:n<6):∃h:n<x.a8.length,a6R x.a8 n=some (if x.a8[n].Target=0∨x.a8[n].Intact=false then (0,9) else (x.a8[n].Target,0))∧a8T (hO x).a8 n=some (if x.a8[n].Target=0∨x.a8[n].Intact=false then (0,9) else (x.a8[n].Target,0)):=by
 have c6:=hx.sh.c6;have hl:n<x.a8.length:=by omega
 have hl2:n<(x.a8.map wcR).length:=by simp;exact hl
 refine⟨hl,?_,?_⟩
 ·unfold a6R a6S;have:(decide ((n:Int)≥0)&&decide ((n:Int)<(x.a8.length:Int)))=true:=by simp;omega
  rw[this,d7R,if_neg (by simp),p8 hl,d7R]
  by_cases q:x.a8[n].Target=0∨x.a8[n].Intact=false
  ·rw[if_pos q,if_pos (by rcases q with q | q <;> simp[q])]
  ·rw[if_neg q,if_neg (by simpa using q)]
 ·unfold a8T;show (if _ then _ else (ix (x.a8.map wcR) (n:Int)).bind _)=_
  rw[if_neg (by simp[hO];omega),p8 hl2,d7R,List.getElem_map]
  by_cases q:x.a8[n].Target=0∨x.a8[n].Intact=false
  ·rw[if_pos q,if_pos (by rcases q with q | q <;> simp[wcR,q])]
  ·rw[if_neg q,if_neg (by simpa[wcR] using q)]
   rfl
theorem d7(hc:B7 7 a b c=0):∃h:b.toNat<x.a8.length,((x.a8[b.toNat].Intact=false∧Er x ⟨7,a,b,c⟩ 9) ∨
  (x.a8[b.toNat].Intact=true∧Dn x ⟨7,a,b,c⟩ (G5 x a.toNat x.a8[b.toNat].Target) (ser x x.a8[b.toNat].Target))):=by
 obtain⟨ha,hb⟩:=d6U hc;obtain⟨n,rfl⟩:∃n:Nat,b=n:=⟨b.toNat,by omega⟩
 obtain⟨hl,l1,l2⟩:=d0o hx hS (n:=n) (by omega)
 rw[Int.toNat_natCast];refine⟨hl,?_⟩;have hm:x6 x ⟨7,a,n,c⟩=_:=d7d hc;unfold X8 at hm;rw[show a6R (s7.mk x ⟨7,a,n,c⟩).x.a8 (s7.mk x ⟨7,a,n,c⟩).o.B=_ from l1,d7R] at hm;have hr:D2 (hO x) ⟨7,a,n,c⟩=_:=c4C (by omega) hc
 have hnm:a1N (hO x) ⟨7,a,n,c⟩=(a8T (hO x).a8 n).bind λv4=>some (v4.1,v4.2):=rfl;rw[l2,d7R] at hnm;have cl:=hx.sh.cl n hl;cases hI:x.a8[n].Intact
 ·left;rw[if_pos (.inr hI)] at hm hnm;refine⟨rfl,by decide,?_,?_⟩
  ·rw[hm];dsimp only;rw[c3i (by decide),d7R,d7R]
   exact a7U (e:=9) (by decide)
  ·show D2 (hO x) ⟨7,a,n,c⟩=_;rw[hr,hnm,d7R,c8r (by decide)]
 ·right;have ht:=(cl.2.2.2.2 hI).1;have ht0:x.a8[n].Target≠0:=λe=>a93 hx.sh.sr (e▸ht);rw[if_neg (by simp[ht0,hI])] at hm hnm
  refine⟨rfl,a6P hx hS (by omega) hc ha (.inr ht) ?_ hnm⟩
  rw[hm];dsimp only;rw[a9S hx hS ha (.inr ht)];rfl
theorem d9(hc:B7 9 a b c=0):(sd x b=0∧Er x ⟨9,a,b,c⟩ 2)∨(sd x b∈lv x.S∧(∀v,¬Has x.T (sd x b) v)∧Er x ⟨9,a,b,c⟩ 9) ∨
  (sd x b∈lv x.S∧∃v,Has x.T (sd x b) v∧Dn x ⟨9,a,b,c⟩ (G5 x a.toNat v) (ser x v)):=by
 obtain⟨ha,hb⟩:=d6W hc;have hT:=hx.sh.hr;have hm:x6 x ⟨9,a,b,c⟩=_:=d7f hc;unfold a0P at hm;rw[a6k hx.sh,d7R] at hm;have hr:D2 (hO x) ⟨9,a,b,c⟩=_:=c4C (by omega) hc
 have hnm:a1N (hO x) ⟨9,a,b,c⟩=(V8 (hO x) b).bind λv2=>if (v2.2 != 0) then some (0,v2.2) else (b15 (hO x).T v2.1).bind λv3=>some (v3.1,v3.2):=rfl
 rw[b1b hx.sh hb,d7R] at hnm;by_cases h0:sd x b=0
 ·refine .inl ⟨h0,by decide,?_,?_⟩
  ·rw[hm];unfold asd;rw[if_pos h0,if_pos (by simp),d7R,a7U (by decide)]
  ·show D2 (hO x) ⟨9,a,b,c⟩=_;rw[hr,hnm];unfold asd;rw[if_pos h0,if_pos (by simp),d7R,c8r (by decide)]
 ·have has:asd x b=(sd x b,0):=by unfold asd;rw[if_neg h0]
  have hl:=(b3M hx.sh b).resolve_left h0;rw[has,if_neg (by simp)] at hm hnm
  dsimp only at hm hnm;have g2:b15 (hO x).T (sd x b)=(L9 x.T (sd x b)).bind λv=>some (v.1,v.2):=by
   unfold b15;rw[show (hO x).T=x.T.map M0 from rfl,c8w hT]
  unfold b2N at hm;rw[g2] at hnm;right;by_cases hv:∃v,Has x.T (sd x b) v
  ·obtain⟨v,hv⟩:=hv;rw[c33 hT hv] at hm hnm;refine .inr ⟨hl,v,hv,a6P hx hS (by omega) hc ha (.inr (hx.sh.pr _ _ hv).2) ?_ hnm⟩
   rw[hm,d7R,d7R];dsimp only;rw[a9S hx hS ha (.inr (hx.sh.pr _ _ hv).2)];rfl
  ·have hv':∀v,¬Has x.T (sd x b) v:=λv q=>hv ⟨v,q⟩;rw[c5x hT hv'] at hm hnm;refine .inl ⟨hl,hv',by decide,?_,?_⟩
   ·rw[hm,d7R,d7R];dsimp only;rw[c3i (by decide),d7R,d7R]
    exact a7U (e:=9) (by decide)
   ·show D2 (hO x) ⟨9,a,b,c⟩=_;rw[hr,hnm,d7R,d7R,d7R];exact c8r (e:=9) (by decide)
end
end Go.Sh
namespace Go.Sh
section
variable{x:Hp}{a b c:Int}
theorem d5x{z:Hp}(hz:N9 z)(hS:SL z){k:Int}{r:Int}(hk:k=5∧r=c∨(k=6∨k=8)∧r=b):doR x ⟨k,a,b,c⟩ (z,0)=some (a1V z,ser z (sd z r),0):=by
 unfold doR V3;rw[if_neg (by simp),a4s hz hS,d7R]
 simp only[jn];rcases hk with ⟨rfl,rfl⟩ | ⟨rfl | rfl,rfl⟩
 ·rw[if_pos (by rfl),c3S hz.sh]
  rfl
 ·rw[if_neg (by decide),if_pos (by rfl),if_pos (by rfl),c3S hz.sh]
  rfl
 ·rw[if_neg (by decide),if_neg (by decide),if_pos (by rfl),c3S hz.sh]
  rfl
variable(hx:N9 x)(hS:SL x)
include hx hS
theorem d6f{z:Hp}(hz:N9 z)(zS:SL z){h:Int}(hh:h=0∨h∈lv x.S):rO (hO x) (hO z,h,0)=some (hO (a1V z),ser x h,0):=by
 unfold rO;rw[if_neg (by simp),a6K hz zS,d7R,c8L hx.sh (b1G hx hS hh)]
 rfl
theorem b0P{z:Hp}(hz:N9 z)(zS:SL z)(k:Ks x.S z.S)(er:z.Roots=x.Roots){kd r:Int}(hk:kd=5∧r=c∨(kd=6∨kd=8)∧r=b)(hc:B7 kd a b c=0)(cw:Cw x z (if kd=6 then a else -1))
  (h1:x6 x ⟨kd,a,b,c⟩=doR x ⟨kd,a,b,c⟩ (z,0))(h2:a0T (hO x) ⟨kd,a,b,c⟩=some (hO z,sd x r,0)):Dn x ⟨kd,a,b,c⟩ z (ser x (sd x r)):=by
 refine⟨hz,zS,k.ev,cw,?_,?_⟩;·rw[h1,d5x hz zS hk,d08 er,d4D hx.sh k (b3M hx.sh r)]
 ·show D2 (hO x) ⟨kd,a,b,c⟩=_;rw[c4B (by omega) hc,h2,d7R,d6f hx hS hz zS (b3M hx.sh r)]
theorem d5(hc:B7 5 a b c=0):(sd x a=0∧Er x ⟨5,a,b,c⟩ 2)∨(∃e,a2L x (sd x a) b (sd x c)=some (x,e)∧Er x ⟨5,a,b,c⟩ e) ∨
  (sd x a∈lv x.S∧∃n:Nat,b=n∧n<(ob x.S (sd x a)).Fields.length∧Dn x ⟨5,a,b,c⟩ (a1u x (sd x a) n (sd x c)) (ser x (sd x c))):=by
 obtain⟨ha,hb,hcc⟩:=d6S hc;have hm:x6 x ⟨5,a,b,c⟩=_:=d7b hc;unfold W9 at hm;rw[a6k hx.sh,d7R] at hm;have hr:D2 (hO x) ⟨5,a,b,c⟩=_:=c4B (by omega) hc
 have hnm:a0T (hO x) ⟨5,a,b,c⟩=(V8 (hO x) a).bind λv4=>if (v4.2 != 0) then some (hO x,0,v4.2) else (a4O (hO x) c).bind λv5=>(a4p (hO x) v4.1 b v5).bind λv6=>some (v6.1,v5,v6.2):=rfl
 rw[b1b hx.sh ha,d7R,c8I hx.sh (by omega)] at hnm
 by_cases h0:sd x a=0
 ·have has:asd x a=(0,2):=by unfold asd;rw[if_pos h0]
  rw[has,if_pos (by simp)] at hm hnm
  refine .inl ⟨h0,by decide,?_,?_⟩
  ·rw[hm,d7R];exact a7U (e:=2) (by decide)
  ·show D2 (hO x) ⟨5,a,b,c⟩=_;rw[hr,hnm,d7R];exact c5Z (e:=2) (by decide)
 ·have has:asd x a=(sd x a,0):=by unfold asd;rw[if_neg h0]
  rw[has,if_neg (by simp)] at hm hnm
  dsimp only at hm hnm;rw[a7G hx.sh,d7R] at hm;rw[d7R] at hnm;right;rcases c7i hx hS (sd x a) b (sd x c) (b3N hx.sh a) (b3N hx.sh c) with ⟨e,he,f1,f2⟩ | ⟨hl,hv,n,hn0,hn,f1,f2⟩
  ·refine .inl ⟨e,f1,he,?_,?_⟩;·rw[hm,f1,d7R,d7R,a7U he]
   ·show D2 (hO x) ⟨5,a,b,c⟩=_;rw[hr,hnm,f2,d7R,d7R,c5Z he]
  ·refine .inr ⟨hl,n,hn0,hn,b0P hx hS (b8j hx hl hn hv) (c5s hx.sh.sr hS hl _ _) (b6T hx.sh.sr hl hn _) (a8y _ _ _ _).1 (.inl ⟨rfl,rfl⟩) hc (Cw.same (a8y _ _ _ _).2.1 _) ?_ ?_⟩
   ·rw[hm,f1];rfl
   ·rw[hnm,f2];rfl
theorem d6(hc:B7 6 a b c=0):(sd x b=0∧Er x ⟨6,a,b,c⟩ 2)∨(∃e,a0O x a (sd x b) c=some (x,e)∧Er x ⟨6,a,b,c⟩ e) ∨
  (wts x.Q a=false∧Dn x ⟨6,a,b,c⟩ (a2C x a.toNat (sd x b) c) (ser x (sd x b))):=by
 obtain⟨ha,hb,hcc⟩:=d6T hc;have hm:x6 x ⟨6,a,b,c⟩=_:=d7c hc;unfold U2 at hm;have hr:D2 (hO x) ⟨6,a,b,c⟩=_:=c4B (by omega) hc
 have key:(x6 x ⟨6,a,b,c⟩=(((a0O x a (sd x b) c).bind λv1=>some (v1.1,v1.2)).bind (doR x ⟨6,a,b,c⟩))∧a0T (hO x) ⟨6,a,b,c⟩=(a2k (hO x) a (sd x b) c).bind λv1=>some (v1.1,sd x b,v1.2))∨(sd x b=0∧Er x ⟨6,a,b,c⟩ 2):=by
  by_cases h1:b = -1
  ·subst h1;left;rw[b5V hx.sh (r:=-1) (by omega)]
   refine⟨?_,rfl⟩;rw[hm,if_pos (by rfl)]
  ·rw[if_neg (by simpa using h1),a6k hx.sh,d7R] at hm
   have hnm:a0T (hO x) ⟨6,a,b,c⟩=(V8 (hO x) b).bind λv4=>if (v4.2 != 0) then some (hO x,0,v4.2) else (a2k (hO x) a v4.1 c).bind λv7=>some (v7.1,v4.1,v7.2):=by
    unfold a0T;rw[if_neg (by simp;omega)]
    rfl
   rw[b1b hx.sh (by omega),d7R] at hnm
   by_cases h0:sd x b=0
   ·have has:asd x b=(0,2):=by unfold asd;rw[if_pos h0]
    rw[has,if_pos (by simp)] at hm hnm
    refine .inr ⟨h0,by decide,?_,?_⟩
    ·rw[hm,d7R];exact a7U (e:=2) (by decide)
    ·show D2 (hO x) ⟨6,a,b,c⟩=_;rw[hr,hnm,d7R];exact c5Z (e:=2) (by decide)
   ·have has:asd x b=(sd x b,0):=by unfold asd;rw[if_neg h0]
    rw[has,if_neg (by simp)] at hm hnm
    exact .inl ⟨hm,hnm⟩
 rcases key with ⟨hm,hnm⟩ | key
 ·right;rcases d1u hx a (sd x b) c (b3N hx.sh b) hcc with ⟨e,he,f1,f2⟩ | ⟨hh,n,rfl,hn,hw,f1,f2⟩
  ·refine .inl ⟨e,f1,he,?_,?_⟩;·rw[hm,f1,d7R,d7R,a7U he]
   ·show D2 (hO x) ⟨6,a,b,c⟩=_;rw[hr,hnm,f2,d7R,d7R,c5Z he]
  ·rw[Int.toNat_natCast];obtain⟨r1,r2,_,_⟩:=b58 x n (sd x b) c;refine .inr ⟨hw,b0P hx hS (c1K hx hn hh hcc hw) (c8X hx hS hn _ _) (c1J hx hn _ _) r1 (.inr ⟨.inl rfl,rfl⟩) hc (by rw[if_pos rfl];exact Cw.set r2) ?_ ?_⟩
   ·rw[hm,f1];rfl
   ·rw[hnm,f2];rfl
 ·exact .inl key
theorem d8(hc:B7 8 a b c=0):(sd x a=0∧Er x ⟨8,a,b,c⟩ 2)∨(sd x a∈lv x.S∧∃e,a4k x (sd x a) (sd x b)=some (x,e)∧Er x ⟨8,a,b,c⟩ e) ∨
  (sd x a∈lv x.S∧∃r,U7 x.T (sd x a) (sd x b)=some r∧r.2.2=0∧Dn x ⟨8,a,b,c⟩ (a6m x (sd x b) r.1 r.2.1) (ser x (sd x b))):=by
 obtain⟨ha,hb⟩:=d6V hc;have hm:x6 x ⟨8,a,b,c⟩=_:=d7e hc;unfold a0h at hm;rw[a6k hx.sh,d7R] at hm;have hr:D2 (hO x) ⟨8,a,b,c⟩=_:=c4B (by omega) hc
 have hnm:a0T (hO x) ⟨8,a,b,c⟩=(V8 (hO x) a).bind λv4=>if (v4.2 != 0) then some (hO x,0,v4.2) else (a4O (hO x) b).bind λv8=>(a6x (hO x) v4.1 v8).bind λv9=>some (v9.1,v8,v9.2):=rfl
 rw[b1b hx.sh ha,d7R,c8I hx.sh (by omega)] at hnm
 by_cases h0:sd x a=0
 ·have has:asd x a=(0,2):=by unfold asd;rw[if_pos h0]
  rw[has,if_pos (by simp)] at hm hnm
  refine .inl ⟨h0,by decide,?_,?_⟩
  ·rw[hm,d7R];exact a7U (e:=2) (by decide)
  ·show D2 (hO x) ⟨8,a,b,c⟩=_;rw[hr,hnm,d7R];exact c5Z (e:=2) (by decide)
 ·have has:asd x a=(sd x a,0):=by unfold asd;rw[if_neg h0]
  have hl:=(b3M hx.sh a).resolve_left h0;rw[has,if_neg (by simp)] at hm hnm
  dsimp only at hm hnm;rw[a7G hx.sh,d7R] at hm;rw[d7R] at hnm;right;rcases d0O hx hS (sd x a) (sd x b) (b3N hx.sh a) (b3N hx.sh b) with ⟨e,he,f1,f2⟩ | ⟨hl,hv,r,r1,r2,f1,f2⟩
  ·refine .inl ⟨hl,e,f1,he,?_,?_⟩;·rw[hm,f1,d7R,d7R,a7U he]
   ·show D2 (hO x) ⟨8,a,b,c⟩=_;rw[hr,hnm,f2,d7R,d7R,c5Z he]
  ·refine .inr ⟨hl,r,r1,r2,b0P hx hS (c0K hx hl hv r1 r2) (c8e hx.sh.sr hS _ _ _) (c0J hx.sh.sr _ _ _) (b0Q _ _ _ _).1 (.inr ⟨.inr rfl,rfl⟩) hc (Cw.same (b0Q _ _ _ _).2.1 _) ?_ ?_⟩
   ·rw[hm,f1];rfl
   ·rw[hnm,f2];rfl
theorem d10(hz:zr x = [])(hc:B7 10 a b c=0):Dn x ⟨10,a,b,c⟩ x (if sd x a=sd x b then 1 else 0):=by
 obtain⟨ha,hb⟩:=d5r hc;refine⟨hx,hS,Ev.refl x,Cw.refl x _,?_,?_⟩
 ·rw[d5y hc];unfold P4 doR V3;rw[d7R,if_neg (by simp),a4s hx hS,d7R]
  simp only[jn];rw[if_neg (by decide),if_neg (by decide),if_neg (by decide),if_pos (by rfl),a7G hx.sh,d7R,a7G hx.sh,d7R]
  by_cases q:sd x a=sd x b
  ·rw[if_pos (by simpa using q),if_pos q]
   rfl
  ·rw[if_neg (by simpa using q),if_neg q]
   rfl
 ·show D2 (hO x) ⟨10,a,b,c⟩=_;rw[d4r hc,show (hO x).Roots=x.Roots from rfl,b3L hx.sh ha,d7R,b3L hx.sh hb,d7R,c1u hz];by_cases q:sd x a=sd x b
  ·rw[if_pos (by simpa using q),if_pos q]
  ·rw[if_neg (by simpa using q),if_neg q]
theorem d1(hb:x.S.Serial<9223372036854775807)(hc:B7 1 a b c=0):(∃e,T6 x.S b c=some (x.S,0,e)∧Er x ⟨1,a,b,c⟩ e) ∨
  (b.toNat≤4∧(-1≤c∧c≤5)∧∃i,Fst x.S i∧Dn x ⟨1,a,b,c⟩ (G5 (wS x (mkS x.S i b.toNat c)) a.toNat (hdl x.S i)) (x.S.Serial+1)):=by
 obtain⟨ha,hbb,hcc⟩:=d6P hc;have hR:=hx.sh.sr;have hm:x6 x ⟨1,a,b,c⟩=_:=d6X hc;unfold U1 at hm;dsimp only at hm;have hr:D2 (hO x) ⟨1,a,b,c⟩=_:=d6p hc;rw[show (hO x).S=sO x.S from rfl] at hr;rcases d5P hR hb b c with ⟨e,he,f1,f2⟩ | ⟨_,_,i,hF,f1,f2⟩
 ·refine .inl ⟨e,f1,he,?_,?_⟩;·rw[hm,f1,d7R,if_pos (by simpa using he),d7R,a7U he]
  ·show D2 (hO x) ⟨1,a,b,c⟩=_;rw[hr,f2,d7R,if_pos (by simpa using he)]
 ·refine .inr ⟨by omega,hcc,i,hF,?_⟩
  obtain⟨hi,h0,_⟩:=hF;have hn:b.toNat≤4:=by omega
  have hy:=c7R hx hi h0 hn hcc;have yS:=d5S hx hS hi h0 hn hcc;have hh:hdl x.S i=0∨hdl x.S i∈lv (wS x (mkS x.S i b.toNat c)).S:=.inr (by
   show _∈lv (mkS x.S i b.toNat c);rw[c4i hR hi h0 hn hcc];exact List.mem_append_right _ (List.mem_singleton.2 rfl))
  have hz:=a0A hy (r:=a.toNat) (by omega) hh
  have zS:=a4U hy.sh.sr yS a.toNat (hdl x.S i);obtain⟨e1,e2⟩:=a9L hy ha hh;have e3:ser (wS x (mkS x.S i b.toNat c)) (hdl x.S i)=x.S.Serial+1:=by
   show (ob (mkS x.S i b.toNat c) (hdl x.S i)).Serial=_;rw[b2Z hR hi h0 hn hcc]
  refine⟨hz,zS,(d5R hx hi h0 hn hcc).ks (a1l hy.sh.sr a.toNat _),Cw.same (a4T (wS x (mkS x.S i b.toNat c)) a.toNat _).2.1 _,?_,?_⟩
  ·rw[hm,f1,d7R,if_neg (by simp)]
   dsimp only;rw[show C3 ⟨⟨mkS x.S i b.toNat c,x.Roots,x.a8,x.T,x.Q⟩,⟨1,a,b,c⟩⟩ (hdl x.S i) 0=_ from a9S hy yS ha hh,d7R,d7R,d1D hz zS (by omega),e1,e2,e3]
  ·show D2 (hO x) ⟨1,a,b,c⟩=_;rw[hr,f2,d7R,if_neg (by simp)]
   dsimp only;rw[show V7 ⟨sO (mkS x.S i b.toNat c),(hO x).Roots,(hO x).a8,(hO x).T,(hO x).Q⟩ a (hdl x.S i)=_ from c24 hy yS a (b1G hy yS hh),if_neg (by omega),if_pos hh,d7R,a6K hz zS,d7R,d5p (a2X hz).sh,e1,e2,e3]
   rfl
end
theorem d2R{x:Hp}(hx:N9 x)(hS:SL x)(hz:zr x = [])(hb:x.S.Serial<9223372036854775807)(o:g8):(∃e,Er x o e)∨∃z v,Dn x o z v:=by
 obtain⟨k,a,b,c⟩:=o;by_cases hc:B7 k a b c=0
 ·have:=c4b hc;have hk:k=1∨k=2∨k=3∨k=4∨k=5∨k=6∨k=7∨k=8∨k=9∨k=10∨k=11∨k=12:=by omega
  rcases hk with rfl | rfl | rfl | rfl | rfl | rfl | rfl | rfl | rfl | rfl | rfl | rfl
  ·rcases d1 hx hS hb hc with ⟨e,_,h⟩ | ⟨_,_,i,_,h⟩;·exact .inl ⟨e,h⟩
   ·exact .inr ⟨_,_,h⟩
  ·exact .inr ⟨_,_,d2 hx hS hc⟩
  ·exact .inr ⟨_,_,d3 hx hS hc⟩
  ·rcases d4 hx hS hc with ⟨_,h⟩ | ⟨e,_,h⟩ | ⟨_,n,_,_,h⟩;·exact .inl ⟨_,h⟩
   ·exact .inl ⟨_,h⟩
   ·exact .inr ⟨_,_,h⟩
  ·rcases d5 hx hS hc with ⟨_,h⟩ | ⟨e,_,h⟩ | ⟨_,n,_,_,h⟩;·exact .inl ⟨_,h⟩
   ·exact .inl ⟨_,h⟩
   ·exact .inr ⟨_,_,h⟩
  ·rcases d6 hx hS hc with ⟨_,h⟩ | ⟨e,_,h⟩ | ⟨_,h⟩;·exact .inl ⟨_,h⟩
   ·exact .inl ⟨_,h⟩
   ·exact .inr ⟨_,_,h⟩
  ·obtain⟨_,⟨_,h⟩ | ⟨_,h⟩⟩:=d7 hx hS hc;·exact .inl ⟨_,h⟩
   ·exact .inr ⟨_,_,h⟩
  ·rcases d8 hx hS hc with ⟨_,h⟩ | ⟨_,e,_,h⟩ | ⟨_,r,_,_,h⟩;·exact .inl ⟨_,h⟩
   ·exact .inl ⟨_,h⟩
   ·exact .inr ⟨_,_,h⟩
  ·rcases d9 hx hS hc with ⟨_,h⟩ | ⟨_,_,h⟩ | ⟨_,v,_,h⟩;·exact .inl ⟨_,h⟩
   ·exact .inl ⟨_,h⟩
   ·exact .inr ⟨_,_,h⟩
  ·exact .inr ⟨_,_,d10 hx hS hz hc⟩
  ·obtain⟨h1,h2⟩:=b8a (x:=x) (a:=a) (b:=b) (c:=c) (.inl rfl) hc;exact .inl ⟨14,by decide,h1,h2⟩
  ·obtain⟨h1,h2⟩:=b8a (x:=x) (a:=a) (b:=b) (c:=c) (.inr rfl) hc;exact .inl ⟨14,by decide,h1,h2⟩
 ·obtain⟨h1,h2⟩:=c65 (x:=x) (o:=⟨k,a,b,c⟩) hc;exact .inl ⟨_,hc,h1,h2⟩
end Go.Sh
namespace Go.Sh
noncomputable def dov(x:Hp)(o:g8):Hp × Int × Int:=(x6 x o).getD (x,0,0)
structure Nxt (x:Hp) (o:g8) (y:Hp) (v e:Int):Prop where
 rt:N9 y
 sl:SL y
 zr:zr y = []
 ev:Ev x y
 cw:Cw x y (if o.Kind=6 then o.A else -1)
 er:e≠0→y=x∧v=0
 mc:x6 x o=some (y,v,e)
 rf:D2 (hO x) (opR o)=some (hO y,v,e)
theorem Dn.nxt{x z:Hp}{o:g8}{v:Int}(d:Dn x o z v):Nxt x o (a1V z) v 0:=by
 have st:=a89 d.rt;exact⟨a2X d.rt,c4R d.rt d.sl,b7x d.rt,d.ev.stl st,d.cw.trans (st.cw _),λh=>absurd rfl h,d.mc,d.rf⟩
theorem d0A{x:Hp}(hx:N9 x)(hS:SL x)(hz:zr x = [])(hb:x.S.Serial<9223372036854775807)(o:g8):∃y v e,Nxt x o y v e:=by
 rcases d2R hx hS hz hb o with ⟨e,h1,h2,h3⟩ | ⟨z,v,d⟩;·exact⟨x,0,e,hx,hS,hz,Ev.refl x,Cw.refl x _,λ_=>⟨rfl,rfl⟩,h2,h3⟩
 ·exact⟨_,_,_,d.nxt⟩
theorem a7m{x:Hp}(hx:N9 x)(hS:SL x)(hz:zr x = [])(hb:x.S.Serial<9223372036854775807)(o:g8):Nxt x o (dov x o).1 (dov x o).2.1 (dov x o).2.2:=by
 obtain⟨y,v,e,h⟩:=d0A hx hS hz hb o;have:dov x o=(y,v,e):=by unfold dov;rw[h.mc];rfl
 rw[this];exact h
noncomputable def runs(x:Hp)(l:List g8):Hp × List Int:=l.foldl (λp o=>((dov p.1 o).1,p.2 ++ [(dov p.1 o).2.1])) (x,[])
theorem a9O(x:Hp)(l:List g8)(o:g8):runs x (l ++ [o])=((dov (runs x l).1 o).1,(runs x l).2 ++ [(dov (runs x l).1 o).2.1]):=by
 unfold runs;rw[List.foldl_append];rfl
theorem c1q{x:Hp}(hx:N9 x)(hS:SL x)(hz:zr x = [])(l:List g8)(hb:x.S.Serial+l.length<9223372036854775807)(P:Hp→Prop)(h0:P x)
  (hs:∀(y:Hp) (o:g8),o∈l→N9 y→Nxt y o (dov y o).1 (dov y o).2.1 (dov y o).2.2→P y→P (dov y o).1):∀k,k≤l.length →
  N9 (runs x (l.take k)).1∧SL (runs x (l.take k)).1∧zr (runs x (l.take k)).1 = []∧(runs x (l.take k)).1.S.Serial≤x.S.Serial+k∧(runs x (l.take k)).2.length=k∧P (runs x (l.take k)).1
 | 0,_=>⟨hx,hS,hz,by show x.S.Serial≤_;omega,rfl,h0⟩
 | k+1,hk=>by
  obtain⟨a1,a2,a3,a4,a5,a6⟩:=c1q hx hS hz l hb P h0 hs k (by omega)
  have hk':k<l.length:=by omega
  have n:=a7m a1 a2 a3 (by omega) l[k]
  rw[N2 hk',a9O];exact⟨n.rt,n.sl,n.zr,by have:=n.ev.s2;show (dov _ _).1.S.Serial≤_;omega,by simp[a5],hs _ _ (List.getElem_mem hk') a1 n a6⟩
theorem run_eq{x:Hp}(hx:N9 x)(hS:SL x)(hz:zr x = [])(l:List g8)(hl:l.length≤1000)(hb:x.S.Serial+l.length<9223372036854775807) :
  a3q x l=some (runs x l)∧b2g (hO x) (l.map opR)=some (hO (runs x l).1,(runs x l).2):=by
 have all:=c1q hx hS hz l hb (λ_=>True) trivial (λ_ _ _ _ _ _=>trivial);constructor
 ·unfold a3q;simp only[jn];refine M7 (T:=Hp × List Int) l.length (λk acc=>acc=runs x (l.take k)) (by omega) rfl (λk acc hk hP=>?_) (λacc hP=>?_)
  ·subst hP;obtain⟨a1,a2,a3,a4,a5,_⟩:=all k (by omega)
   have n:=a7m a1 a2 a3 (by omega) l[k]
   refine .inl ⟨_,?_,rfl⟩;rw[N2 hk,a9O];show (if _ then _ else _)=_
   rw[if_pos (by simpa using hk),p8 hk,d7R,n.mc,d7R,A7 (by omega) (by rw[a5];simp;omega),d7R,l7]
  ·subst hP;refine⟨runs x (l.take l.length),?_,?_⟩
   ·show (if _ then _ else _)=_
    rw[if_neg (by simp)]
   ·rw[List.take_length]
 ·unfold b2g;simp only[jn];refine M7 (T:=c7 × List Int) (l.map opR).length (λk acc=>acc=(hO (runs x (l.take k)).1,(runs x (l.take k)).2)) (by simp;omega) rfl (λk acc hk hP=>?_) (λacc hP=>?_)
  ·subst hP;have hk':k<l.length:=by simpa using hk
   obtain⟨a1,a2,a3,a4,a5,_⟩:=all k (by omega)
   have n:=a7m a1 a2 a3 (by omega) l[k]
   refine .inl ⟨_,?_,rfl⟩;rw[N2 hk',a9O];show (if _ then _ else _)=_
   rw[if_pos (by simpa using hk'),p8 hk,d7R,List.getElem_map]
   dsimp only;rw[n.rf,d7R,A7 (by omega) (by rw[a5];simp;omega),d7R,l7]
  ·subst hP;refine⟨(hO (runs x (l.take (l.map opR).length)).1,(runs x (l.take (l.map opR).length)).2),?_,?_⟩
   ·show (if _ then _ else _)=_
    rw[if_neg (by simp)]
   ·rw[List.length_map,List.take_length]
end Go.Sh
namespace Go.Sh
section
variable{x:Hp}(hB:HB x)
include hB
end
end Go.Sh
namespace Go.Sh
def nwH(k:Nat)(l:Int)(p:Nat):Hp:=⟨⟨⟨List.replicate k ⟨0,0,z0⟩,l⟩,0⟩,List.replicate 6 0,List.replicate 6 ⟨0,false,-1⟩,List.replicate p ⟨0,0,0⟩,⟨[],30⟩⟩
theorem c7v{k p:Nat}{l:Int}(hk:1≤k∧k≤24)(hl:0≤l∧l≤9)(hp:1≤p∧p≤8) :
  a17 k l p=some (nwH k l p)∧b2d k l p=some (hO (nwH k l p))∧N9 (nwH k l p)∧SL (nwH k l p)∧zr (nwH k l p) = []:=by
 have e1:a1R k l=some (nwH k l p).S:=by
  unfold a1R P7;rw[if_neg (by simp;omega),a73 (by omega) (by omega)]
  rfl
 obtain⟨a,h1,h2,h3,_⟩:=d5Y k l;rw[e1] at h1;have ha:=Option.some.inj h1;subst ha;have hR:SR (nwH k l p).S:=w9.1 h3;have hce:∀i,ce (nwH k l p).S i=⟨0,0,z0⟩:=λi=>by
  unfold ce nwH;dsimp only;rw[List.getD_eq_getElem?_getD,List.getElem?_replicate];split <;> rfl
 have hlv:lv (nwH k l p).S = []:=List.eq_nil_iff_forall_not_mem.2 λh hh=>by
  obtain⟨i,q⟩:=(a3p hR).1 hh;have:=q.2.1;rw[hce] at this;cases this
 refine⟨?_,?_,⟨⟨hR,(c8U (V:=Int) (λ_ _=>True) hp.1 hp.2).1,rfl,rfl,rfl,Nat.zero_le _,(λt ht=>nomatch ht),List.Pairwise.nil,(λh hh=>.inl (List.mem_replicate.1 hh).2),λh hh=>?_,λa v hv=>?_,λi hi=>?_⟩,λi hi ht=>?_,λh hh=>?_⟩,λh hh=>?_,?_⟩
 ·unfold a17;rw[if_neg (by simp;omega),e1,d7R,show mk 8 6 (0:Int)=some (List.replicate 6 0) from rfl,d7R]
  refine bnd (a:=List.replicate 6 ⟨0,false,-1⟩) (by kernel_rfl) ?_
  rw[c7W hp.1 hp.2,d7R];refine bnd (a:=⟨[],30⟩) (by kernel_rfl) ?_
  rfl
 ·unfold b2d;rw[if_neg (by simp;omega),h2,d7R,show mk 8 6 (0:Int)=some (List.replicate 6 0) from rfl,d7R]
  refine bnd (a:=List.replicate 6 ⟨0,false,-1⟩) (by kernel_rfl) ?_
  unfold c4w;rw[if_neg (by simp;omega),a73 (by omega) (by omega),d7R,d7R]
  refine bnd (a:=⟨[],30⟩) (by kernel_rfl) ?_
  unfold hO nwH;dsimp only;rw[List.map_replicate,List.map_replicate];rfl
 ·rw[hlv] at hh;cases hh
 ·obtain⟨i,hi,_⟩:=hv;have:=hi.2.1;rw[show (nwH k l p).T=List.replicate p ⟨0,0,0⟩ from rfl,b25] at this;cases this
 ·have:(nwH k l p).a8[i]=⟨0,false,-1⟩:=List.getElem_replicate ..;rw[this];exact⟨by decide,by decide,λ_=>rfl,λh=>absurd rfl h,λh=>by cases h⟩
 ·rw[hce] at ht;rcases ht with h | h <;> cases h
 ·rw[hlv] at hh;cases hh
 ·rw[hlv] at hh;cases hh
 ·unfold zr;rw[hlv];rfl
end Go.Sh
namespace Go.Sh
end Go.Sh
namespace Go.Sh
section
variable{x:Hp}(hB:HB x)
include hB
end
end Go.Sh
namespace Go.Sh
def b31(o:g8):r8:=⟨o.Kind,o.A,o.B,o.C⟩
abbrev b71(o:g8):Int:=B7 o.Kind o.A o.B o.C
theorem c3X(k a b c:Int):W3 [k,a,b,c]=some (if B7 k a b c≠0 then (⟨0,0,0,0⟩,B7 k a b c) else (⟨k,a,b,c⟩,0)):=by
 unfold W3;rw[if_neg (by simp)]
 show (S0 ⟨k,a,b,c⟩).bind _=_;rw[a8t,d7R];by_cases h:B7 k a b c=0
 ·rw[if_neg (by simpa using h),if_neg (by simpa using h)]
 ·rw[if_pos (by simpa using h),if_pos h]
theorem c64(k a b c:Int):a1B [k,a,b,c]=some (if B7 k a b c≠0 then (⟨0,0,0,0⟩,B7 k a b c) else (⟨k,a,b,c⟩,0)):=by
 unfold a1B;rw[if_neg (by simp)]
 show (a0S ⟨k,a,b,c⟩).bind _=_;rw[a5j,d7R];by_cases h:B7 k a b c=0
 ·rw[if_neg (by simpa using h),if_neg (by simpa using h)]
 ·rw[if_pos (by simpa using h),if_pos h]
theorem four(l:List Int):(∃k a b c,l = [k,a,b,c])∨l.length≠4:=by
 match l with
 | []=>exact .inr (by simp)
 | [_]=>exact .inr (by simp)
 | [_,_]=>exact .inr (by simp)
 | [_,_,_]=>exact .inr (by simp)
 | [k,a,b,c]=>exact .inl ⟨k,a,b,c,rfl⟩
 | _::_::_::_::_::l=>exact .inr (by simp)
theorem b78{l:List Int}(h:l.length≠4):W3 l=some (⟨0,0,0,0⟩,14)∧a1B l=some (⟨0,0,0,0⟩,14):=by
 unfold W3 a1B;have:(((l.length:Int) != 4))=true:=by simp;omega
 rw[if_pos this,if_pos this];exact⟨rfl,rfl⟩
def a1d(l:List Int):g8 × Int:=(W3 l).getD (⟨0,0,0,0⟩,0)
theorem c0d(l:List Int):W3 l=some (a1d l)∧a1B l=some (b31 (a1d l).1,(a1d l).2):=by
 unfold a1d;rcases four l with ⟨k,a,b,c,rfl⟩ | h
 ·rw[c3X,c64];refine⟨rfl,?_⟩;rw[Option.getD_some];by_cases h:B7 k a b c≠0
  ·rw[if_pos h,if_pos h];rfl
  ·rw[if_neg h,if_neg h];rfl
 ·rw[(b78 h).1,(b78 h).2];exact⟨rfl,rfl⟩
def b1O(o:g8):Bool:=((decide (o.Kind≥1))&&(decide (o.Kind≤10)))&&(b71 o==0)
def b3z(p:List g8):Bool:=decide (p.length≤6)&&p.all b1O
def a7r(l:List (List g8)):Bool:=decide (l.length≤6)&&l.all b3z
section
variable{l:List (List g8)}(hl:l.length≤12)(hp:∀p∈l,p.length≤12)
include hl hp
theorem c8l:a4x l=some (a7r l):=by
 unfold a4x a7r;by_cases h6:l.length > 6
 ·rw[if_pos (by simp;omega),decide_eq_false (by omega)]
  rfl
 ·rw[if_neg (by simp;omega),decide_eq_true (by omega),Bool.true_and]
  simp only[jn];have key:=b8B (f:=λ(s23:Int)=>
   if (decide (s23<(l.length:Int))) then
     (ix l s23).bind λv34=>
     if (decide ((v34.length:Int) > 6)) then
      some (.inr (.inl false))
     else
     (lp (S:=Int) (E:=Bool ⊕ Unit) (λ(s36:Int)=>
      if (decide (s36<(v34.length:Int))) then
       (ix v34 s36).bind λv38=>
       (a2F v38).bind λv39=>
       (u4 ((!v39)==false) 0 (S0 v38)).bind λv40=>
       if ((!v39)||(v40 != 0)) then
        some (.inr (.inl false))
       else
       some (.inl (x8 (s36+1)))
      else
      some (.inr (.inr ()))) 0).bind λe35=>
     match e35 with
     | .inl w=>some (.inr (.inl w))
     | .inr w=>some (Sum.inl (x8 (s23+1)))
   else
   some (.inr (.inr ()))) l b3z (.inr ()) (Sum.inl (β:=Unit) false) (by omega) (λk hk=>?_) (by simp)
  ·refine bnd key ?_;cases l.all b3z <;> rfl
  ·rw[if_pos (by simpa using hk),p8 hk,d7R]
   unfold b3z;have hm:=hp _ (List.getElem_mem hk);generalize l[k]=p at hm ⊢;by_cases hq:p.length > 6
   ·rw[if_pos (by simp;omega),decide_eq_false (by omega)]
    rfl
   ·rw[if_neg (by simp;omega),decide_eq_true (by omega),Bool.true_and]
    have k2:=b8B (f:=λ(s36:Int)=>
      if (decide (s36<(p.length:Int))) then
       (ix p s36).bind λv38=>
       (a2F v38).bind λv39=>
       (u4 ((!v39)==false) 0 (S0 v38)).bind λv40=>
       if ((!v39)||(v40 != 0)) then
        some (.inr (.inl false))
       else
       some (Sum.inl (x8 (s36+1)))
      else
      some (.inr (.inr ()))) p b1O (.inr ()) (Sum.inl (β:=Unit) false) (by omega) (λj hj=>?_) (by simp)
    ·refine Eq.trans (bnd k2 (r:=if p.all b1O=true then some (.inl (x8 ((k:Int)+1))) else some (.inr (.inl false))) ?_) ?_
     ·cases p.all b1O <;> rfl
     ·rw[l7]
    ·rw[if_pos (by simpa using hj),p8 hj,d7R,a8t]
     unfold b1O a2F;rw[d7R,l7];cases ((decide (p[j].Kind≥1))&&(decide (p[j].Kind≤10)));·rfl
     ·by_cases h:b71 p[j]=0
      ·have e:B7 p[j].Kind p[j].A p[j].B p[j].C=0:=h;rw[e,h];rfl
      ·have e1:(B7 p[j].Kind p[j].A p[j].B p[j].C != 0)=true:=by simpa using h
       have e2:(b71 p[j]==0)=false:=by simpa using h
       rw[e2];refine bnd (a:=b71 p[j]) rfl ?_;rw[show (b71 p[j] != 0)=true from e1];rfl
theorem c2J:a9I (l.map (List.map b31))=some (a7r l):=by
 unfold a9I a7r;rw[List.length_map];by_cases h6:l.length > 6
 ·rw[if_pos (by simp;omega),decide_eq_false (by omega)]
  rfl
 ·rw[if_neg (by simp;omega),decide_eq_true (by omega),Bool.true_and]
  simp only[jn];have key:=b8B (f:=λ(s23:Int)=>
   if (decide (s23<(l.length:Int))) then
     (ix (l.map (List.map b31)) s23).bind λv34=>
     if (decide ((v34.length:Int) > 6)) then
      some (.inr (.inl false))
     else
     (lp (S:=Int) (E:=Bool ⊕ Unit) (λ(s36:Int)=>
      if (decide (s36<(v34.length:Int))) then
       (ix v34 s36).bind λv38=>
       (Q6 v38).bind λv39=>
       (u4 ((!v39)==false) 0 (a0S v38)).bind λv40=>
       if ((!v39)||(v40 != 0)) then
        some (.inr (.inl false))
       else
       some (.inl (x8 (s36+1)))
      else
      some (.inr (.inr ()))) 0).bind λe35=>
     match e35 with
     | .inl w=>some (.inr (.inl w))
     | .inr w=>some (Sum.inl (x8 (s23+1)))
   else
   some (.inr (.inr ()))) l b3z (.inr ()) (Sum.inl (β:=Unit) false) (by omega) (λk hk=>?_) (by simp)
  ·refine bnd key ?_;cases l.all b3z <;> rfl
  ·rw[if_pos (by simpa using hk),a1p,p8 hk,Option.map_some,d7R,List.length_map]
   unfold b3z;have hm:=hp _ (List.getElem_mem hk);generalize l[k]=p at hm ⊢;by_cases hq:p.length > 6
   ·rw[if_pos (by simp;omega),decide_eq_false (by omega)]
    rfl
   ·rw[if_neg (by simp;omega),decide_eq_true (by omega),Bool.true_and]
    have k2:=b8B (f:=λ(s36:Int)=>
      if (decide (s36<(p.length:Int))) then
       (ix (p.map b31) s36).bind λv38=>
       (Q6 v38).bind λv39=>
       (u4 ((!v39)==false) 0 (a0S v38)).bind λv40=>
       if ((!v39)||(v40 != 0)) then
        some (.inr (.inl false))
       else
       some (Sum.inl (x8 (s36+1)))
      else
      some (.inr (.inr ()))) p b1O (.inr ()) (Sum.inl (β:=Unit) false) (by omega) (λj hj=>?_) (by simp)
    ·refine Eq.trans (bnd k2 (r:=if p.all b1O=true then some (.inl (x8 ((k:Int)+1))) else some (.inr (.inl false))) ?_) ?_
     ·cases p.all b1O <;> rfl
     ·rw[l7]
    ·rw[if_pos (by simpa using hj),a1p,p8 hj,Option.map_some,d7R,a5j]
     unfold b1O Q6;rw[d7R,l7];rw[show (b31 p[j]).Kind=p[j].Kind from rfl];cases ((decide (p[j].Kind≥1))&&(decide (p[j].Kind≤10)));·rfl
     ·by_cases h:b71 p[j]=0
      ·have e:B7 p[j].Kind (b31 p[j]).A (b31 p[j]).B (b31 p[j]).C=0:=h;rw[e,h];rfl
      ·have e1:(B7 p[j].Kind p[j].A p[j].B p[j].C != 0)=true:=by simpa using h
       have e2:(b71 p[j]==0)=false:=by simpa using h
       rw[e2];refine bnd (a:=b71 p[j]) rfl ?_;rw[show (b71 p[j] != 0)=true from e1];rfl
end
end Go.Sh
