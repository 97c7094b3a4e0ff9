/-
 More of the theory.
-/
import Derived.Test.YtlkcpapbolbjnaaGreatO20fT
set_option linter.unusedVariables false
set_option linter.unusedSimpArgs false
set_option linter.unusedSectionVars false
namespace Go.Sh
theorem a6k(x:Hp)(h:Int):(C3 x h).Roots=x.Roots∧(C3 x h).Cells=x.Cells∧(C3 x h).T=x.T∧(C3 x h).Q=x.Q:=by
 rw[b23];exact⟨rfl,rfl,rfl,rfl⟩
theorem a3x{x:Hp}(hR:SR x.S)(h:Int):SR (C3 x h).S:=(G7 hR h λc=>E3).sr
section
variable{x:Hp}(hx:S9 x)(hS:∀k∈lv x.S,(ob x.S k).Strong≤9223372036854775807)
include hx hS
theorem b1x{h:Int}(hh:h=0∨h∈lv x.S):h≤9223372036854775807:=by
 rcases hh with q | q
 ·omega
 ·have:=K1 hx.sh.sr q;omega
theorem c3e(k:Int){h:Int}(hh:h≤9223372036854775807):a0J x k h=some (if k<0∨5<k then (x,6) else if h=0∨h∈lv x.S then (H0 x k.toNat h,0) else (x,3)):=by
 have hR:=hx.sh.sr;have r6:=hx.sh.r6;unfold a0J;by_cases hk:k<0∨5<k
 ·rw[if_pos hk,if_pos (by rw[r6];simp;omega)]
 ·rw[if_neg hk,if_neg (by rw[r6];simp;omega),a1m hR hh,d4l]
  by_cases hn:h=0∨h∈lv x.S
  ·rw[if_pos hn,decide_eq_true hn,if_neg (by simp)]
   obtain⟨n,rfl⟩:∃n:Nat,k=n:=⟨k.toNat,by omega⟩
   have hn6:n<6:=by omega
   have hnl:n<x.Roots.length:=by omega
   have old:x.Roots[n]≤9223372036854775807:=b1x hx hS (hx.sh.rt _ (List.getElem_mem hnl));have e1:=a6k x h;have hn2:n<(C3 x h).Roots.length:=by rw[e1.1];exact hnl
   rw[o8 hnl,d4l];unfold F3 P6 F6;rw[a6i hR hh hS,d4l];dsimp only;rw[Q2 (by omega) (by rw[e1.1];omega),d4l,o8 hn2,d4l,d4l]
   have hrel:=a2E (x:=wR (C3 x h) (x.Roots.set n h)) (a3x hR h) old;rw[Int.toNat_natCast,e1.1,show D0 ⟨(C3 x h).S,x.Roots.set n h,(C3 x h).Cells,(C3 x h).T,(C3 x h).Q⟩ x.Roots[n]=_ from hrel];unfold H0;rw[List.getD_eq_getElem?_getD,List.getElem?_eq_getElem hnl];rfl
  ·rw[if_neg hn,decide_eq_false hn,if_pos (by simp)]
theorem c1P(k:Int){h:Int}(hh:h≤9223372036854775807):U5 (hO x) k h=some (if k<0∨5<k then (hO x,6) else if h=0∨h∈lv x.S then (hO (H0 x k.toNat h),0) else (hO x,3)):=by
 have hR:=hx.sh.sr;have r6:=hx.sh.r6;unfold U5;by_cases hk:k<0∨5<k
 ·rw[if_pos hk,if_pos (by simp;omega)]
 ·rw[if_neg hk,if_neg (by simp;omega),a6Y hR hh,d4l]
  by_cases hn:h=0∨h∈lv x.S
  ·rw[if_pos hn,decide_eq_true hn,if_neg (by simp)]
   obtain⟨n,rfl⟩:∃n:Nat,k=n:=⟨k.toNat,by omega⟩
   have hnl:n<x.Roots.length:=by omega
   have hnl':n<(hO x).Roots.length:=hnl;have old:x.Roots[n]≤9223372036854775807:=b1x hx hS (hx.sh.rt _ (List.getElem_mem hnl));have e1:=a6k x h;have r6':(hO x).Roots.length=6:=r6;rw[o8 hnl',d4l,a8C hR hh hS,d4l,Q2 (by omega) (by rw[r6'];omega),d4l,o8 hnl',d4l]
   have hrel:=a31 (x:=wR (C3 x h) (x.Roots.set n h)) (a3x hR h) old;rw[Int.toNat_natCast];rw[show E4 ⟨(hO (C3 x h)).S,(hO x).Roots.set n h,(hO (C3 x h)).Cells,(hO (C3 x h)).T,(hO (C3 x h)).Q⟩ (hO x).Roots[n]=_ from hrel];unfold H0;rw[List.getD_eq_getElem?_getD,List.getElem?_eq_getElem hnl];rfl
  ·rw[if_neg hn,decide_eq_false hn,if_pos (by simp)]
omit hx hS in
theorem d1N {l:List Int} {n:Nat} (hn:n<l.length):b3f l n=some (l[n],0)∧b21 l n=some (l[n],0):=by
 constructor
 ·unfold b3f a7q;rw[d4l,if_neg (by simp;omega),o8 hn,d4l]
 ·unfold b21;rw[if_neg (by simp;omega),o8 hn,d4l]
omit hx hS in
theorem c9d {l:List Int} {k:Int} (hk:¬(0≤k∧k<l.length)):b3f l k=some (0,5)∧b21 l k=some (0,5):=by
 constructor
 ·unfold b3f a7q;rw[d4l,if_pos (by simp;omega)]
 ·unfold b21;rw[if_pos (by simp;omega)]
theorem b3l(h k:Int)(hh:h≤9223372036854775807):(∃e,e≠0∧a0A x.S h k=some (0,e)∧a2y (sO x.S) h k=some (0,e)) ∨
  (h∈lv x.S∧∃n:Nat,k=n∧∃hn:n<(ob x.S h).Fields.length,a0A x.S h k=some ((ob x.S h).Fields[n],0)∧a2y (sO x.S) h k=some ((ob x.S h).Fields[n],0)):=by
 have hR:=hx.sh.sr;obtain⟨e,h1,h2⟩:=W0 (y4.2 hR) hh;have hg:F9 (sO x.S) h=some (oo (ob x.S h),e):=by
  rw[a4X x.S (by have:=hR.len;omega) hh,h1]
  rfl
 unfold a0A a2y;rw[h1,d4l,hg,d4l];by_cases q:h∈lv x.S
 ·have:=h2.2 q;subst this;rw[if_neg (by simp),if_neg (by simp),show (oo (ob x.S h),(0:Int)).1.Fields=(ob x.S h).Fields from rfl]
  by_cases hk:0≤k∧k<(ob x.S h).Fields.length
  ·right;obtain⟨n,rfl⟩:∃n:Nat,k=n:=⟨k.toNat,by omega⟩
   have hn:n<(ob x.S h).Fields.length:=by omega
   refine⟨q,n,rfl,hn,?_,?_⟩
   ·rw[(d1N hn).1];rfl
   ·rw[(d1N hn).2];rfl
  ·left;refine⟨5,by decide,?_,?_⟩
   ·rw[(c9d hk).1];rfl
   ·rw[(c9d hk).2];rfl
 ·left;have he:(e != 0)=true:=by simpa using λc=>q (h2.1 c)
  refine⟨e,by simpa using he,?_,?_⟩
  ·simp only[he,if_true]
  ·simp only[he,if_true]
theorem c6i{s:a7}(hR:SR s){h:Int}(hh:h∈lv s){n:Nat}(hn:n<(ob s h).Fields.length)(v:Int) :
  a9B s h n v=some (seO s h (flg (ob s h) ((ob s h).Fields.set n v)),0)∧b4e (sO s) h n v=some (sO (seO s h (flg (ob s h) ((ob s h).Fields.set n v))),0):=by
 have ok:=K8 hR hh;have hf:=ok.fl;have hle:=K1 hR hh;have ho:OkO s (flg (ob s h) ((ob s h).Fields.set n v)):=⟨ok.s1,ok.s2,ok.st,ok.wk,ok.p1,ok.p2,by simpa using hf⟩
 have h1:=b2e (o:=flg (ob s h) ((ob s h).Fields.set n v)) hR hh rfl ho;have h2:=b2f (o:=flg (ob s h) ((ob s h).Fields.set n v)) hR hh rfl ho;constructor
 ·unfold a9B;rw[a8m (y4.2 hR) hh,d4l,if_neg (by simp)]
  unfold b5V a7q;dsimp only;rw[d4l,if_neg (by simp;omega),b48 (by omega) (by omega),d4l]
  have e:cpy (List.replicate (ob s h).Fields.length (0:Int)) (ob s h).Fields=some (ob s h).Fields:=by
   unfold cpy;rw[if_pos (by simp)]
   simp
  rw[e,d4l,o8 hn,d4l,d4l,if_neg (by simp),Int.toNat_natCast]
  dsimp only;rw[show L0 s h ⟨(ob s h).Serial,(ob s h).Strong,(ob s h).Weak,(ob s h).Prog,(ob s h).Started,(ob s h).Fields.set n v⟩=_ from h1];rfl
 ·unfold b4e;rw[a4X s (by have:=hR.len;omega) (by omega),a8m (y4.2 hR) hh,Option.map_some,d4l,if_neg (by simp)]
  unfold b5r;have hn':n<(oo (ob s h)).Fields.length:=hn;have hf':(oo (ob s h)).Fields.length≤4:=hf;dsimp only;rw[if_neg (by simp;omega),Q2 (by omega) (by omega),d4l,o8 hn',d4l,d4l,if_neg (by simp),Int.toNat_natCast]
  dsimp only;rw[show N6 (sO s) h ⟨(oo (ob s h)).Serial,(oo (ob s h)).Strong,(oo (ob s h)).Weak,(oo (ob s h)).Prog,(oo (ob s h)).Started,(oo (ob s h)).Fields.set n v⟩=_ from h2];rfl
theorem c5k(h k v:Int)(hh:h≤9223372036854775807)(hv:v≤9223372036854775807) :
  (∃e,e≠0∧a2q x h k v=some (x,e)∧a3Y (hO x) h k v=some (hO x,e)) ∨
  (h∈lv x.S∧(v=0∨v∈lv x.S)∧∃n:Nat,k=n∧n<(ob x.S h).Fields.length∧a2q x h k v=some (a1N x h n v,0)∧a3Y (hO x) h k v=some (hO (a1N x h n v),0)):=by
 have hR:=hx.sh.sr;unfold a2q a3Y;rcases b3l hx hS h k hh with ⟨e,he,f1,f2⟩ | ⟨hl,n,rfl,hn,f1,f2⟩
 ·left;have he':(e != 0)=true:=by simpa using he
  refine⟨e,he,?_,?_⟩;·rw[f1,d4l,if_pos he']
  ·rw[show (hO x).S=sO x.S from rfl,f2,d4l,if_pos he']
 ·rw[f1,d4l,if_neg (by simp),show (hO x).S=sO x.S from rfl,f2,d4l,if_neg (by simp),a1m hR hv,d4l,a6Y hR hv,d4l]
  by_cases hn2:v=0∨v∈lv x.S
  ·right;refine⟨hl,hn2,n,rfl,hn,?_⟩;rw[decide_eq_true hn2,if_neg (by simp),if_neg (by simp)]
   have kin:=G7 hR v (f:=Z9) λc=>E3;have hR1:SR (C3 x v).S:=kin.sr;have hl1:h∈lv (C3 x v).S:=by rw[show lv (C3 x v).S=lv x.S from kin.lv];exact hl
   have hof:(ob (C3 x v).S h).Fields=(ob x.S h).Fields:=by
    obtain⟨m,e⟩:=kin.ob h hh;show (ob (stO x v Z9).S h).Fields=_;rw[e]
   have hn1:n<(ob (C3 x v).S h).Fields.length:=by rw[hof];exact hn
   have old:(ob x.S h).Fields[n]≤9223372036854775807:=b1x hx hS (hx.sh.fl h hl _ (List.getElem_mem hn));have ok:=K8 hR1 hl1;have sr2:SR (seO (C3 x v).S h (flg (ob (C3 x v).S h) ((ob (C3 x v).S h).Fields.set n v))):=a1p (o:=flg (ob (C3 x v).S h) ((ob (C3 x v).S h).Fields.set n v)) hR1 hl1 rfl ⟨ok.s1,ok.s2,ok.st,ok.wk,ok.p1,ok.p2,by simpa using ok.fl⟩
   obtain⟨p1,p2⟩:=c6i hx hS hR1 hl1 hn1 v;have hd:(ob x.S h).Fields.getD n 0=(ob x.S h).Fields[n]:=by
    rw[List.getD_eq_getElem?_getD,List.getElem?_eq_getElem hn];rfl
   constructor
   ·unfold I7 a0Y;rw[a6i hR hv hS,d4l];dsimp only;rw[p1,d4l,d4l];have hrel:=a2E (x:=wS (C3 x v) (seO (C3 x v).S h (flg (ob (C3 x v).S h) ((ob (C3 x v).S h).Fields.set n v)))) sr2 old;rw[show D0 ⟨seO (C3 x v).S h (flg (ob (C3 x v).S h) ((ob (C3 x v).S h).Fields.set n v)),(C3 x v).Roots,(C3 x v).Cells,(C3 x v).T,(C3 x v).Q⟩ (ob x.S h).Fields[n]=_ from hrel];unfold a1N;rw[hd,hof];rfl
   ·rw[a8C hR hv hS,d4l,show (hO (C3 x v)).S=sO (C3 x v).S from rfl,p2,d4l];have hrel:=a31 (x:=wS (C3 x v) (seO (C3 x v).S h (flg (ob (C3 x v).S h) ((ob (C3 x v).S h).Fields.set n v)))) sr2 old;dsimp only;rw[show E4 ⟨sO (seO (C3 x v).S h (flg (ob (C3 x v).S h) ((ob (C3 x v).S h).Fields.set n v))),(hO (C3 x v)).Roots,(hO (C3 x v)).Cells,(hO (C3 x v)).T,(hO (C3 x v)).Q⟩ (ob x.S h).Fields[n]=_ from hrel];unfold a1N;rw[hd,hof];rfl
  ·left;refine⟨3,by decide,?_,?_⟩
   ·rw[decide_eq_false hn2,if_pos (by simp)]
   ·rw[decide_eq_false hn2,if_pos (by simp)]
theorem c8F(k v:Int)(hk:k≤9223372036854775807)(hv:v≤9223372036854775807) :
  (∃e,e≠0∧a3V x k v=some (x,e)∧a6f (hO x) k v=some (hO x,e)) ∨
  (k∈lv x.S∧(v=0∨v∈lv x.S)∧∃r,X6 x.T k v=some r∧r.2.2=0∧a3V x k v=some (a7D x v r.1 r.2.1,0)∧a6f (hO x) k v=some (hO (a7D x v r.1 r.2.1),0)):=by
 have hR:=hx.sh.sr;unfold a3V a6f;by_cases k0:k=0
 ·left;subst k0;exact⟨2,by decide,by simp,by simp⟩
 ·rw[if_neg (by simpa using k0),if_neg (by simpa using k0),a1m hR hk,d4l,a6W hR hk,d4l,a1m hR hv,a6Y hR hv]
  have hkk:(k=0∨k∈lv x.S)↔k∈lv x.S:=by simp[k0]
  by_cases hl:k∈lv x.S∧(v=0∨v∈lv x.S)
  ·obtain⟨hl,hn⟩:=hl;rw[decide_eq_true (hkk.2 hl),decide_eq_true hl,decide_eq_true hn];simp only[Bool.not_true,beq_self_eq_true,G9,d4l,Bool.or_self,Bool.false_eq_true,if_false];obtain⟨r,r1,r2,r3,r4,r5⟩:=c4p hx.sh.hr k v;rw[r1,d4l,show (hO x).T=x.T.map M1 from rfl,r4,d4l];by_cases h0:r.2.2=0
   ·right;refine⟨hl,hn,r,rfl,h0,?_⟩;have e1:(r.2.2 != 0)=false:=by simpa using h0
    have old:r.2.1≤9223372036854775807:=by
     rcases r5 with ⟨_,rfl⟩ | ⟨_,_,⟨i,hi,rfl⟩ | ⟨_,rfl⟩⟩ | ⟨_,_,⟨i,hi,rfl⟩ | ⟨d,_,_,_,_,rfl⟩ | ⟨_,_,rfl⟩⟩;·simp
     ·exact b1x hx hS (.inr (hx.sh.pr k _ ⟨i,hi,rfl⟩).2)
     ·simp
     ·exact b1x hx hS (.inr (hx.sh.pr k _ ⟨i,hi,rfl⟩).2)
     ·simp
     ·simp
    constructor
    ·rw[e1];simp only[Bool.false_eq_true,if_false];unfold K0 W1;rw[a6i hR hv hS,d4l,d4l];dsimp only;have hrel:=a2E (x:=wT (C3 x v) r.1) (a3x hR v) old;rw[show D0 ⟨(C3 x v).S,(C3 x v).Roots,(C3 x v).Cells,r.1,(C3 x v).Q⟩ r.2.1=_ from hrel];rfl
    ·dsimp only;rw[e1];simp only[Bool.false_eq_true,if_false];rw[a8C hR hv hS,d4l];have hrel:=a31 (x:=wT (C3 x v) r.1) (a3x hR v) old;rw[show E4 ⟨(hO (C3 x v)).S,(hO (C3 x v)).Roots,(hO (C3 x v)).Cells,r.1.map M1,(hO (C3 x v)).Q⟩ r.2.1=_ from hrel];rfl
   ·left;have e1:(r.2.2 != 0)=true:=by simpa using h0
    refine⟨r.2.2,h0,by rw[if_pos e1],by dsimp only;rw[if_pos e1]⟩
  ·left;refine⟨3,by decide,?_,?_⟩
   ·by_cases hl2:k∈lv x.S
    ·have:¬(v=0∨v∈lv x.S):=λq=>hl ⟨hl2,q⟩;rw[decide_eq_true (hkk.2 hl2),decide_eq_false this];rfl
    ·rw[decide_eq_false λq=>hl2 (hkk.1 q)];rfl
   ·by_cases hl2:k∈lv x.S
    ·have:¬(v=0∨v∈lv x.S):=λq=>hl ⟨hl2,q⟩;rw[decide_eq_true hl2,decide_eq_false this];rfl
    ·rw[decide_eq_false hl2];rfl
end
theorem c2G{s:a7}(hR:SR s){h:Int}{i:Nat}(q:V3 s h i):O3 s.S h=some ((gvA s i).S,0):=by
 have hi:=q.1;have hc:=hR.cell i hi;have l9:=hR.l9;unfold O3 gvA;rw[a3J hR q,d4l,if_neg (by simp),b6W hi,d4l]
 by_cases g:(ce s i).Gen=s.S.Last
 ·rw[if_pos (by simpa using g),if_pos g,a6v rfl hi hR.len]
  rfl
 ·rw[if_neg (by simpa using g),if_neg g,a6v rfl hi hR.len,F7 (by omega) (by omega)]
  rfl
theorem c5A{s:a7}{i:Nat}(hi:i<s.S.Cells.length):ix (sO s).Cells (i:Int)=some (cO (ce s i)):=by
 rw[c3g,b6W hi];rfl
theorem c3h(s:a7)(i:Nat)(c:b8):sO (H4 s i c)=⟨(sO s).Cells.set i (cO c),s.S.Last,s.Serial⟩:=by
 unfold sO H4;rw[List.map_set]
theorem b5U(t:k7)(p:x8)(hl:t.Cells.length≤1000)(hp:p.Cells.length=t.Cells.length):a0r t p=some ⟨(List.range t.Cells.length).map λk=>⟨(p.Cells.getD k ⟨0,0,0⟩).State,(p.Cells.getD k ⟨0,0,0⟩).Gen,(t.Cells.getD k ⟨0,0,oo z0⟩).Val⟩,t.Last,t.Serial⟩:=by
 unfold a0r;simp only[jn];rw[c5D (b:=80) t.Cells.length (λk=>⟨(p.Cells.getD k ⟨0,0,0⟩).State,(p.Cells.getD k ⟨0,0,0⟩).Gen,(t.Cells.getD k ⟨0,0,oo z0⟩).Val⟩) (by omega) (by omega) (λk acc hk=>?_) (λacc=>by simp)]
 ·rfl
 ·have hk2:k<p.Cells.length:=by omega
  simp only[Int.ofNat_lt,hk,decide_true,if_true,o8 hk,o8 hk2,d4l];rw[List.getD_eq_getElem?_getD,List.getElem?_eq_getElem hk2,List.getD_eq_getElem?_getD,List.getElem?_eq_getElem hk];rfl
theorem c5q{s:a7}(hR:SR s){h:Int}{i:Nat}(q:V3 s h i):a8q (sO s) h=some (sO (gvA s i)):=by
 have hi:=q.1;have hc:=hR.cell i hi;have l9:=hR.l9;have hlen:=hR.len;have hr:=q.rng hR;have hH:Hnd h:=((b0t hR).2 q).2.1;have hsl:(h-1) % 32=i:=((b0t hR).2 q).2.2.1;have M1:i<(pl (sO s)).Cells.length:=by rw[a1o,B2];exact hi
 have key:∀st g,(st:Int)=st→a0r (sO s) ⟨(pl (sO s)).Cells.set i ⟨st,g,0⟩,(pl (sO s)).Last⟩=some ⟨(sO s).Cells.set i ⟨st,g,oo (ce s i).Val⟩,s.S.Last,s.Serial⟩:=λst g _=>by
  rw[b5U _ _ (by rw[B2];omega) (by simp[a1o])]
  congr 1;congr 1;refine List.ext_getElem (by simp) λk h1 h2=>?_
  have hk:k<s.S.Cells.length:=by simpa[B2] using h1
  have hk2:k<(sO s).Cells.length:=by rw[B2];exact hk
  have hk3:k<(pl (sO s)).Cells.length:=by rw[a1o];exact hk2
  simp only[List.getElem_map,List.getElem_range,List.getElem_set];have e1:(sO s).Cells.getD k ⟨0,0,oo z0⟩=cO (ce s k):=by
   rw[List.getD_eq_getElem?_getD,List.getElem?_eq_getElem hk2,F0 hk];simp[sO]
  have e2:((pl (sO s)).Cells.set i ⟨st,g,0⟩).getD k ⟨0,0,0⟩=if k=i then ⟨st,g,0⟩ else plc k (cO (ce s k)):=by
   rw[a5U M1];split;·rfl
   ·rw[List.getD_eq_getElem?_getD,List.getElem?_eq_getElem hk3,F0 hk];simp[pl,sO]
  rw[e1,e2];by_cases e:k=i
  ·subst e;rw[if_pos rfl,if_pos rfl];rfl
  ·rw[if_neg e,if_neg (Ne.symm e)];rw[F0 hk];simp[sO,plc,cO]
 have fin:∀st g,(a07 ⟨(sO s).Cells.set i ⟨st,g,oo (ce s i).Val⟩,s.S.Last,s.Serial⟩ (i:Int) ⟨0,0,0,0,false,[]⟩)=some (sO (H4 s i ⟨st,g,z0⟩)):=λst g=>by
  unfold a07;have hi2:i<((sO s).Cells.set i ⟨st,g,oo (ce s i).Val⟩).length:=by simp[B2];exact hi
  rw[Q2 (by omega) (by simp[B2];omega),d4l,o8 hi2,d4l,c3h]
  simp[cO,oo,List.set_set]
 unfold a8q b5p gvA;rw[a2V _ (by rw[B2];omega),d4l,b0s s (by omega),a3J hR q,d4l,if_neg (by simp)]
 rw[b9S (by rw[B2];exact hi),d4l]
 have hgen:(plc i ((sO s).Cells[i]'(by rw[B2];exact hi))).Gen=(ce s i).Gen:=by
  rw[F0 hi];simp[plc,sO,cO]
 have hlast:(pl (sO s)).Last=s.S.Last:=rfl;have w3:∀c:x4,X0 (pl (sO s)) (i:Int) c=some ⟨(pl (sO s)).Cells.set i c,(pl (sO s)).Last⟩:=λc=>by
  unfold X0;rw[Q2 (by omega) (by rw[a1o,B2];omega),d4l,o8 M1,d4l,Int.toNat_natCast]
 rw[hgen,hlast,a8o,if_pos hH,hsl];by_cases g:(ce s i).Gen=s.S.Last
 ·rw[if_pos (by simp[g]),if_pos g,w3,d4l,d4l,if_neg (by simp),key _ _ rfl,d4l,d4l,fin]
  rfl
 ·rw[if_neg (by simp;omega),if_neg g,w3,d4l,d4l,if_neg (by simp),key _ _ rfl,d4l,d4l,F7 (by omega) (by omega),fin]
  rfl
section
variable{x:Hp}(hR:SR x.S)
include hR
theorem b61{h d:Int}(hh:h≤9223372036854775807)(hw:V3 x.S h (D4 h) → -1000≤(ce x.S (D4 h)).Val.Weak+d∧(ce x.S (D4 h)).Val.Weak+d≤1000):a1w x h d=some (mkd x h d):=by
 unfold a1w mkd;by_cases q:V3 x.S h (D4 h)
 ·have:=hw q;rw[if_pos q,a3J hR q,d4l];simp only[beq_self_eq_true,if_true];rw[b6W q.1,d4l,F7 (by omega) (by omega),b8J hR q,d4l]
  rfl
 ·have hno:∀i,¬V3 x.S h i:=λi hi=>q (by rw[hi.D4 hR];exact hi)
  rw[if_neg q,a37 hR hh hno,d4l];have:((if h=0 then 2 else 3:Int)==0)=false:=by simpa using a1M h
  simp only[this,Bool.false_eq_true,if_false]
theorem c0w{h:Int}(hh:h≤9223372036854775807)(hw:V3 x.S h (D4 h)→1≤(ce x.S (D4 h)).Val.Weak∧(ce x.S (D4 h)).Val.Weak≤1000):a2T x h=some (a8P x h):=by
 unfold a2T;rw[b61 hR hh (λq=>by have:=hw q;omega),d4l]
 unfold mkd a8P;by_cases q:V3 x.S h (D4 h)
 ·have hw:=hw q;rw[if_pos q,if_pos q];have sr1:=b47 hR q.1 q.2.1 (d:=-1) (by omega)
  have q1:V3 (mkA x.S (D4 h) (-1)) h (D4 h):=(b30 q.1 _).2 q;dsimp only;rw[a3J sr1 q1,d4l,if_neg (by simp),b6W q1.1,d4l,a3v hR q.1 q.2.1,if_pos rfl]
  dsimp only;by_cases c:(ce x.S (D4 h)).State=2∧(ce x.S (D4 h)).Val.Weak=1
  ·rw[if_pos c,if_pos (by simp[c.1,c.2]),c2G sr1 q1,d4l]
   rfl
  ·rw[if_neg c,if_neg (by simp only[Bool.and_eq_true,beq_iff_eq];omega)]
 ·have hno:∀i,¬V3 x.S h i:=λi hi=>q (by rw[hi.D4 hR];exact hi)
  rw[if_neg q,if_neg q,a37 hR hh hno,d4l];have:((if h=0 then 2 else 3:Int) != 0)=true:=by simpa using a1M h
  simp only[this,if_true]
theorem c4z{h:Int}(hh:h≤9223372036854775807)(hw:V3 x.S h (D4 h)→1≤(ce x.S (D4 h)).Val.Weak∧(ce x.S (D4 h)).Val.Weak≤1000):a0u (hO x) h=some (hO (a8P x h)):=by
 have hl:=hR.len;unfold a0u;rw[show (hO x).S=sO x.S from rfl,a2V _ (by rw[B2];omega),d4l,b0s x.S hh]
 unfold a8P;by_cases q:V3 x.S h (D4 h)
 ·have hw:=hw q;have hr:=q.rng hR;rw[if_pos q,a3J hR q,d4l,if_neg (by simp),c5A q.1,d4l]
  have sr1:=b47 hR q.1 q.2.1 (d:=-1) (by omega)
  have q1:V3 (mkA x.S (D4 h) (-1)) h (D4 h):=(b30 q.1 _).2 q;have hs:N6 (sO x.S) h (oo (wkg (ce x.S (D4 h)).Val ((ce x.S (D4 h)).Val.Weak + -1)))=some (sO (mkA x.S (D4 h) (-1)),0):=by
   rw[c6H x.S hl hh,b8J hR q];rfl
  have hw64:x6 ((cO (ce x.S (D4 h))).Val.Weak-1)=(ce x.S (D4 h)).Val.Weak + -1:=by
   show x6 ((ce x.S (D4 h)).Val.Weak-1)=_;rw[F7 (by omega) (by omega)]
   omega
  rw[hw64];rw[show N6 (sO x.S) h ⟨(cO (ce x.S (D4 h))).Val.Serial,(cO (ce x.S (D4 h))).Val.Strong,(ce x.S (D4 h)).Val.Weak + -1,(cO (ce x.S (D4 h))).Val.Prog,(cO (ce x.S (D4 h))).Val.Started,(cO (ce x.S (D4 h))).Val.Fields⟩=_ from hs,d4l,c5A q1.1,d4l,a3v hR q.1 q.2.1,if_pos rfl];by_cases c:(ce x.S (D4 h)).State=2∧(ce x.S (D4 h)).Val.Weak=1
  ·rw[if_pos c,if_pos (by simp[cO,c.1,c.2]),c5q sr1 q1,d4l]
   rfl
  ·rw[if_neg c,if_neg (by simp only[cO,Bool.and_eq_true,beq_iff_eq,decide_eq_true_eq];omega)]
   rfl
 ·have hno:∀i,¬V3 x.S h i:=λi hi=>q (by rw[hi.D4 hR];exact hi)
  rw[if_neg q,a37 hR hh hno,d4l];have:((if h=0 then 2 else 3:Int) != 0)=true:=by simpa using a1M h
  simp only[this,if_true]
end
theorem c6X{l:List g7}(hl:l.length≤1000){n:Nat}(hn:n<l.length)(h call:Int):b2r l n h call=some (l.set n (wcl h call),l[n].Target,0):=by
 unfold b2r a6u a0E;simp only[d4l];rw[if_neg (by simp;omega),b48 (by omega) (by omega),d4l]
 have e:cpy (List.replicate l.length (⟨0,false,0⟩:g7)) l=some l:=by
  unfold cpy;rw[if_pos (by simp)]
  simp
 rw[e,d4l,d4l,o8 hn,d4l,d4l,Int.toNat_natCast]
theorem c16{l:List g7}(hl:l.length≤1000){n:Nat}(hn:n<l.length)(h call:Int):b4h (l.map wcR) n h call=some ((l.set n (wcl h call)).map wcR,l[n].Target,0):=by
 unfold b4h;have hn':n<(l.map wcR).length:=by simpa using hn
 rw[if_neg (by simp;omega),Q2 (by omega) (by simp;omega),d4l,o8 hn',d4l,d4l,Int.toNat_natCast,List.map_set]
 simp[wcR]
theorem c5T(l:List g7)(h:Int):nmg l h≤l.length:=List.countP_le_length
theorem c86{x:Hp}(hx:S9 x)(k h call:Int)(hh:h≤9223372036854775807)(hc : -1≤call∧call≤5) :
  (∃e,e≠0∧a0K x k h call=some (x,e)∧a14 (hO x) k h call=some (hO x,e)) ∨
  ((h=0∨h∈lv x.S)∧∃n:Nat,k=n∧n<6∧wts x.Q n=false∧a0K x k h call=some (a3k x n h call,0)∧a14 (hO x) k h call=some (hO (a3k x n h call),0)):=by
 have hR:=hx.sh.sr;have c6:=hx.sh.c6;have q30:=hx.sh.q30;unfold a0K a14;by_cases hk:k<0∨5<k
 ·left;have e1:((decide (k<0))||(decide (k≥(x.Cells.length:Int))))=true:=by rw[c6];simp;omega
  have e2:((decide (k<0))||(decide (k > 5)))=true:=by simp;omega
  refine⟨7,by decide,?_,?_⟩
  ·rw[e1];rfl
  ·rw[e2];rfl
 ·obtain⟨n,rfl⟩:∃n:Nat,k=n:=⟨k.toNat,by omega⟩
  have hn6:n<6:=by omega
  have e1:((decide ((n:Int)<0))||(decide ((n:Int)≥(x.Cells.length:Int))))=false:=by rw[c6];simp;omega
  have e2:((decide ((n:Int)<0))||(decide ((n:Int) > 5)))=false:=by simp;omega
  rw[e1,e2];simp only[beq_self_eq_true,G9,Bool.false_or];have hwq:a4D x.Q n=some (wts x.Q n):=c8X (by omega)
  have hwr:a2A (hO x).Q n=some (wts x.Q n):=c25 (by omega)
  rw[hwq,d4l,hwr,d4l,a1m hR hh,d4l,a6Y hR hh,d4l];by_cases hw:wts x.Q n=true
  ·left;rw[if_pos hw,if_pos hw];exact⟨7,by decide,rfl,rfl⟩
  ·have hw:wts x.Q n=false:=by simpa using hw
   rw[hw,if_neg (show ¬(false=true) by decide),if_neg (show ¬(false=true) by decide)]
   by_cases hl:h=0∨h∈lv x.S
   ·right;refine⟨hl,n,rfl,hn6,hw,?_⟩;have hnl:n<x.Cells.length:=by omega
    rw[decide_eq_true hl,if_neg (by simp),if_neg (by simp),c6X (by omega) hnl,d4l,show (hO x).Cells=x.Cells.map wcR from rfl,c16 (by omega) hnl,d4l]
    have htg:tgt x n=x.Cells[n].Target:=by
     unfold tgt;rw[List.getD_eq_getElem?_getD,List.getElem?_eq_getElem hnl];rfl
    have wkb:∀i,i<x.S.S.Cells.length→Th (ce x.S i)→0≤(ce x.S i).Val.Weak∧(ce x.S i).Val.Weak≤6:=λi hi ht=>by
     have:=(hx.wk i hi ht).1;have:=c5T x.Cells (1+(i:Int)+32*(ce x.S i).Gen);omega
    have mk1:∃s2,mkd (wC x (x.Cells.set n (wcl h call))) h 1=wS (wC x (x.Cells.set n (wcl h call))) s2∧SR s2∧(∀k i,V3 s2 k i↔V3 x.S k i)∧(∀i,i<x.S.S.Cells.length→Th (ce x.S i)→(ce x.S i).Val.Weak≤(ce s2 i).Val.Weak∧(ce s2 i).Val.Weak≤(ce x.S i).Val.Weak+1) ∧
      (h≠0→F9 (sO x.S) h=some (oo (ce x.S (D4 h)).Val,0)∧N6 (sO x.S) h (oo (wkg (ce x.S (D4 h)).Val ((ce x.S (D4 h)).Val.Weak+1)))=some (sO s2,0))∧(h=0→s2=x.S):=by
     unfold mkd;by_cases h0:h=0
     ·have hno:¬V3 x.S h (D4 h):=λq=>by have:=q.rng hR;omega
      rw[if_neg hno];exact⟨x.S,rfl,hR,λ_ _=>Iff.rfl,λi _ _=>by omega,λq=>absurd h0 q,λ_=>rfl⟩
     ·have hll:=hl.resolve_left h0;have hp:=z6 hR hll;have hb:=wkb _ hp.1 (.inl hp.2.1);rw[if_pos hp.d];have kn:=a6Z hR hp.1 (.inl hp.2.1) (d:=1) (by omega)
      refine⟨_,rfl,kn.sr,kn.ad,λi hi ht=>?_,λ_=>⟨?_,?_⟩,λq=>absurd q h0⟩
      ·rw[a3v hR hp.1 (.inl hp.2.1)];split;·rename_i e;subst e;dsimp only;omega
       ·omega
      ·rw[a4X x.S (by have:=hR.len;omega) hh,c91 hR hp]
       rfl
      ·rw[c6H x.S hR.len hh,b8J hR hp.d];rfl
    obtain⟨s2,m1,m2,m3,m4,m5,m6⟩:=mk1;have hold:tgt x n≤9223372036854775807:=by
     by_cases q:tgt x n=0
     ·omega
     ·obtain⟨p,hp⟩:=(hx.sh.cl n hnl).2.2.2.1 (by rw[←htg];exact q)
      have:=hp.rng hR;rw[htg];omega
    have hun:V3 s2 (tgt x n) (D4 (tgt x n))→1≤(ce s2 (D4 (tgt x n))).Val.Weak∧(ce s2 (D4 (tgt x n))).Val.Weak≤1000:=λq=>by
     have q':=(m3 _ _).1 q;have r:=q'.rng hR;have:=(hx.wk _ q'.1 q'.2.1).1;have hp:0<nmg x.Cells x.Cells[n].Target:=b1D hnl (by rw[←htg];omega)
     rw[←htg,q'.2.2] at hp;have:=m4 _ q'.1 q'.2.1;have:=wkb _ q'.1 q'.2.1;omega
    have u1:=c0w (x:=wS (wC x (x.Cells.set n (wcl h call))) s2) m2 hold hun;have u2:=c4z (x:=wS (wC x (x.Cells.set n (wcl h call))) s2) m2 hold hun;have hwb:V3 x.S h (D4 h) → -1000≤(ce x.S (D4 h)).Val.Weak+1∧(ce x.S (D4 h)).Val.Weak+1≤1000:=λq=>by
     have:=wkb _ q.1 q.2.1;omega
    have mm:=b61 (x:=wC x (x.Cells.set n (wcl h call))) (d:=1) hR hh hwb;constructor
    ·dsimp only;rw[show a1w ⟨x.S,x.Roots,x.Cells.set n (wcl h call),x.T,x.Q⟩ h 1=_ from mm,d4l,m1,←htg,u1,d4l];unfold a3k;rw[m1]
    ·unfold a3k;rw[m1];dsimp only;by_cases h0:h=0
     ·rw[if_neg (by simpa using h0),←htg]
      rw[m6 h0] at u2 ⊢;rw[show a0u ⟨(hO x).S,(hO x).Roots,(x.Cells.set n (wcl h call)).map wcR,(hO x).T,(hO x).Q⟩ (tgt x n)=_ from u2,d4l]
     ·obtain⟨g1,g2⟩:=m5 h0;have hp:=z6 hR (hl.resolve_left h0);have hb:=wkb _ hp.1 (.inl hp.2.1);rw[if_pos (by simpa using h0),show (hO x).S=sO x.S from rfl,g1,d4l]
      have e:x6 ((oo (ce x.S (D4 h)).Val).Weak+1)=(ce x.S (D4 h)).Val.Weak+1:=by
       show x6 ((ce x.S (D4 h)).Val.Weak+1)=_;rw[F7 (by omega) (by omega)]
      dsimp only;rw[e];rw[show N6 (sO x.S) h ⟨(oo (ce x.S (D4 h)).Val).Serial,(oo (ce x.S (D4 h)).Val).Strong,(ce x.S (D4 h)).Val.Weak+1,(oo (ce x.S (D4 h)).Val).Prog,(oo (ce x.S (D4 h)).Val).Started,(oo (ce x.S (D4 h)).Val).Fields⟩=_ from g2,d4l,←htg];dsimp only;rw[show a0u ⟨sO s2,(hO x).Roots,(x.Cells.set n (wcl h call)).map wcR,(hO x).T,(hO x).Q⟩ (tgt x n)=_ from u2,d4l]
   ·left;rw[decide_eq_false hl];refine⟨3,by decide,?_,?_⟩ <;> rw[if_pos (by rfl)]
end Go.Sh
namespace Go.Sh
section
variable{x:Hp}(hx:S9 x)(hS:∀k∈lv x.S,(ob x.S k).Strong≤9223372036854775807)
include hx hS
end
end Go.Sh
namespace Go.Sh
abbrev tz:g8:=⟨0,0,0⟩
abbrev cz0:g7:=⟨0,false,0⟩
theorem F1{α:Type}{l:List α}{i:Nat}(h:i<l.length)(d:α):l.getD i d=l[i]:=by
 rw[List.getD_eq_getElem?_getD,List.getElem?_eq_getElem h];rfl
theorem c61{q:TQ}{w:Int}:wts q w=true↔∃t∈q.L,t.Kind=2∧t.At=w:=by
 unfold wts;rw[List.any_eq_true];simp
def TkP(x:Hp)(t:g8):Prop:=0≤t.Prog∧t.Prog≤5∧((t.Kind=1∧t.At∈lv x.S∧(ob x.S t.At).Started=true)∨(t.Kind=2∧0≤t.At∧t.At≤5))
def TkS(a b:g8):Prop:=a.Kind=b.Kind∧a.At=b.At
instance(a b:g8):Decidable (TkS a b):=by unfold TkS;infer_instance
section
variable{x:Hp}(hR:SR x.S)
include hR
theorem c8Z(hq:x.Q.L.length≤1000)(hB:∀t∈x.Q.L,t.At≤9223372036854775807):∃b,a9s (hO x)=some b∧(b=true↔((∀t∈x.Q.L,TkP x t)∧x.Q.L.Pairwise (λa b=>¬TkS a b)∧x.Q.Cap=30∧x.Q.L.length≤30)):=by
 have hlen:(hO x).Q.L.length=x.Q.L.length:=by simp[hO,tqR]
 unfold a9s;simp only[jn];rw[hlen];refine b7D x.Q.L.length (λi=>TkP x (x.Q.L.getD i tz)∧∀k,k<i→¬TkS (x.Q.L.getD k tz) (x.Q.L.getD i tz)) (by omega) (λi hi=>?_) (by simp) (λhall=>?_) (λhno=>?_)
 ·have hi':i<(hO x).Q.L.length:=by rw[hlen];exact hi
  have hg:(hO x).Q.L[i]=⟨(x.Q.L.getD i tz).Kind,(x.Q.L.getD i tz).At,(x.Q.L.getD i tz).Prog⟩:=by
   rw[F1 hi];simp[hO,tqR,tkR]
  have hat:=hB _ (List.getElem_mem hi);rw[←F1 hi tz] at hat;simp only[Int.ofNat_lt,hi,decide_true,if_true,o8 hi',d4l,hg];generalize ht:x.Q.L.getD i tz=t at hat;by_cases c1:((((t.Kind != 1)&&(t.Kind != 2))||(decide (t.Prog<0)))||(decide (t.Prog > 5)))=true
  ·rw[if_pos c1];refine⟨_,rfl,.inr ⟨λq=>?_,rfl⟩⟩;obtain⟨⟨q1,q2,q3⟩,_⟩:=q;simp only[Bool.or_eq_true,Bool.and_eq_true,bne_iff_ne,ne_eq,decide_eq_true_eq] at c1;rcases q3 with q3 | q3 <;> omega
  ·rw[if_neg c1];have c1':(t.Kind=1∨t.Kind=2)∧0≤t.Prog∧t.Prog≤5:=by
    simp only[Bool.or_eq_true,Bool.and_eq_true,bne_iff_ne,ne_eq,decide_eq_true_eq] at c1;omega
   refine b7D i (λk=>¬TkS (x.Q.L.getD k tz) t) (by omega) (λk hk=>?_) (by simp) (λhall=>?_) (λhno=>?_)
   ·have hk1:k<x.Q.L.length:=by omega
    have hk':k<(hO x).Q.L.length:=by rw[hlen];exact hk1
    have hgk:(hO x).Q.L[k]=⟨(x.Q.L.getD k tz).Kind,(x.Q.L.getD k tz).At,(x.Q.L.getD k tz).Prog⟩:=by
     rw[F1 hk1];simp[hO,tqR,tkR]
    simp only[Int.ofNat_lt,hk,decide_true,if_true,o8 hk',d4l,hgk];by_cases c:TkS (x.Q.L.getD k tz) t
    ·rw[if_pos (by simpa[TkS] using c)]
     exact⟨_,rfl,.inr ⟨λq=>q c,rfl⟩⟩
    ·rw[if_neg (by simpa[TkS] using c),k8]
     exact⟨_,rfl,.inl ⟨c,rfl⟩⟩
   ·dsimp only;obtain⟨e,h1,h2⟩:=W0 (y4.2 hR) hat;rw[show (hO x).S=sO x.S from rfl,a4X x.S (by have:=hR.len;omega) hat,h1,Option.map_some,d4l]
    by_cases c2:TkP x t
    ·rw[if_neg,k8];·exact⟨_,rfl,.inl ⟨⟨c2,hall⟩,rfl⟩⟩
     ·obtain⟨_,_,q | q⟩:=c2
      ·have:=h2.2 q.2.1;simp[q.1,this,oo,q.2.2]
      ·simp[q.1];omega
    ·rw[if_pos];·exact⟨_,rfl,.inr ⟨λq=>c2 q.1,rfl⟩⟩
     ·simp only[Bool.or_eq_true,Bool.and_eq_true,beq_iff_eq,bne_iff_ne,ne_eq,Bool.not_eq_true',decide_eq_true_eq,oo];rcases c1'.1 with k1 | k2
      ·left;refine⟨k1,Classical.byContradiction λq=>c2 ⟨c1'.2.1,c1'.2.2,.inl ⟨k1,?_,?_⟩⟩⟩;·exact h2.1 (Classical.byContradiction λq2=>q (.inl q2))
       ·cases hst:(ob x.S t.At).Started;·exact absurd (.inr hst) q
        ·rfl
      ·right;refine⟨k2,?_⟩;have:¬(0≤t.At∧t.At≤5):=λq=>c2 ⟨c1'.2.1,c1'.2.2,.inr ⟨k2,q.1,q.2⟩⟩;omega
   ·exact⟨_,rfl,.inr ⟨λq=>hno q.2,rfl⟩⟩
 ·refine⟨_,rfl,?_⟩;rw[Bool.and_eq_true,beq_iff_eq,decide_eq_true_iff];constructor
  ·rintro⟨a,b⟩;refine⟨λt ht=>?_,?_,a,by first | exact_mod_cast b | (simp[hO,tqR] at b;omega)⟩
   ·obtain⟨i,hi,rfl⟩:=List.getElem_of_mem ht;have:=(hall i hi).1;rwa [F1 hi] at this
   ·rw[List.pairwise_iff_getElem];intro i j hi hj hij;have:=(hall j hj).2 i hij;rwa [F1 hi,F1 hj] at this
  ·rintro⟨_,_,a,b⟩;exact⟨a,by first | exact_mod_cast b | (simp[hO,tqR];omega)⟩
 ·refine⟨false,rfl,?_⟩;simp only[Bool.false_eq_true,false_iff];rintro⟨a,b,_⟩;refine hno λi hi=>⟨?_,λk hk=>?_⟩
  ·rw[F1 hi];exact a _ (List.getElem_mem hi)
  ·have hk1:k<x.Q.L.length:=by omega
   rw[F1 hi,F1 hk1];exact List.pairwise_iff_getElem.1 b k i hk1 hi hk
theorem c8m(hT:HR x.T)(hB:HB x)(hr:x.Roots.length≤1000):∃b,a9r (hO x)=some b∧(b=true↔((∀h∈x.Roots,h=0∨h∈lv x.S)∧(∀h∈lv x.S,∀v∈(ob x.S h).Fields,v=0∨v∈lv x.S)∧∀k v,Has x.T k v→k∈lv x.S∧v∈lv x.S)):=by
 have hlen:(hO x).Roots.length=x.Roots.length:=rfl;have h24:=a1Y (y4.2 hR);unfold a9r;simp only[jn];refine b7D x.Roots.length (λi=>x.Roots.getD i 0=0∨x.Roots.getD i 0∈lv x.S) (by omega) (λi hi=>?_) (by simp[hlen]) (λhall=>?_) (λhno=>?_)
 ·have hb:=hB.rb _ (List.getElem_mem hi);rw[hlen];simp only[Int.ofNat_lt,hi,decide_true,if_true];rw[show (hO x).Roots=x.Roots from rfl,o8 hi,d4l,a6Y hR hb,d4l,F1 hi];by_cases c:x.Roots[i]=0∨x.Roots[i]∈lv x.S
  ·rw[decide_eq_true c,if_neg (by simp),k8]
   exact⟨_,rfl,.inl ⟨c,rfl⟩⟩
  ·rw[decide_eq_false c,if_pos (by simp)]
   exact⟨_,rfl,.inr ⟨c,rfl⟩⟩
 ·dsimp only;have hall':∀h∈x.Roots,h=0∨h∈lv x.S:=λh hh=>by
   obtain⟨i,hi,rfl⟩:=List.getElem_of_mem hh;have:=hall i hi;rwa [F1 hi] at this
  rw[show (hO x).S=sO x.S from rfl,b7Y (y4.2 hR),d4l];refine b7D (lv x.S).length (λi=>∀v∈(ob x.S ((lv x.S).getD i 0)).Fields,v=0∨v∈lv x.S) (by omega) (λi hi=>?_) (by simp) (λhall2=>?_) (λhno=>?_)
  ·have hm:=List.getElem_mem hi;have hle:=c5F (y4.2 hR) hi;have hfl:=(K8 hR hm).fl;simp only[Int.ofNat_lt,hi,decide_true,if_true];rw[o8 hi,d4l,a4X x.S (by have:=hR.len;omega) hle,a8m (y4.2 hR) hm,Option.map_some,d4l,F1 hi]
   have hff:(oo (ob x.S (lv x.S)[i])).Fields=(ob x.S (lv x.S)[i]).Fields:=rfl;dsimp only;rw[hff];refine b7D (ob x.S (lv x.S)[i]).Fields.length (λk=>(ob x.S (lv x.S)[i]).Fields.getD k 0=0∨(ob x.S (lv x.S)[i]).Fields.getD k 0∈lv x.S) (by omega) (λk hk=>?_) (by simp) (λhall3=>?_) (λhno=>?_)
   ·have hp:=z6 hR hm;have hb:(ob x.S (lv x.S)[i]).Fields[k]≤9223372036854775807:=by
     have e:=P5 hR hp;exact c9n.1 hB.fb _ hp.1 _ (by rw[←e];exact List.getElem_mem hk)
    simp only[Int.ofNat_lt,hk,decide_true,if_true];rw[o8 hk,d4l,a6Y hR hb,d4l,F1 hk];by_cases c:(ob x.S (lv x.S)[i]).Fields[k]=0∨(ob x.S (lv x.S)[i]).Fields[k]∈lv x.S
    ·rw[decide_eq_true c,if_neg (by simp),k8]
     exact⟨_,rfl,.inl ⟨c,rfl⟩⟩
    ·rw[decide_eq_false c,if_pos (by simp)]
     exact⟨_,rfl,.inr ⟨c,rfl⟩⟩
   ·dsimp only;rw[k8];refine⟨_,rfl,.inl ⟨λv hv=>?_,rfl⟩⟩;obtain⟨k,hk,rfl⟩:=List.getElem_of_mem hv;have:=hall3 k hk;rwa [F1 hk] at this
   ·refine⟨_,rfl,.inr ⟨λq=>hno λk hk=>?_,rfl⟩⟩;rw[F1 hk];exact q _ (List.getElem_mem hk)
  ·dsimp only;have hall2':∀h∈lv x.S,∀v∈(ob x.S h).Fields,v=0∨v∈lv x.S:=λh hh=>by
    obtain⟨i,hi,rfl⟩:=List.getElem_of_mem hh;have:=hall2 i hi;rwa [F1 hi] at this
   have h8:=b0C hT.l8;rw[show (hO x).T=x.T.map M1 from rfl,b7c hT,d4l,List.length_map];refine b7D (prs x.T).length (λi=>((prs x.T).getD i ⟨0,0⟩).Key∈lv x.S∧((prs x.T).getD i ⟨0,0⟩).Val∈lv x.S) (by omega) (λi hi=>?_) (by simp) (λhall3=>?_) (λhno=>?_)
   ·have hi':i<((prs x.T).map pp).length:=by simpa using hi
    have hb:=hB.tb.has (a49.1 (List.getElem_mem hi));simp only[Int.ofNat_lt,hi,decide_true,if_true];rw[o8 hi',d4l,List.getElem_map,a6W hR hb.1,d4l,F1 hi];by_cases c:(prs x.T)[i].Key∈lv x.S
    ·rw[decide_eq_true c];simp only[Bool.not_true,beq_self_eq_true,G9,Bool.false_or];rw[a6W hR hb.2,d4l];by_cases c2:(prs x.T)[i].Val∈lv x.S
     ·rw[decide_eq_true c2,if_neg (by simp),k8]
      exact⟨_,rfl,.inl ⟨⟨c,c2⟩,rfl⟩⟩
     ·rw[decide_eq_false c2,if_pos (by simp)]
      exact⟨_,rfl,.inr ⟨λq=>c2 q.2,rfl⟩⟩
    ·rw[decide_eq_false c];simp only[Bool.not_false,show ((true==false):Bool)=false from rfl,b66,d4l,Bool.true_or,if_true];exact⟨_,rfl,.inr ⟨λq=>c q.1,rfl⟩⟩
   ·refine⟨true,rfl,?_⟩;simp only[true_iff];refine⟨hall',hall2',λk v hkv=>?_⟩;obtain⟨i,hi,e⟩:=List.getElem_of_mem (a49 (p:=⟨k,v⟩).2 hkv);have:=hall3 i hi;rw[F1 hi,e] at this;exact this
   ·refine⟨false,rfl,?_⟩;simp only[Bool.false_eq_true,false_iff];rintro⟨_,_,q⟩;refine hno λi hi=>?_;rw[F1 hi];exact q _ _ (a49.1 (List.getElem_mem hi))
  ·refine⟨false,rfl,?_⟩;simp only[Bool.false_eq_true,false_iff];rintro⟨_,q,_⟩;refine hno λi hi=>?_;rw[F1 hi];exact q _ (List.getElem_mem hi)
 ·refine⟨false,rfl,?_⟩;simp only[Bool.false_eq_true,false_iff];rintro⟨q,_⟩;refine hno λi hi=>?_;rw[F1 hi];exact q _ (List.getElem_mem hi)
def ClP(x:Hp)(i:Nat)(c:g7):Prop:=-1≤c.Call∧c.Call≤5∧(c.Target=0→c.Intact=false)∧(c.Target≠0→∃p,V3 x.S c.Target p)∧(c.Intact=true→c.Target∈lv x.S∧wts x.Q i=false)
theorem c7X(hl:x.Cells.length≤1000)(hq:x.Q.L.length≤1000)(hB:∀c∈x.Cells,c.Target≤9223372036854775807):∃b,a9q (hO x)=some b∧(b=true↔∀i (hi:i<x.Cells.length),ClP x i x.Cells[i]):=by
 have hlen:(hO x).Cells.length=x.Cells.length:=by simp[hO]
 unfold a9q;simp only[jn];rw[hlen];refine b7D x.Cells.length (λi=>ClP x i (x.Cells.getD i cz0)) (by omega) (λi hi=>?_) (by simp) (λhall=>⟨true,rfl,?_⟩) (λhno=>⟨false,rfl,?_⟩)
 ·have hi':i<(hO x).Cells.length:=by rw[hlen];exact hi
  have hg:(hO x).Cells[i]=⟨(x.Cells.getD i cz0).Target,(x.Cells.getD i cz0).Intact,(x.Cells.getD i cz0).Call⟩:=by
   rw[F1 hi];simp[hO,wcR]
  have hb:=hB _ (List.getElem_mem hi);rw[←F1 hi cz0] at hb;simp only[Int.ofNat_lt,hi,decide_true,if_true,o8 hi',d4l,hg];generalize x.Cells.getD i cz0=c at hb;rw[show (hO x).S=sO x.S from rfl,a2V _ (by rw[B2];have:=hR.len;omega),d4l]
  rw[b0s x.S hb];obtain⟨z,z1,z2⟩:∃z,u7 x.S.S c.Target=some z∧(z.2=0↔∃p,V3 x.S c.Target p):=by
   by_cases q:∃p,V3 x.S c.Target p
   ·obtain⟨p,hp⟩:=q;exact⟨_,a3J hR hp,by simp;exact⟨p,hp⟩⟩
   ·refine⟨_,a37 hR hb (λp hp=>q ⟨p,hp⟩),?_⟩;simp only[q,iff_false];exact a1M _
  rw[z1,d4l];by_cases c1:((((decide (c.Call<(-1)))||(decide (c.Call > 5)))||((c.Target==0)&&c.Intact))||((c.Target != 0)&&(z.2 != 0)))=true
  ·rw[c1];simp only[show ((true==false):Bool)=false from rfl,Bool.false_and,b66,d4l,Bool.true_or,if_true];refine⟨_,rfl,.inr ⟨λq=>?_,rfl⟩⟩;obtain⟨q1,q2,q3,q4,q5⟩:=q;simp only[Bool.or_eq_true,Bool.and_eq_true,decide_eq_true_eq,beq_iff_eq,bne_iff_ne,ne_eq] at c1;rcases c1 with ((c1 | c1) | c1) | c1
   ·omega
   ·omega
   ·have:=q3 c1.1;rw[this] at c1;exact absurd c1.2 (by decide)
   ·exact c1.2 (z2.2 (q4 c1.1))
  ·have c1:((((decide (c.Call<(-1)))||(decide (c.Call > 5)))||((c.Target==0)&&c.Intact))||((c.Target != 0)&&(z.2 != 0)))=false:=by simpa using c1
   have c1' : -1≤c.Call∧c.Call≤5∧(c.Target=0→c.Intact=false)∧(c.Target≠0→∃p,V3 x.S c.Target p):=by
    simp only[Bool.or_eq_false_iff,Bool.and_eq_false_iff,decide_eq_false_iff_not,beq_eq_false_iff_ne,ne_eq,bne_eq_false_iff_eq] at c1;refine⟨by omega,by omega,λq=>c1.1.2.resolve_left (λq2=>q2 q),λq=>z2.1 (c1.2.resolve_left q)⟩
   rw[c1];simp only[beq_self_eq_true,Bool.true_and,Bool.false_or];cases hin:c.Intact
   ·simp only[show ((false==true):Bool)=false from rfl,b66,d4l,Bool.false_and,Bool.false_eq_true,if_false];rw[k8];exact⟨_,rfl,.inl ⟨⟨c1'.1,c1'.2.1,λ_=>hin,c1'.2.2.2,λq=>by rw[hin] at q;cases q⟩,rfl⟩⟩
   ·simp only[beq_self_eq_true,G9,Bool.true_and];rw[a6W hR hb,d4l];by_cases c2:c.Target∈lv x.S
    ·rw[decide_eq_true c2];simp only[Bool.not_true,beq_self_eq_true,G9,Bool.false_or];rw[show a2A (hO x).Q i=some (wts x.Q i) from c25 hq,d4l];cases hwt:wts x.Q i
     ·rw[if_neg (by decide),k8]
      exact⟨_,rfl,.inl ⟨⟨c1'.1,c1'.2.1,c1'.2.2.1,c1'.2.2.2,λ_=>⟨c2,hwt⟩⟩,rfl⟩⟩
     ·rw[if_pos rfl];refine⟨_,rfl,.inr ⟨λq=>?_,rfl⟩⟩;have:=(q.2.2.2.2 hin).2;rw[hwt] at this;cases this
    ·rw[decide_eq_false c2];simp only[Bool.not_false,show ((true==false):Bool)=false from rfl,b66,d4l,Bool.true_or,if_true];exact⟨_,rfl,.inr ⟨λq=>c2 (q.2.2.2.2 hin).1,rfl⟩⟩
 ·simp only[true_iff];intro i hi;have:=hall i hi;rwa [F1 hi] at this
 ·simp only[Bool.false_eq_true,false_iff];intro q;refine hno λi hi=>?_;rw[F1 hi];exact q i hi
omit hR in
theorem c5S (l:List g7) (hl:l.length≤1000) (h:Int):a67 (l.map wcR) h=some (nmg l h:Int):=by
 unfold a67;simp only[jn];rw[List.length_map,b2R l (λ(b:Int) c=>if ((h != 0)&&(c.Target==h))=true then b+1 else b) id (λk b=>0≤b∧b≤k) (by omega) (by omega) (λk hk b hI=>?_) (λb _=>by simp),d4l]
 ·congr 1;have:∀(l:List g7) (n:Int),l.foldl (λ(b:Int) c=>if ((h != 0)&&(c.Target==h))=true then b+1 else b) n=n+(nmg l h:Int):=λl=>by
   induction l with
   | nil=>intro n;simp[nmg]
   | cons c l ih=>
    intro n;rw[List.foldl_cons,ih];unfold nmg;rw[List.countP_cons];split <;> simp_all <;> omega
  rw[id,this];omega
 ·have hk':k<(l.map wcR).length:=by simpa using hk
  simp only[Int.ofNat_lt,hk,decide_true,if_true,o8 hk',d4l,List.getElem_map,wcR];by_cases c:((h != 0)&&(l[k].Target==h))=true
  ·rw[if_pos c,if_pos (by rw[Bool.and_comm];exact c),F7 (by omega) (by omega),k8]
   exact⟨rfl,by omega⟩
  ·rw[if_neg c,if_neg (by rw[Bool.and_comm];exact c),k8]
   exact⟨rfl,by omega⟩
omit hR in
theorem c35 (l:List g7) (hl:l.length≤1000) (h:Int):a3l l h=some (nmg l h:Int):=by
 unfold a3l Q0 a2Z;simp only[jn,d4l];have key:∃e,lp (S:=Int × (List Int)) (E:=(List Int)) (λ((s17,s18):Int × (List Int))=>
   if (decide (s17<(l.length:Int))) then
     (ix l s17).bind λv26=>
     if ((h != 0)&&(v26.Target==h)) then
      (app 8 s18 [s17]).bind λv28=>
      some (.inl (x6 (s17+1),v28))
     else
     some (.inl (x6 (s17+1),s18))
   else
   some (.inr s18)) (0,[])=some e∧e.length=nmg l h:=by
  refine a1X l.length (λk (acc:List Int)=>acc.length=nmg (l.take k) h) (λ(e:List Int)=>e.length=nmg l h) (by omega) rfl (λk acc hk hP=>?_) (λacc hP=>⟨acc,by simp,by rwa [List.take_length] at hP⟩)
  left;have hle:acc.length≤k:=by
   rw[hP];exact Nat.le_trans (c5T _ _) (by simp;omega)
  have hst:nmg (l.take (k+1)) h=nmg (l.take k) h+if ((h != 0)&&(l[k].Target==h))=true then 1 else 0:=by
   unfold nmg;rw[List.take_succ_eq_append_getElem hk,List.countP_append,List.countP_cons,List.countP_nil];omega
  simp only[Int.ofNat_lt,hk,decide_true,if_true,o8 hk,d4l];rw[k8];by_cases c:((h != 0)&&(l[k].Target==h))=true
  ·rw[if_pos c,C6 (by omega) (by simp;omega),d4l]
   exact⟨_,rfl,by rw[hst,if_pos c];simp[hP]⟩
  ·rw[if_neg c];exact⟨_,rfl,by rw[hst,if_neg c];simpa using hP⟩
 obtain⟨e,e1,e2⟩:=key;rw[show lp _ _=_ from e1,d4l,d4l,e2]
omit hR in
theorem d0v {s:a7} {i:Nat} (hi:i<s.S.Cells.length):ix (sO s).Cells (i:Int)=some ⟨(ce s i).State,(ce s i).Gen,⟨(ce s i).Val.Serial,(ce s i).Val.Strong,(ce s i).Val.Weak,(ce s i).Val.Prog,(ce s i).Val.Started,(ce s i).Val.Fields⟩⟩:=c5A hi
theorem c87(hl:x.Cells.length≤1000):∃b,a9t (hO x)=some b∧(b=true↔Wk x):=by
 have hlen:(hO x).S.Cells.length=x.S.S.Cells.length:=by simp[hO,sO]
 have h24:=hR.len;have l9:=hR.l9;unfold a9t;simp only[jn];rw[hlen];refine b7D x.S.S.Cells.length (λi=>Th (ce x.S i)→(ce x.S i).Val.Weak=(nmg x.Cells (1+(i:Int)+32*(ce x.S i).Gen):Int)∧((ce x.S i).State=2→1≤(ce x.S i).Val.Weak∧(ce x.S i).Val.Fields = []∧(ce x.S i).Val.Strong=0)) (by omega) (λi hi=>?_) (by simp) (λhall=>⟨true,rfl,by simp only[true_iff];exact λi hi=>hall i hi⟩) (λhno=>⟨false,rfl,by simp only[Bool.false_eq_true,false_iff];exact λq=>hno λi hi=>q i hi⟩)
 have hc:=hR.cell i hi;simp only[Int.ofNat_lt,hi,decide_true,if_true];rw[show (hO x).S=sO x.S from rfl,d0v hi,d4l];dsimp only;by_cases ht:Th (ce x.S i)
 ·rw[if_neg (by unfold Th at ht;simp only[Bool.and_eq_true,bne_iff_ne,ne_eq];omega)]
  unfold b0E;rw[a5a,if_pos ⟨by omega,by omega,hc.2.2.1,by omega⟩,d4l,d4l,show (hO x).Cells=x.Cells.map wcR from rfl,c5S x.Cells hl,d4l]
  by_cases g:(ce x.S i).Val.Weak=(nmg x.Cells (1+(i:Int)+32*(ce x.S i).Gen):Int)∧((ce x.S i).State=2→1≤(ce x.S i).Val.Weak∧(ce x.S i).Val.Fields = []∧(ce x.S i).Val.Strong=0)
  ·rw[if_neg,k8];·exact⟨_,rfl,.inl ⟨λ_=>g,rfl⟩⟩
   ·obtain⟨g1,g2⟩:=g;simp only[Bool.or_eq_true,Bool.and_eq_true,bne_iff_ne,ne_eq,beq_iff_eq,decide_eq_true_eq,not_or,not_and,Decidable.not_not];refine⟨g1,λq=>?_⟩;obtain⟨a,b,c⟩:=g2 q;rw[b];exact⟨⟨by omega,by simp⟩,c⟩
  ·rw[if_pos];·exact⟨_,rfl,.inr ⟨λq=>g (q ht),rfl⟩⟩
   ·simp only[Bool.or_eq_true,Bool.and_eq_true,bne_iff_ne,ne_eq,beq_iff_eq,decide_eq_true_eq];by_cases g1:(ce x.S i).Val.Weak=(nmg x.Cells (1+(i:Int)+32*(ce x.S i).Gen):Int)
    ·right;refine Classical.byContradiction λq=>g ⟨g1,λq2=>?_⟩;have q:¬(((ce x.S i).Val.Weak<1∨((ce x.S i).Val.Fields.length:Int) > 0)∨¬(ce x.S i).Val.Strong=0):=λq3=>q ⟨q2,q3⟩;refine⟨by omega,List.eq_nil_of_length_eq_zero (by omega),by omega⟩
    ·exact .inl g1
 ·rw[if_pos (by unfold Th at ht;simp only[Bool.and_eq_true,bne_iff_ne,ne_eq];omega),k8]
  exact⟨_,rfl,.inl ⟨λq=>absurd q ht,rfl⟩⟩
omit hR in
theorem b5e (l:List Int) (hl:l.length≤1000):lp (S:=Int × (List Int)) (E:=(List Int)) (λ((s17,s18):Int × (List Int))=>
   if (decide (s17<(l.length:Int))) then
     (ix l s17).bind λv25=>
     if (v25 != 0) then
      (app 8 s18 [v25]).bind λv26=>
      some (.inl (x6 (s17+1),v26))
     else
     some (.inl (x6 (s17+1),s18))
   else
   some (.inr s18)) (0,[])=some (nz l):=by
 rw[P7 l (λb x=>if (x != 0)=true then b ++ [x] else b) id (λk b=>b.length≤k) (by omega) (by simp) (λk hk b hI=>?_) (λb _=>by simp)]
 ·rw[foldl_filter];rfl
 ·simp only[Int.ofNat_lt,hk,decide_true,if_true,o8 hk,d4l];rw[k8];by_cases c:(l[k] != 0)=true
  ·rw[if_pos c,if_pos c,C6 (by omega) (by simp;omega),d4l]
   exact⟨rfl,by simp;omega⟩
  ·rw[if_neg c,if_neg c];exact⟨rfl,by omega⟩
omit hR in
theorem b4a (hl:x.Roots.length≤1000) (hq:x.Q.L.length≤1000):(otr x).length≤2000:=by
 unfold otr b2P;rw[List.length_append,List.length_map];have:=c1o x.Roots;have:(x.Q.L.filter (·.Kind==1)).length≤x.Q.L.length:=List.length_filter_le ..
 omega
omit hR in
theorem c8C (hl:x.Roots.length≤1000) (hq:x.Q.L.length≤1000):a9o (hO x)=some (otr x):=by
 unfold a9o;simp only[jn];rw[show (hO x).Roots=x.Roots from rfl,show lp _ _=_ from b5e x.Roots hl,d4l,show a8u (hO x).Q=some (b2P x.Q) from d07 hq,d4l];have:=b4a hl hq;unfold otr at this ⊢;rw[List.length_append] at this;rw[C6 (by omega) (by omega)]
 rfl
omit hR in
theorem c59 (hl:x.Roots.length≤1000) (hq:x.Q.L.length≤1000):a6Q x=some (otr x):=by
 unfold a6Q;simp only[jn];rw[show lp _ _=_ from b5e x.Roots hl,d4l,show a6p x.Q=some (b2P x.Q) from d1s hq,d4l];have:=b4a hl hq;unfold otr at this ⊢;rw[List.length_append] at this;rw[C6 (by omega) (by omega)]
 rfl
omit hR in
theorem b9o:b6C x.S x.T (otr x)↔a1r x []:=by
 constructor
 ·intro h k hk hlt;have:=h k hk hlt;unfold rst inr at this;rw[if_pos hk] at this;rw[Q3];unfold nms;omega
 ·intro h k hk hlt;have:=h k hk hlt;rw[Q3] at this;unfold nms at this;unfold rst inr;rw[if_pos hk];omega
end
theorem b9x(x:Hp)(hB:HB x)(hc:x.S.S.Cells.length≤1000)(hr:x.Roots.length≤1000)(hl:x.Cells.length≤1000)(ht:x.T.length≤1000)(hq:x.Q.L.length≤1000):∃b,a9p (hO x)=some b∧(b=true↔S9 x):=by
 unfold a9p;obtain⟨b1,e1,h1⟩:=c7d (sO x.S) (by rw[B2];exact hc)
 obtain⟨b2,e2,h2⟩:=c4n x.T ht;rw[show (hO x).S=sO x.S from rfl,e1,d4l,show (hO x).T=x.T.map M1 from rfl,e2];have hno:∀ {P:Prop},¬P→(false=true↔P):=λq=>by simp[q]
 cases b1
 ·refine⟨false,by simp[p7],hno λq=>?_⟩
  have:=h1.2 (y4.2 q.sh.sr);cases this
 ·have hR:=y4.1 (h1.1 rfl);cases b2
  ·refine⟨false,by simp[p7],hno λq=>?_⟩
   have:=h2.2 q.sh.hr;cases this
  ·have hT:=h2.1 rfl;simp only[Bool.not_true,beq_self_eq_true,G9,d4l,Bool.or_self,Bool.false_or];by_cases hlen:x.Roots.length=6∧x.Cells.length=6
   ·rw[if_neg (by simp[hO];omega)]
    obtain⟨b3,e3,h3⟩:=c8Z hR hq hB.qb;rw[e3,d4l];cases b3
    ·refine⟨false,by simp[p7],hno λq=>?_⟩
     have:=h3.2 ⟨q.sh.tk,q.sh.td,q.sh.cap,q.sh.q30⟩;cases this
    ·obtain⟨t1,t2,t3,t4⟩:=h3.1 rfl;obtain⟨b4,e4,h4⟩:=c8m hR hT hB hr;simp only[beq_self_eq_true,G9,Bool.true_and];rw[e4,d4l];cases b4
     ·refine⟨false,by simp[p7],hno λq=>?_⟩
      have:=h4.2 ⟨q.sh.rt,q.sh.fl,q.sh.pr⟩;cases this
     ·obtain⟨n1,n2,n3⟩:=h4.1 rfl;obtain⟨b5,e5,h5⟩:=c7X hR hl hq hB.cb;simp only[beq_self_eq_true,G9,Bool.true_and];rw[e5,d4l];cases b5
      ·refine⟨false,by simp[p7],hno λq=>?_⟩
       have:=h5.2 q.sh.cl;cases this
      ·have c1:=h5.1 rfl;obtain⟨b6,e6,h6⟩:=c87 hR hl;simp only[beq_self_eq_true,G9,Bool.true_and];rw[e6,d4l];cases b6
       ·refine⟨false,by simp[p7],hno λq=>?_⟩
        have:=h6.2 q.wk;cases this
       ·have w1:=h6.1 rfl;simp only[beq_self_eq_true,G9,Bool.true_and];rw[c8C hr hq,d4l,c3R (y4.2 hR) hT hB.sb (by have:=b4a hr hq;omega),d4l]
        refine⟨_,rfl,?_⟩;rw[decide_eq_true_iff,b9o];exact⟨λq=>⟨⟨hR,hT,hlen.1,hlen.2,t3,t4,t1,t2,n1,n2,n3,c1⟩,w1,q⟩,λq=>q.fair⟩
   ·rw[if_pos (by simp[hO];omega)]
    exact⟨false,rfl,hno λq=>hlen ⟨q.sh.r6,q.sh.c6⟩⟩
end Go.Sh
namespace Go.Sh
theorem d2h{K V:Type}[BEq K](hr:∀a:K,(a==a)=true)(he:∀a b:K,(a==b)=true→a=b)(m:List (K × V))(k:K)(v:V)(k':K):B4 (r7 m k v) k'=if k'==k then some v else B4 m k':=by
 induction m with
 | nil=>simp[r7,B4]
 | cons p m ih=>
  unfold r7;by_cases h:(k==p.1)=true
  ·have:=he _ _ h;subst this;rw[if_pos h];unfold B4;by_cases h':(k'==p.1)=true
   ·simp[h']
   ·simp[h']
  ·rw[if_neg h];unfold B4;by_cases h':(k'==p.1)=true
   ·have:=he _ _ h';subst this;have:(p.1==k)≠true:=λq=>by
     have:=he _ _ q;subst this;exact h (hr _)
    simp[h',this]
   ·simp only[h',ih];simp
theorem c4x(a:g8):(a==a)=true:=by
 show ((a.Kind==a.Kind)&&((a.At==a.At)&&((a.Prog==a.Prog)&&true)))=true;simp
section
variable{x:Hp}(hx:S9 x)(hB:HB x)
include hx hB
theorem b5b:a0o x=some true:=by
 have hR:=hx.sh.sr;have r6:=hx.sh.r6;have h24:=a1Y (y4.2 hR);unfold a0o F6;rw[Q2 (by omega) (by omega),d4l]
 simp only[jn];rw[a9a (y4.2 hR),d4l];have key:∃e,lp (S:=Int × (List Int)) (E:=(List Int)) (λ((s16,s17):Int × (List Int))=>
   if (decide (s16<((lv x.S).length:Int))) then
    (ix (lv x.S) s16).bind λv20=>
    (y5 x.S v20).bind λv21=>
    (app 8 s17 v21.1.Fields).bind λv22=>
    some (.inl (x6 (s16+1),v22))
   else
   some (.inr s17)) (0,x.Roots)=some e∧(e.length≤200∧∀v∈e,v=0∨v∈lv x.S):=by
  refine a1X (lv x.S).length (λk (acc:List Int)=>acc.length≤6+4*k∧∀v∈acc,v=0∨v∈lv x.S) (λ(e:List Int)=>e.length≤200∧∀v∈e,v=0∨v∈lv x.S) (by omega) ⟨by omega,hx.sh.rt⟩ (λk acc hk hP=>?_) (λacc hP=>⟨acc,by simp,by omega,hP.2⟩)
  have hm:=List.getElem_mem hk;have hf:=(K8 hR hm).fl;left;refine⟨acc++(ob x.S (lv x.S)[k]).Fields,?_,by rw[List.length_append];omega,λv hv=>?_⟩
  ·simp only[Int.ofNat_lt,hk,decide_true,if_true,o8 hk,d4l];rw[a8m (y4.2 hR) hm,d4l];dsimp only;rw[C6 (by omega) (by omega),d4l,k8]
  ·rcases List.mem_append.1 hv with q | q
   ·exact hP.2 v q
   ·exact hx.sh.fl _ hm v q
 obtain⟨e,e1,e2⟩:=key;rw[show lp _ _=_ from e1,d4l];have:F8 e x=some true:=by
  unfold F8 a2r;simp only[jn];refine G2 e.length (λ_=>True) (by omega) trivial (λk hk _=>.inl ⟨?_,trivial⟩) (λ_=>⟨.inr (),by simp,rfl⟩)
  have hm:=e2.2 _ (List.getElem_mem hk);have hb:e[k]≤9223372036854775807:=by
   rcases hm with q | q
   ·omega
   ·have:=K1 hR q;omega
  simp only[Int.ofNat_lt,hk,decide_true,if_true,o8 hk,d4l];rw[a1m hR hb,d4l,d4l,decide_eq_true hm,if_neg (by simp),k8]
 rw[this];rfl
theorem b5g:a1U x=some true:=by
 have hR:=hx.sh.sr;have h8:=b0C hx.sh.hr.l8;unfold a1U;rw[c6f hx.sh.hr,d4l];have:C5 (prs x.T) x=some true:=by
  unfold C5 a2s;simp only[jn];refine G2 (prs x.T).length (λ_=>True) (by omega) trivial (λk hk _=>.inl ⟨?_,trivial⟩) (λ_=>⟨.inr (),by simp,rfl⟩)
  have hp:=a49.1 (List.getElem_mem hk);have hb:=hB.tb.has hp;have hl:=hx.sh.pr _ _ hp;simp only[Int.ofNat_lt,hk,decide_true,if_true,o8 hk,d4l];rw[b1t hR hb.1,d4l,decide_eq_true hl.1];simp only[beq_self_eq_true,G9];rw[b1t hR hb.2,d4l,d4l,decide_eq_true hl.2,if_neg (by simp),k8]
 rw[this];rfl
theorem b6y:a2S x=some true:=by
 have hR:=hx.sh.sr;have q30:=hx.sh.q30;have c6:=hx.sh.c6;unfold a2S;simp only[jn];refine Z4 x.Q.L.length (λk (m:List (g8 × Bool))=>∀t:g8,t.Prog=0→((B4 m t).getD false=true→∃j,j<k∧TkS (x.Q.L.getD j tz) t)) (by omega) (λt _ q=>by simp[B4] at q) (λk m hk hP=>.inl ?_) (λm hP=>⟨.inr m,by simp,rfl⟩)
 have hm:=List.getElem_mem hk;obtain⟨t1,t2,t3⟩:=hx.sh.tk _ hm;have hb:=hB.qb _ hm;have hno:(B4 m (⟨x.Q.L[k].Kind,x.Q.L[k].At,0⟩:g8)).getD false=false:=by
  rw[Bool.eq_false_iff];intro q;obtain⟨j,hj,hs⟩:=hP ⟨x.Q.L[k].Kind,x.Q.L[k].At,0⟩ rfl q;have hj1:j<x.Q.L.length:=by omega
  rw[F1 hj1] at hs;exact List.pairwise_iff_getElem.1 hx.sh.td j k hj1 hk hj hs
 have hfor:a1W x x.Q.L[k]=some true:=by
  unfold a1W;rcases t3 with ⟨a,b,c⟩ | ⟨a,b,c⟩
  ·rw[if_pos (by simpa using a),a8m (y4.2 hR) b,d4l,c]
   rfl
  ·rw[if_neg (by simp[a]),if_pos (by simpa using a)]
   obtain⟨n,hn⟩:∃n:Nat,x.Q.L[k].At=n:=⟨x.Q.L[k].At.toNat,by omega⟩
   have hnl:n<x.Cells.length:=by omega
   have e1:((decide (x.Q.L[k].At≥0))&&(decide (x.Q.L[k].At<(x.Cells.length:Int))))=true:=by simp;omega
   rw[e1];simp only[beq_self_eq_true,G9,Bool.true_and];rw[hn,o8 hnl,d4l];have:x.Cells[n].Intact=false:=by
    rw[Bool.eq_false_iff];intro q;have:=((hx.sh.cl n hnl).2.2.2.2 q).2;rw[Bool.eq_false_iff] at this;exact this (c61.2 ⟨_,hm,a,hn⟩)
   rw[this];rfl
 refine⟨r7 m (⟨x.Q.L[k].Kind,x.Q.L[k].At,0⟩:g8) true,?_,λt ht q=>?_⟩
 ·simp only[Int.ofNat_lt,hk,decide_true,if_true,o8 hk,d4l];rw[hno,decide_eq_true (show x.Q.L[k].Prog≥0 from t1),decide_eq_true (show x.Q.L[k].Prog<6 by omega)]
  simp only[Bool.not_false,Bool.and_self,beq_self_eq_true,G9];rw[hfor,d4l,if_neg (by simp),k8]
 ·rw[d2h c4x g8.beq_eq] at q;by_cases e:(t==(⟨x.Q.L[k].Kind,x.Q.L[k].At,0⟩:g8))=true
  ·have:=g8.beq_eq _ _ e;refine⟨k,by omega,?_⟩
   rw[F1 hk,this];exact⟨rfl,rfl⟩
  ·rw[if_neg e] at q;obtain⟨j,hj,hs⟩:=hP t ht q;exact⟨j,by omega,hs⟩
theorem b6e:a2Q x=some true:=by
 have hR:=hx.sh.sr;have c6:=hx.sh.c6;unfold a2Q;have:D6 x.Cells x=some true:=by
  unfold D6 a3s;simp only[jn];refine G2 x.Cells.length (λ_=>True) (by omega) trivial (λk hk _=>.inl ⟨?_,trivial⟩) (λ_=>⟨.inr (),by simp,rfl⟩)
  obtain⟨a1,a2,a3,a4,a5⟩:=hx.sh.cl k hk;have hb:=hB.cb _ (List.getElem_mem hk);simp only[Int.ofNat_lt,hk,decide_true,if_true,o8 hk,d4l];rw[if_neg (by simp;omega)]
  by_cases hin:x.Cells[k].Intact=true
  ·rw[if_pos hin,b1t hR hb,d4l,d4l,decide_eq_true (a5 hin).1,if_neg (by simp),k8]
  ·rw[if_neg hin];by_cases h0:x.Cells[k].Target=0
   ·have hno:∀i,¬V3 x.S x.Cells[k].Target i:=λi q=>by have:=q.rng hR;omega
    rw[a37 hR hb hno,d4l,d4l,h0,if_neg (by simp),k8]
   ·obtain⟨p,hp⟩:=a4 h0;rw[a3J hR hp,d4l,d4l,if_neg (by simp),k8]
 rw[this];rfl
theorem b6h:a2R x=some true:=by
 have hR:=hx.sh.sr;have c6:=hx.sh.c6;have h24:=hR.len;have l9:=hR.l9;unfold a2R;simp only[jn];refine G2 x.S.S.Cells.length (λ_=>True) (by omega) trivial (λk hk _=>.inl ⟨?_,trivial⟩) (λ_=>⟨.inr (),by simp,rfl⟩)
 have hc:=hR.cell k hk;simp only[Int.ofNat_lt,hk,decide_true,if_true];rw[b6W hk,d4l];by_cases ht:Th (ce x.S k)
 ·rw[if_neg (by unfold Th at ht;simp only[Bool.and_eq_true,bne_iff_ne,ne_eq];omega),a4c (by omega) (by omega) hc.2.2.1 (by omega),d4l,c35 x.Cells (by omega),d4l]
  obtain⟨g1,g2⟩:=hx.wk k hk ht;rw[if_neg (by simpa using g1),if_neg,k8]
  simp only[Bool.or_eq_true,Bool.and_eq_true,bne_iff_ne,ne_eq,beq_iff_eq,decide_eq_true_eq,not_or,not_and,Decidable.not_not];intro q;obtain⟨a,b,c⟩:=g2 q;rw[b];exact⟨⟨by omega,by simp⟩,c⟩
 ·rw[if_pos (by unfold Th at ht;simp only[Bool.and_eq_true,bne_iff_ne,ne_eq];omega),k8]
open Classical in
theorem b3P:a6R x=some true:=by
 have hR:=hx.sh.sr;have r6:=hx.sh.r6;have q30:=hx.sh.q30;unfold a6R;have hsh:a1V x=some true:=by
  unfold a1V;have hsr:a3i x.S=some true:=by
   rw[b8P x.S (by have:=hR.len;omega)]
   congr 1;rw[decide_eq_true_iff];exact y4.2 hR
  obtain⟨b,b1,b2⟩:=c3Z x.T (by have:=hx.sh.hr.l8;omega)
  rw[show b2h=some ⟨[],30⟩ from rfl,d4l,hsr,d4l];simp only[beq_self_eq_true,G9,Bool.true_and];rw[b1,d4l,b2.2 hx.sh.hr,hx.sh.r6,hx.sh.c6,hx.sh.cap];have:decide ((x.Q.L.length:Int)≤30)=true:=by simp;omega
  rw[this];rfl
 rw[hsh,d4l,if_neg (by simp)]
 simp only[jn];have f1:a0H (some 122) x=some true:=by
  unfold a0H;rw[if_pos rfl];exact b5b hx hB
 have f2:a0H (some 123) x=some true:=by
  unfold a0H;rw[if_neg (by decide),if_pos rfl]
  exact b5g hx hB
 have f3:a0H (some 124) x=some true:=by
  unfold a0H;rw[if_neg (by decide),if_neg (by decide),if_pos rfl]
  exact b6y hx hB
 have f4:a0H (some 125) x=some true:=by
  unfold a0H;rw[if_neg (by decide),if_neg (by decide),if_neg (by decide),if_pos rfl]
  exact b6e hx hB
 have f5:a0H (some 126) x=some true:=by
  unfold a0H;rw[if_neg (by decide),if_neg (by decide),if_neg (by decide),if_neg (by decide),if_pos rfl]
  exact b6h hx hB
 refine G2 5 (λ_=>True) (by omega) trivial (λk hk _=>.inl ⟨?_,trivial⟩) (λ_=>⟨.inr (),by kernel_rfl,?_⟩)
 ·match k,hk with
  | 0,_=>
   refine (if_pos (by rfl)).trans ?_
   refine bnd (a:=some 122) (by kernel_rfl) ?_
   refine bnd f1 ?_;kernel_rfl
  | 1,_=>
   refine (if_pos (by rfl)).trans ?_
   refine bnd (a:=some 123) (by kernel_rfl) ?_
   refine bnd f2 ?_;kernel_rfl
  | 2,_=>
   refine (if_pos (by rfl)).trans ?_
   refine bnd (a:=some 124) (by kernel_rfl) ?_
   refine bnd f3 ?_;kernel_rfl
  | 3,_=>
   refine (if_pos (by rfl)).trans ?_
   refine bnd (a:=some 125) (by kernel_rfl) ?_
   refine bnd f4 ?_;kernel_rfl
  | 4,_=>
   refine (if_pos (by rfl)).trans ?_
   refine bnd (a:=some 126) (by kernel_rfl) ?_
   refine bnd f5 ?_;kernel_rfl
 ·dsimp only;rw[c59 (by omega) (by omega),d4l,c74 (y4.2 hR) hx.sh.hr hB.sb (by have:=b4a (x:=x) (by omega) (by omega);omega),d4l,decide_eq_true (b9o.2 hx.fair)]
end
end Go.Sh
namespace Go.Sh
theorem d1g{l:List l5}(h:l.length≤100000):b1S l l=some true:=by
 unfold b1S;rw[if_neg (by simp)]
 simp only[jn];refine G2 l.length (λ_=>True) (by omega) trivial (λk hk _=>.inl ⟨?_,trivial⟩) (λ_=>⟨.inr (),by simp,rfl⟩)
 rw[if_pos (by simpa using hk),o8 hk,d4l,d4l,if_neg (by simp),k8 (by omega)]
def SL(x:Hp):Prop:=∀k∈lv x.S,(ob x.S k).Strong≤9223372036854775807
theorem SB.sl{x:Hp}(hR:SR x.S)(h:SB x.S):SL x:=λk hk=>c4w hR h k hk
theorem d1W{x:Hp}(hx:S9 x)(hS:SL x):HB x:=by
 have hR:=hx.sh.sr;have bd:∀v,v=0∨v∈lv x.S→v≤9223372036854775807:=λv q=>by
  rcases q with q | q
  ·omega
  ·have:=K1 hR q;omega
 refine⟨d2F.2 λi hi=>?_,c9n.2 λi hi v hv=>?_,λv hv=>bd v (hx.sh.rt v hv),λc hc=>?_,λp hp=>?_,λt ht=>?_⟩
 ·by_cases t:Th (ce x.S i)
  ·rcases t with t | t
   ·have q:At x.S (1+(i:Int)+32*(ce x.S i).Gen) i:=⟨hi,t,rfl⟩;have:=hS _ ((a4j hR).2 ⟨i,q⟩);rwa [P5 hR q] at this
   ·have:=((hx.wk i hi (.inr t)).2 t).2.2;omega
  ·have:=(hR.no i hi t).2.1;simp only[oo] at this;omega
 ·by_cases t:Th (ce x.S i)
  ·rcases t with t | t
   ·have q:At x.S (1+(i:Int)+32*(ce x.S i).Gen) i:=⟨hi,t,rfl⟩;have hm:=(a4j hR).2 ⟨i,q⟩;exact bd v (hx.sh.fl _ hm v (by rw[P5 hR q];exact hv))
   ·rw[((hx.wk i hi (.inr t)).2 t).2.1] at hv;cases hv
  ·have:=(hR.no i hi t).2.2.2.2.2;simp only[oo] at this;rw[List.eq_nil_of_length_eq_zero this] at hv;cases hv
 ·obtain⟨i,hi,rfl⟩:=List.getElem_of_mem hc;by_cases e:x.Cells[i].Target=0
  ·omega
  ·obtain⟨p,hp⟩:=(hx.sh.cl i hi).2.2.2.1 e;have:=hp.rng hR;omega
 ·obtain⟨i,hi,rfl⟩:=List.getElem_of_mem hp;have e:pt x.T i=x.T[i]:=by
   unfold pt;rw[List.getD_eq_getElem?_getD,List.getElem?_eq_getElem hi];rfl
  by_cases s1:(pt x.T i).State=1
  ·obtain⟨a,b⟩:=hx.sh.pr (pt x.T i).Key (pt x.T i).Val ⟨i,⟨hi,s1,rfl⟩,rfl⟩;rw[e] at a b;exact⟨bd _ (.inr a),bd _ (.inr b)⟩
  ·obtain⟨a,b⟩:=(hx.sh.hr.st i hi).2 s1;rw[e] at a b;omega
 ·obtain⟨_,_,q | q⟩:=hx.sh.tk t ht;·exact bd _ (.inr q.2.1)
  ·omega
theorem c9E{s:a7}(hR:SR s):Sm s:=by
 refine⟨by have:=hR.len;omega,λi hi=>?_⟩
 by_cases t:Th (ce s i)
 ·have:=(hR.ok i hi t).fl;rw[F0 hi] at this;omega
 ·have:=(hR.no i hi t).2.2.2.2.2;simp only[oo] at this;rw[F0 hi] at this;omega
theorem c6D{x:Hp}(h:HpS x):a8v (hO x) (hO x)=some true:=by
 have sm:=c9E h.sr;have h1:=h.r6;have h2:=h.c6;have h3:=h.hr.l8;have h4:=h.q30;unfold a8v;rw[show (hO x).S=sO x.S from rfl,c3u _ (by rw[B2];have:=sm.1;omega) (λi hi=>by
  have:=sm.2 i (by rw[B2] at hi;exact hi)
  simp only[sO,List.getElem_map,cO,oo];omega),d4l]
 simp only[beq_self_eq_true,G9,Bool.true_and];rw[show (hO x).Roots=x.Roots from rfl,c1g (by omega),d4l]
 simp only[beq_self_eq_true,G9,Bool.true_and];rw[d1g (by simp[hO];omega),d4l]
 simp only[beq_self_eq_true,G9,Bool.true_and];rw[c4o (by simp[hO];omega),d4l]
 simp only[beq_self_eq_true,G9,Bool.true_and];rw[show (hO x).Q=tqR x.Q from rfl,d04 (by omega),d4l]
theorem c8a(c:Int):Z9 c≤12:=by unfold Z9;split <;> (try split) <;> omega
theorem c71{c:Int}(h:c≤9223372036854775807):b0r c≤9223372036854775807:=by unfold b0r;split <;> (try split) <;> omega
theorem SL.of{x y:Hp}(h:SL x)(hl:lv y.S=lv x.S)(hs:∀k∈lv x.S,(ob y.S k).Strong=(ob x.S k).Strong):SL y:=λk hk=>by
 rw[hl] at hk;rw[hs k hk];exact h k hk
theorem SL.st{x:Hp}(h:SL x)(hR:SR x.S)(v:Int){f:Int→Int}(hf:∀c,0≤c→0≤f c)(hb:∀c,c≤9223372036854775807→f c≤9223372036854775807):SL (stO x v f):=λk hk=>by
 rw[(G7 hR v hf).lv] at hk;rw[b8O hR v hf hk];split;·exact hb _ (h k hk)
 ·exact h k hk
theorem SL.C3{x:Hp}(h:SL x)(hR:SR x.S)(v:Int):SL (C3 x v):=h.st hR v (λc=>E3) λc _=>by have:=c8a c;omega
theorem SL.rls{x:Hp}(h:SL x)(hR:SR x.S)(v:Int):SL (R8 x v):=h.st hR v (λc=>Q9) λc hc=>c71 hc
theorem c1O{x:Hp}(hR:SR x.S)(v:Int):SR (R8 x v).S:=(G7 hR v λc=>Q9).sr
theorem a4x{x:Hp}(hR:SR x.S)(h:SL x)(r:Nat)(v:Int):SL (H0 x r v):=by
 unfold H0;exact SL.rls (x:=wR (C3 x v) (x.Roots.set r v)) (h.C3 hR v) (a3x hR v) _
theorem c3T{x:Hp}(hR:SR x.S)(hS:SL x){h:Int}(hh:h∈lv x.S)(k:Nat)(v:Int):SL (a1N x h k v):=by
 have kin:=G7 hR v (f:=Z9) λc=>E3;have hR1:SR (C3 x v).S:=kin.sr;have hl1:h∈lv (C3 x v).S:=by rw[show lv (C3 x v).S=lv x.S from kin.lv];exact hh
 have hof:(ob (C3 x v).S h).Fields=(ob x.S h).Fields:=by
  obtain⟨m,e⟩:=kin.ob h (by have:=K1 hR hh;omega)
  show (ob (stO x v Z9).S h).Fields=_;rw[e]
 have ok:=K8 hR1 hl1;have ho:OkO (C3 x v).S (flg (ob (C3 x v).S h) ((ob x.S h).Fields.set k v)):=⟨ok.s1,ok.s2,ok.st,ok.wk,ok.p1,ok.p2,by have:=ok.fl;rw[hof] at this;simpa using this⟩
 have sr2:=a1p (o:=flg (ob (C3 x v).S h) ((ob x.S h).Fields.set k v)) hR1 hl1 rfl ho;unfold a1N;refine SL.rls (x:=wS (C3 x v) (seO (C3 x v).S h (flg (ob (C3 x v).S h) ((ob x.S h).Fields.set k v)))) ?_ sr2 _;refine (hS.C3 hR v).of (a4z hR1 hl1 rfl ho) λj hj=>?_;dsimp only;rw[a3y (o:=flg (ob (C3 x v).S h) ((ob x.S h).Fields.set k v)) hR1 hl1 rfl ho (by have:=K1 hR1 hj;omega)]
 split;·rename_i e;rw[e]
 ·rfl
theorem c6c{x:Hp}(hR:SR x.S)(hS:SL x)(v:Int)(t:Tb)(old:Int):SL (a7D x v t old):=by
 unfold a7D;exact SL.rls (x:=wT (C3 x v) t) (hS.C3 hR v) (a3x hR v) _
theorem d0B{x:Hp}(hR:SR x.S)(hS:SL x)(h:Int){d:Int}(hd:V3 x.S h (D4 h)→0≤(ce x.S (D4 h)).Val.Weak+d):SL (mkd x h d):=by
 unfold mkd;split
 ·rename_i q;exact hS.of (a6Z hR q.1 q.2.1 (hd q)).lv λk hk=>a60 hR q.1 q.2.1 (hd q) hk
 ·exact hS
theorem c3q{x:Hp}(hR:SR x.S)(hS:SL x)(h:Int)(hd:V3 x.S h (D4 h)→1≤(ce x.S (D4 h)).Val.Weak):SL (a8P x h):=by
 unfold a8P;split
 ·rename_i q;have hd:=hd q;have kn:=a6Z (d:=-1) hR q.1 q.2.1 (by omega)
  have s1:SL (wS x (mkA x.S (D4 h) (-1))):=hS.of kn.lv λk hk=>a60 hR q.1 q.2.1 (by omega) hk
  split
  ·rename_i c;have hi1:D4 h<(mkA x.S (D4 h) (-1)).S.Cells.length:=by rw[kn.len];exact q.1
   have hce:ce (mkA x.S (D4 h) (-1)) (D4 h)=⟨(ce x.S (D4 h)).State,(ce x.S (D4 h)).Gen,wkg (ce x.S (D4 h)).Val ((ce x.S (D4 h)).Val.Weak + -1)⟩:=by
    rw[a3v hR q.1 q.2.1,if_pos rfl]
   have h2:(ce (mkA x.S (D4 h) (-1)) (D4 h)).State=2:=by rw[hce];exact c.1
   exact s1.of (b7O kn.sr hi1 h2) λk hk=>by
    dsimp only;rw[b7P kn.sr hi1 h2 hk]
  ·exact s1
 ·exact hS
theorem c6V{x:Hp}(hx:S9 x)(hS:SL x){n:Nat}(hn:n<6)(h call:Int):SL (a3k x n h call):=by
 have hR:=hx.sh.sr;have hnl:n<x.Cells.length:=by have:=hx.sh.c6;omega
 have ok:∀k i,V3 x.S k i→0≤(ce x.S i).Val.Weak:=λk i q=>(hR.ok i q.1 q.2.1).wk;have tw:∀i,V3 x.S (tgt x n) i→1≤(ce x.S i).Val.Weak:=λi q=>by
  have htg:tgt x n=x.Cells[n].Target:=by
   unfold tgt;rw[List.getD_eq_getElem?_getD,List.getElem?_eq_getElem hnl];rfl
  have r:=q.rng hR;have p:=b1D hnl (by rw[←htg];omega)
  rw[←htg,q.2.2] at p;have:=(hx.wk i q.1 q.2.1).1;omega
 unfold a3k;have s1:SL (mkd (wC x (x.Cells.set n (wcl h call))) h 1):=d0B (x:=wC x (x.Cells.set n (wcl h call))) hR hS h λq=>by
  have:=ok _ _ q;dsimp only;omega
 by_cases q:V3 x.S h (D4 h)
 ·have e:mkd (wC x (x.Cells.set n (wcl h call))) h 1=wS (wC x (x.Cells.set n (wcl h call))) (mkA x.S (D4 h) 1):=by
   unfold mkd;rw[if_pos q]
  have hd:=ok _ _ q;have kn:=a6Z (d:=1) hR q.1 q.2.1 (by omega)
  rw[e] at s1 ⊢;refine c3q kn.sr s1 _ λq2=>?_;dsimp only at q2 ⊢;have q3:=(kn.ad _ _).1 q2;have:=tw _ q3;rw[a3v hR q.1 q.2.1];split
  ·rename_i e2;rw[e2] at this;show 1≤(ce x.S (D4 h)).Val.Weak+1;omega
  ·exact this
 ·have e:mkd (wC x (x.Cells.set n (wcl h call))) h 1=wC x (x.Cells.set n (wcl h call)):=by
   unfold mkd;rw[if_neg q]
  rw[e] at s1 ⊢;exact c3q (x:=wC x (x.Cells.set n (wcl h call))) hR s1 _ λq2=>tw _ q2
section
variable{x:Hp}(hx:S9 x)(hS:SL x)
include hx hS
end
end Go.Sh
namespace Go.Sh
end Go.Sh
namespace Go.Sh
end Go.Sh
namespace Go.Sh
def b3h(x:Hp):Prop:=Sm x.S∧x.Roots.length≤20∧x.Cells.length≤20∧x.T.length≤20∧x.Q.L.length≤60
instance(x:Hp):Decidable (b3h x):=by unfold b3h;infer_instance
theorem HpS.d3E{x:Hp}(h:HpS x):b3h x:=by
 have h1:=h.r6;have h2:=h.c6;have h3:=h.hr.l8;have h4:=h.q30;exact⟨c9E h.sr,by omega,by omega,by omega,by omega⟩
end Go.Sh
namespace Go.Sh
def c77:Hp:=⟨⟨⟨[],0⟩,0⟩,[],[],[],⟨[],0⟩⟩
theorem b5N(x:Hp)(h:Int)(f:Int→Int):(stO x h f).Roots=x.Roots∧(stO x h f).Cells=x.Cells∧(stO x h f).T=x.T∧(stO x h f).Q=x.Q:=by
 unfold stO;split <;> exact⟨rfl,rfl,rfl,rfl⟩
theorem a4w(x:Hp)(r:Nat)(h:Int):(H0 x r h).Roots=x.Roots.set r h∧(H0 x r h).Cells=x.Cells∧(H0 x r h).T=x.T∧(H0 x r h).Q=x.Q:=by
 obtain⟨a,b,c,d⟩:=b5N (wR (C3 x h) (x.Roots.set r h)) (x.Roots.getD r 0) b0r;obtain⟨a',b',c',d'⟩:=b5N x h Z9;exact⟨a,b.trans b',c.trans c',d.trans d'⟩
section
variable{x:Hp}(hB:HB x)
include hB
end
end Go.Sh
namespace Go.Sh
abbrev ded(o:k9):k9:=⟨o.Serial,0,o.Weak,o.Prog,o.Started,[]⟩
def gnC(s:a7)(i:Nat):b8:=
 if (ce s i).Val.Weak=0 then (if (ce s i).Gen=s.S.Last then ⟨3,(ce s i).Gen,z0⟩ else ⟨0,(ce s i).Gen+1,z0⟩) else ⟨2,(ce s i).Gen,ded (ce s i).Val⟩
def gnA(s:a7)(d:Int):a7:=H4 s (D4 d) (gnC s (D4 d))
def gnL(s:a7)(ds:List Int):a7:=ds.foldl gnA s
theorem d0i(s:a7)(i:Nat):(gnC s i).State≠1:=by
 unfold gnC;split;·split <;> simp
 ·simp
theorem c1u{s:a7}(hR:SR s){a b:Int}(ha:a∈lv s)(hb:b∈lv s)(h:a≠b):D4 a≠D4 b:=λe=>by
 have h1:=z6 hR ha;have h2:=z6 hR hb;rw[e] at h1;exact h (h1.2.2.trans h2.2.2.symm)
section
variable{s:a7}(hR:SR s){d:Int}(hd:d∈lv s)
include hR hd
theorem c1c:SR (gnA s d):=by
 have q:=z6 hR hd;have hc:=hR.cell _ q.1;have ho:=hR.ok _ q.1 (.inl q.2.1);have no:b0Q (oo z0):=⟨rfl,rfl,rfl,rfl,rfl,rfl⟩;unfold gnA gnC;split
 ·split;·exact hR.H4 q.1 ⟨by simp,by simp,hc.2.2.1,hc.2.2.2⟩ (λ_=>no) (λq=>absurd q (by unfold Th;simp))
  ·refine hR.H4 q.1 ⟨by simp,by simp,?_,?_⟩ (λ_=>no) (λq=>absurd q (by unfold Th;simp))
   ·show 0≤(ce s (D4 d)).Gen+1;omega
   ·show (ce s (D4 d)).Gen+1≤s.S.Last;omega
 ·exact hR.H4 q.1 ⟨by simp,by simp,hc.2.2.1,hc.2.2.2⟩ (λq=>absurd (.inr rfl) q) (λ_=>⟨⟨ho.s1,ho.s2,Int.le_refl _,ho.wk,ho.p1,ho.p2,Nat.zero_le _⟩,.inl q.2.1,rfl⟩)
theorem c5r(j:Nat):ce (gnA s d) j=if j=D4 d then gnC s (D4 d) else ce s j:=L3 (z6 hR hd).1 _ j
theorem d0g:lv (gnA s d)=(lv s).filter λh=>decide (h≠d):=by
 have hS:=c1c hR hd;unfold gnA at hS ⊢;have hc:=d0i s (D4 d);rw[c2Q hR (z6 hR hd).1 hc hS];refine List.filter_congr λh hh=>decide_eq_decide.2 ⟨λq e=>q (by rw[e]),λq=>c1u hR hh hd q⟩
theorem d0h{k:Int}(hk:k∈lv s)(hne:k≠d):ob (gnA s d) k=ob s k:=by
 have hS:=c1c hR hd;unfold gnA at hS ⊢;exact c2W hR (z6 hR hd).1 hS hk (c1u hR hk hd hne)
end
structure Gn (s s':a7) (ds:List Int):Prop where
 sr:SR s'
 len:s'.S.Cells.length=s.S.Cells.length
 last:s'.S.Last=s.S.Last
 ser:s'.Serial=s.Serial
 lv:lv s'=(lv s).filter λh=>decide (h∉ds)
 ob:∀k∈Sh.lv s,k∉ds→ob s' k=ob s k
 ce:∀j,ce s' j=if j∈ds.map D4 then gnC s j else ce s j
theorem a3r:∀(ds:List Int) {s:a7} (hR:SR s),ds.Nodup→(∀d∈ds,d∈lv s)→Gn s (gnL s ds) ds
 | [],s,hR,_,_=>⟨hR,rfl,rfl,rfl,(List.filter_eq_self.2 (λa _=>by simp)).symm,λ_ _ _=>rfl,λj=>by simp[gnL]⟩
 | d::ds,s,hR,hn,hm=>by
  rw[List.nodup_cons] at hn;have hd:=hm d (List.mem_cons_self ..);have hlv:=d0g hR hd;have hm':∀e∈ds,e∈lv (gnA s d):=λe he=>by
   rw[hlv,List.mem_filter,decide_eq_true_iff];exact⟨hm e (List.mem_cons_of_mem _ he),λq=>hn.1 (q▸he)⟩
  have ih:=a3r ds (c1c hR hd) hn.2 hm';refine⟨ih.sr,ih.len.trans (X4 ..),ih.last,ih.ser,?_,λk hk hne=>?_,λj=>?_⟩
  ·show lv (gnL (gnA s d) ds)=_;rw[ih.lv,hlv,List.filter_filter];refine List.filter_congr λh hh=>?_;rw[Bool.eq_iff_iff];simp only[Bool.and_eq_true,decide_eq_true_iff,List.mem_cons,not_or];exact⟨λq=>⟨q.2,q.1⟩,λq=>⟨q.2,q.1⟩⟩
  ·show ob (gnL (gnA s d) ds) k=_;rw[List.mem_cons,not_or] at hne;rw[ih.ob k (by rw[hlv,List.mem_filter,decide_eq_true_iff];exact⟨hk,hne.1⟩) hne.2,d0h hR hd hk hne.1]
  ·show ce (gnL (gnA s d) ds) j=_;have hg:∀e∈ds,D4 e≠D4 d:=λe he=>c1u hR (hm e (List.mem_cons_of_mem _ he)) hd λq=>hn.1 (q▸he);rw[ih.ce];by_cases h1:j∈ds.map D4
   ·obtain⟨e,he,rfl⟩:=List.mem_map.1 h1;rw[if_pos h1,if_pos (by rw[List.map_cons];exact List.mem_cons_of_mem _ h1)]
    unfold gnC;rw[c5r hR hd,if_neg (hg e he)];rfl
   ·rw[if_neg h1,c5r hR hd,List.map_cons];by_cases h2:j=D4 d
    ·subst h2;rw[if_pos rfl,if_pos (List.mem_cons_self ..)]
    ·rw[if_neg h2,if_neg];rw[List.mem_cons];exact λq=>q.elim h2 h1
theorem b7h{α:Type}(p:α→Bool)(f:α→Nat):∀l:List α,(l.map f).sum=((l.filter p).map f).sum+((l.filter λx => !p x).map f).sum
 | []=>rfl
 | x::l=>by
  rw[List.map_cons,List.sum_cons,b7h p f l,List.filter_cons,List.filter_cons];cases p x <;> simp <;> omega
theorem c0s(f:Int→List Int)(y:Int):∀l:List Int,V2 (l.flatMap f) y=(l.map λx=>V2 (f x) y).sum
 | []=>Q3 y
 | x::l=>by rw[List.flatMap_cons,L1,c0s f y l,List.map_cons,List.sum_cons]
theorem Gn.inn{s s':a7}{ds:List Int}(hR:SR s)(hn:ds.Nodup)(hm:∀d∈ds,d∈Sh.lv s)(g:Gn s s' ds)(y:Int):inn s' y+V2 (ds.flatMap (outs s)) y=inn s y:=by
 unfold Sh.inn;rw[g.lv,b7h (λh=>decide (h∉ds)) (λx=>V2 (outs s x) y) (Sh.lv s),c0s];have h1:((Sh.lv s).filter λh=>decide (h∉ds)).map (λx=>V2 (outs s' x) y)=((Sh.lv s).filter λh=>decide (h∉ds)).map λx=>V2 (outs s x) y:=List.map_congr_left λx hx=>by
  rw[List.mem_filter,decide_eq_true_iff] at hx;unfold Sh.outs;rw[g.ob x hx.1 hx.2]
 have h2:((Sh.lv s).filter λx => !decide (x∉ds)).Perm ds:=by
  rw[List.perm_ext_iff_of_nodup ((b46 (y4.2 hR)).filter _) hn];intro a;rw[List.mem_filter];simp only[decide_not,Bool.not_not,decide_eq_true_iff];exact⟨λq=>q.2,λq=>⟨hm a q,q⟩⟩
 rw[h1,(h2.map λx=>V2 (outs s x) y).sum_nat]
theorem b9L{L:List g8}(hd:L.Pairwise λa b=>¬(a.Kind=b.Kind∧a.At=b.At))(k:Int):((L.filter (·.Kind==k)).map (·.At)).Nodup:=by
 unfold List.Nodup;rw[List.pairwise_map];refine (hd.filter _).imp_of_mem λ{a b} ha hb h e=>?_;rw[List.mem_filter,beq_iff_eq] at ha hb;exact h ⟨ha.2.trans hb.2.symm,e⟩
theorem c0q{L:List g8}{m:List Int}(hd:L.Pairwise λa b=>¬(a.Kind=b.Kind∧a.At=b.At))(h:∀t∈L,(t.Kind=1∧t.At∈m)∨(t.Kind=2∧0≤t.At∧t.At≤5)):L.length≤m.length+6:=by
 have h1:L.length=(L.filter (·.Kind==1)).length+(L.filter (·.Kind==2)).length:=by
  rw[b1c (λt:g8=>t.Kind==1) L];congr 2;refine List.filter_congr λt ht=>?_;rcases h t ht with q | q
  ·simp[q.1]
  ·simp[q.1]
 have h2:=b1E (b9L hd 1) (m:=m) λa ha=>by
  obtain⟨t,ht,rfl⟩:=List.mem_map.1 ha;rw[List.mem_filter,beq_iff_eq] at ht;rcases h t ht.1 with q | q
  ·exact q.2
  ·omega
 have h3:=b1E (b9L hd 2) (m:=[0,1,2,3,4,5]) λa ha=>by
  obtain⟨t,ht,rfl⟩:=List.mem_map.1 ha;rw[List.mem_filter,beq_iff_eq] at ht;rcases h t ht.1 with q | q
  ·omega
  ·simp only[List.mem_cons,List.not_mem_nil,or_false];omega
 rw[List.length_map] at h2 h3;simp only[List.length_cons,List.length_nil] at h3;omega
theorem a7u{q:TQ}{w:Int}:wts q w=true↔∃t∈q.L,t.Kind=2∧t.At=w:=by
 unfold wts;rw[List.any_eq_true];simp
theorem b1A{q:TQ}{h:Int}:h∈b2P q↔∃t∈q.L,t.Kind=1∧t.At=h:=by
 unfold b2P;rw[List.mem_map];simp only[List.mem_filter,beq_iff_eq];exact⟨λ⟨t,⟨a,b⟩,c⟩=>⟨t,a,b,c⟩,λ⟨t,a,b,c⟩=>⟨t,⟨a,b⟩,c⟩⟩
abbrev cz:g7:=⟨0,false,0⟩
def a4f(ds:List Int)(c:g7):Bool:=c.Intact&&c.Target != 0&&decide (c.Target∈ds)
def a75(ds:List Int)(c:g7):g7:=if a4f ds c then ⟨c.Target,false,c.Call⟩ else c
def clr(l:List g7)(ds:List Int):List g7:=l.map (a75 ds)
def cls(l:List g7)(ds:List Int):List Nat:=(List.range l.length).filter λw=>a4f ds (l.getD w cz)&&decide (0≤(l.getD w cz).Call)
def clt(l:List g7)(ds:List Int):List g8:=(cls l ds).map λ(w:Nat)=>⟨2,(w:Int),(l.getD w cz).Call⟩
theorem b7x(ds:List Int)(c:g7):(a75 ds c).Target=c.Target∧(a75 ds c).Call=c.Call∧((a75 ds c).Intact=true↔c.Intact=true∧a4f ds c=false):=by
 unfold a75;cases h:a4f ds c
 ·rw[if_neg (by simp)]
  simp
 ·rw[if_pos rfl];simp
theorem c8n(l:List g7)(ds:List Int)(h:Int):nmg (clr l ds) h=nmg l h:=by
 unfold nmg clr;rw[List.countP_map];congr 1;funext c
 simp only[Function.comp_apply,(b7x ds c).1]
theorem a9b{l:List g7}{ds:List Int}{t:g8}:t∈clt l ds↔∃w,∃hw:w<l.length,t=⟨2,(w:Int),l[w].Call⟩∧a4f ds l[w]=true∧0≤l[w].Call:=by
 unfold clt cls;rw[List.mem_map];constructor
 ·rintro⟨w,hw,rfl⟩;rw[List.mem_filter,List.mem_range] at hw;obtain⟨h1,h2⟩:=hw;have e:l.getD w cz=l[w]:=by rw[List.getD_eq_getElem?_getD,List.getElem?_eq_getElem h1];rfl
  rw[e] at h2 ⊢;rw[Bool.and_eq_true,decide_eq_true_iff] at h2;exact⟨w,h1,rfl,h2.1,h2.2⟩
 ·rintro⟨w,hw,rfl,h2,h3⟩;have e:l.getD w cz=l[w]:=by rw[List.getD_eq_getElem?_getD,List.getElem?_eq_getElem hw];rfl
  refine⟨w,?_,by rw[e]⟩
  rw[List.mem_filter,List.mem_range,e,Bool.and_eq_true,decide_eq_true_iff];exact⟨hw,h2,h3⟩
theorem c3M(l:List g7)(ds:List Int):(clt l ds).Pairwise λa b=>¬(a.Kind=b.Kind∧a.At=b.At):=by
 unfold clt cls;rw[List.pairwise_map];refine (List.Pairwise.filter _ (List.nodup_range (n:=l.length))).imp λ{a b} h=>?_;rintro⟨_,e⟩;dsimp only at e;omega
end Go.Sh
namespace Go.Sh
def a5O(x:Hp)(ds:List Int)(t:Tb):Hp:=⟨gnL x.S ds,x.Roots,clr x.Cells ds,t,⟨x.Q.L++clt x.Cells ds,x.Q.Cap⟩⟩
theorem b9y(q:TQ)(l:List g8)(c:Int)(h:∀t∈l,t.Kind≠1):b2P ⟨q.L++l,c⟩=b2P q:=by
 unfold b2P;dsimp only;rw[List.filter_append];have:l.filter (λt=>t.Kind==1) = []:=by
  rw[List.filter_eq_nil_iff];intro t ht;simpa using h t ht
 rw[this,List.append_nil]
theorem c3G{x:Hp}(hx:S9 x){ds:List Int}(hn:ds.Nodup)(hm:∀d∈ds,d∈lv x.S)
  (ho:∀d∈ds,d∉otr x)(hf:∀h∈lv x.S,h∉ds→∀v∈(ob x.S h).Fields,v∉ds)(hp:∀k v,Has x.T k v→k∉ds→v∉ds)
  {t:Tb}{vals:List Int}(ht:HR t)(h1:∀k v,Has t k v↔k∉ds∧Has x.T k v)(h2:∀y,own t y+V2 vals y=own x.T y) :
  HpS (a5O x ds t)∧Wk (a5O x ds t)∧a1r (a5O x ds t) (ds.flatMap (outs x.S)++vals):=by
 have hS:=hx.sh;have hR:=hS.sr;have g:=a3r ds hR hn hm;have hlv:∀h,h∈lv (gnL x.S ds)↔h∈lv x.S∧h∉ds:=λh=>by rw[g.lv,List.mem_filter,decide_eq_true_iff]
 have hlen:(lv x.S).length≤24:=a1Y (y4.2 hR);have hcl:∀w (hw:w<x.Cells.length),a4f ds x.Cells[w]=true→x.Cells[w].Intact=true:=λw hw q=>by
  unfold a4f at q;rw[Bool.and_eq_true,Bool.and_eq_true] at q;exact q.1.1
 have htd:(x.Q.L++clt x.Cells ds).Pairwise λa b=>¬(a.Kind=b.Kind∧a.At=b.At):=by
  rw[List.pairwise_append];refine⟨hS.td,c3M ..,λa ha b hb q=>?_⟩;obtain⟨w,hw,rfl,hh,_⟩:=a9b.1 hb;have:=((hS.cl w hw).2.2.2.2 (hcl w hw hh)).2;rw[Bool.eq_false_iff] at this;exact this (a7u.2 ⟨a,ha,q.1,q.2⟩)
 have htk:∀t∈x.Q.L++clt x.Cells ds,0≤t.Prog∧t.Prog≤5∧((t.Kind=1∧t.At∈lv (gnL x.S ds)∧(ob (gnL x.S ds) t.At).Started=true)∨(t.Kind=2∧0≤t.At∧t.At≤5)):=λt htt=>by
  rcases List.mem_append.1 htt with q | q
  ·obtain⟨a,b,c⟩:=hS.tk t q;refine⟨a,b,?_⟩;rcases c with ⟨c1,c2,c3⟩ | c
   ·have hnd:t.At∉ds:=λhd=>ho _ hd (List.mem_append.2 (.inr (b1A.2 ⟨t,q,c1,rfl⟩)));exact .inl ⟨c1,(hlv _).2 ⟨c2,hnd⟩,by rw[g.ob _ c2 hnd];exact c3⟩
   ·exact .inr c
  ·obtain⟨w,hw,rfl,hh,hc⟩:=a9b.1 q;have c6:=hS.c6;have:=(hS.cl w hw).2.1;exact⟨hc,this,.inr ⟨rfl,by dsimp only;omega,by dsimp only;omega⟩⟩
 have hq30:(x.Q.L++clt x.Cells ds).length≤30:=by
  have:=c0q (m:=lv x.S) htd λt htt=>by
   rcases (htk t htt).2.2 with q | q
   ·exact .inl ⟨q.1,((hlv _).1 q.2.1).1⟩
   ·exact .inr q
  omega
 have hwts:∀i:Nat,wts x.Q i=false→(∀hi:i<x.Cells.length,a4f ds x.Cells[i]=false)→wts ⟨x.Q.L++clt x.Cells ds,x.Q.Cap⟩ i=false:=λi q1 q2=>by
  rw[Bool.eq_false_iff] at q1 ⊢;intro q;obtain⟨t,ht,a,b⟩:=a7u.1 q;rcases List.mem_append.1 ht with c | c
  ·exact q1 (a7u.2 ⟨t,c,a,b⟩)
  ·obtain⟨w,hw,rfl,hh,_⟩:=a9b.1 c;dsimp only at b;have:w=i:=by omega
   subst this;rw[q2 hw] at hh;cases hh
 refine⟨⟨g.sr,ht,hS.r6,?_,hS.cap,hq30,htk,htd,λh hh=>?_,λh hh v hv=>?_,λk v hkv=>?_,λi hi=>?_⟩,λi hi hti=>?_,λh hh hlt=>?_⟩
 ·unfold a5O clr;rw[List.length_map];exact hS.c6
 ·rcases hS.rt h hh with q | q
  ·exact .inl q
  ·have h0:h≠0:=λe=>b2T hR (e▸q);exact .inr ((hlv h).2 ⟨q,λhd=>ho h hd (List.mem_append.2 (.inl (b0y.2 ⟨hh,h0⟩)))⟩)
 ·obtain⟨a,b⟩:=(hlv h).1 hh;have hv':v∈(ob x.S h).Fields:=by
   have e:=g.ob h a b;unfold a5O at hv;rwa [e] at hv
  rcases hS.fl h a v hv' with q | q
  ·exact .inl q
  ·exact .inr ((hlv v).2 ⟨q,hf h a b v hv'⟩)
 ·obtain⟨a,b⟩:=(h1 k v).1 hkv;obtain⟨c,d⟩:=hS.pr k v b;exact⟨(hlv k).2 ⟨c,a⟩,(hlv v).2 ⟨d,hp k v b a⟩⟩
 ·have hi':i<x.Cells.length:=by
   unfold a5O clr at hi;simpa using hi
  have e:(a5O x ds t).Cells[i]=a75 ds x.Cells[i]:=List.getElem_map _;obtain⟨a1,a2,a3,a4,a5⟩:=hS.cl i hi';obtain⟨b1,b2,b3⟩:=b7x ds x.Cells[i];rw[e,b1,b2];refine⟨a1,a2,λq=>?_,λq=>?_,λq=>?_⟩
  ·rw[Bool.eq_false_iff];intro q2;rw[a3 q] at b3;exact absurd (b3.1 q2).1 (by decide)
  ·obtain⟨p,hp1,hp2,hp3⟩:=a4 q;refine⟨p,by show p<(gnL x.S ds).S.Cells.length;rw[g.len];exact hp1,?_⟩
   show Th (ce (gnL x.S ds) p)∧_=1+(p:Int)+32*(ce (gnL x.S ds) p).Gen;rw[g.ce];split
   ·have hw:=(hx.wk p hp1 hp2).1;have:=b1D hi' q;rw[hp3] at this;unfold gnC;rw[if_neg (by omega)]
    exact⟨.inr rfl,hp3⟩
   ·exact⟨hp2,hp3⟩
  ·obtain⟨c1,c2⟩:=b3.1 q;obtain⟨d1,d2⟩:=a5 c1;have h0:x.Cells[i].Target≠0:=λe=>b2T hR (e▸d1);refine⟨(hlv _).2 ⟨d1,λhd=>?_⟩,hwts i d2 λ_=>c2⟩;have:a4f ds x.Cells[i]=true:=by
    unfold a4f;simp[c1,h0,hd]
   rw[this] at c2;cases c2
 ·have hi':i<x.S.S.Cells.length:=by
   have:=g.len;have hi:i<(gnL x.S ds).S.Cells.length:=hi;omega
  show (ce (gnL x.S ds) i).Val.Weak=(nmg (clr x.Cells ds) (1+(i:Int)+32*(ce (gnL x.S ds) i).Gen):Int)∧((ce (gnL x.S ds) i).State=2→_);have hti':Th (ce (gnL x.S ds) i):=hti;show _∧((ce (gnL x.S ds) i).State=2→1≤(ce (gnL x.S ds) i).Val.Weak∧(ce (gnL x.S ds) i).Val.Fields = []∧(ce (gnL x.S ds) i).Val.Strong=0);rw[c8n];rw[g.ce] at hti' ⊢;split
  ·rename_i q;rw[if_pos q] at hti';obtain⟨d,hd,rfl⟩:=List.mem_map.1 q;have hp:=z6 hR (hm d hd);have hw:=(hx.wk _ hi' (.inl hp.2.1)).1;unfold gnC at hti' ⊢;split at hti'
   ·exfalso;unfold Th at hti';split at hti' <;> simp at hti'
   ·rename_i q2;rw[if_neg q2];have:=(hR.ok _ hi' (.inl hp.2.1)).wk;exact⟨hw,λ_=>⟨by dsimp only;omega,rfl,rfl⟩⟩
  ·rename_i q;rw[if_neg q] at hti';exact hx.wk i hi' hti'
 ·obtain⟨a,b⟩:=(hlv h).1 hh;have e:=g.ob h a b;have e':ob (a5O x ds t).S h=ob x.S h:=e;rw[e'] at hlt ⊢;have hf:=hx.fair h a hlt;rw[Q3] at hf;rw[hf];have i1:=g.inn hR hn hm h;have i2:=h2 h;have i3:b2P ⟨x.Q.L++clt x.Cells ds,x.Q.Cap⟩=b2P x.Q:=b9y _ _ _ λt ht=>by
   obtain⟨w,_,rfl,_⟩:=a9b.1 ht;simp
  unfold nms otr a5O;dsimp only;rw[i3,L1 (ds.flatMap (outs x.S)),L1];omega
theorem b5A:∀(l:List Int) {x:Hp},HpS x→Wk x→a1r x l→S9 (l.foldl R8 x)
 | [],x,h1,h2,h3=>⟨h1,h2,h3⟩
 | v::l,x,h1,h2,h3=>b5A l (h1.st v λc=>Q9) (h2.st h1.sr v λc=>Q9) (b2b h1.sr h3)
abbrev srt(o:k9):k9:=⟨o.Serial,o.Strong,o.Weak,o.Prog,true,o.Fields⟩
abbrev qtk(x:Hp)(h:Int):g8:=⟨1,h,(ob x.S h).Prog⟩
noncomputable def quH(x:Hp)(h:Int):Hp:=C3 ⟨seO x.S h (srt (ob x.S h)),x.Roots,x.Cells,x.T,⟨x.Q.L ++ [qtk x h],x.Q.Cap⟩⟩ h
theorem b7a{x:Hp}(hx:S9 x){h:Int}(hh:h∈lv x.S)(hp:0≤(ob x.S h).Prog)(hs:(ob x.S h).Started=false):S9 (quH x h):=by
 have hS:=hx.sh;have hR:=hS.sr;have oko:=K8 hR hh;have ho:OkO x.S (srt (ob x.S h)):=⟨oko.s1,oko.s2,oko.st,oko.wk,oko.p1,oko.p2,oko.fl⟩;have r1:=a1p (o:=srt (ob x.S h)) hR hh rfl ho;have l1:=a4z (o:=srt (ob x.S h)) hR hh rfl ho;have o1:∀j,j∈lv x.S→ob (seO x.S h (srt (ob x.S h))) j=if j=h then srt (ob x.S h) else ob x.S j:=λj hj=>by
  have:=K1 hR hj;exact a3y (o:=srt (ob x.S h)) hR hh rfl ho (by omega)
 have hlen:(lv x.S).length≤24:=a1Y (y4.2 hR);have s1:HpS (wS x (seO x.S h (srt (ob x.S h)))):=hS.of r1 l1 (λk i q=>(c1W (o:=srt (ob x.S h)) hR hh rfl ho).2 q) (λk hk q=>by
  rw[o1 k hk];split;·rfl
  ·exact q) λk hk v hv=>by
  rw[o1 k hk] at hv;split at hv;·rename_i e;subst e;exact hS.fl k hk v hv
  ·exact hS.fl k hk v hv
 have w1:Wk (wS x (seO x.S h (srt (ob x.S h)))):=λi hi ht=>by
  have M1:=z6 hR hh;have hc:=b8I (o:=srt (ob x.S h)) hR hh rfl ho i;dsimp only at hi ht ⊢;rw[hc] at ht ⊢;have hi':i<x.S.S.Cells.length:=by unfold seO at hi;rwa [N4] at hi
  split at ht
  ·rename_i e;subst e;rw[if_pos rfl];dsimp only;have:=hx.wk _ hi' (.inl M1.2.1);rw[P5 hR M1];exact⟨this.1,λq=>absurd q (by rw[M1.2.1];decide)⟩
  ·rename_i e;rw[if_neg e];exact hx.wk i hi' ht
 have htd:(x.Q.L ++ [qtk x h]).Pairwise λa b=>¬(a.Kind=b.Kind∧a.At=b.At):=by
  rw[List.pairwise_append];refine⟨hS.td,by simp,λa ha b hb q=>?_⟩
  rw[List.mem_singleton] at hb;subst hb;dsimp only at q;rcases (hS.tk a ha).2.2 with c | c
  ·rw[q.2,hs] at c;exact absurd c.2.2 (by decide)
  ·omega
 have htk:∀t∈x.Q.L ++ [qtk x h],0≤t.Prog∧t.Prog≤5∧((t.Kind=1∧t.At∈lv (seO x.S h (srt (ob x.S h)))∧(ob (seO x.S h (srt (ob x.S h))) t.At).Started=true)∨(t.Kind=2∧0≤t.At∧t.At≤5)):=λt ht=>by
  rcases List.mem_append.1 ht with q | q
  ·exact s1.tk t q
  ·rw[List.mem_singleton] at q;subst q;refine⟨hp,oko.p2,.inl ⟨rfl,by rw[l1];exact hh,?_⟩⟩
   dsimp only;rw[o1 h hh,if_pos rfl]
 have hq30:(x.Q.L ++ [qtk x h]).length≤30:=by
  have:=c0q (m:=lv x.S) htd λt ht=>by
   rcases (htk t ht).2.2 with q | q
   ·exact .inl ⟨q.1,by rw[←l1];exact q.2.1⟩
   ·exact .inr q
  omega
 have s2:HpS ⟨seO x.S h (srt (ob x.S h)),x.Roots,x.Cells,x.T,⟨x.Q.L ++ [qtk x h],x.Q.Cap⟩⟩:=by
  refine⟨s1.sr,s1.hr,s1.r6,s1.c6,s1.cap,hq30,htk,htd,s1.rt,s1.fl,s1.pr,λi hi=>?_⟩;obtain⟨a,b,c,d,e⟩:=s1.cl i hi;refine⟨a,b,c,d,λq=>⟨(e q).1,?_⟩⟩;have:=(e q).2;rw[Bool.eq_false_iff] at this ⊢;intro q2;obtain⟨t,ht,k1,k2⟩:=a7u.1 q2;rcases List.mem_append.1 ht with q3 | q3
  ·exact this (a7u.2 ⟨t,q3,k1,k2⟩)
  ·rw[List.mem_singleton] at q3;subst q3;dsimp only at k1;omega
 have w2:Wk ⟨seO x.S h (srt (ob x.S h)),x.Roots,x.Cells,x.T,⟨x.Q.L ++ [qtk x h],x.Q.Cap⟩⟩:=w1;refine⟨s2.st h λc=>E3,w2.st s2.sr h λc=>E3,λk hk hlt=>?_⟩;have hk':k∈lv x.S:=by
  have:lv (quH x h).S=lv x.S:=(G7 s2.sr h λc=>E3).lv.trans l1;rw[←this];exact hk
 have hst:(ob (quH x h).S k).Strong=if k=h then Z9 (ob x.S k).Strong else (ob x.S k).Strong:=by
  have:=b8O (x:=⟨seO x.S h (srt (ob x.S h)),x.Roots,x.Cells,x.T,⟨x.Q.L ++ [qtk x h],x.Q.Cap⟩⟩) s2.sr h (f:=Z9) (λc=>E3) (k:=k) (by rw[←l1] at hk';exact hk')
  refine Eq.trans this ?_;dsimp only;rw[o1 k hk'];by_cases e:k=h
  ·subst e;rw[if_pos rfl,if_pos rfl,if_pos rfl]
  ·rw[if_neg e,if_neg e,if_neg e]
 have hnm:nms (quH x h) k=nms x k+if k=h then 1 else 0:=by
  have:=b4l (x:=⟨seO x.S h (srt (ob x.S h)),x.Roots,x.Cells,x.T,⟨x.Q.L ++ [qtk x h],x.Q.Cap⟩⟩) s2.sr h (f:=Z9) (λc=>E3) k;refine Eq.trans this ?_;have hi:=c2J (o:=srt (ob x.S h)) hR hh rfl ho k;dsimp only at hi;have h0:k≠0:=λe=>b2T hR (e▸hk');unfold nms otr b2P;dsimp only;rw[List.filter_append,List.map_append,L1,L1,L1];have:V2 (List.map (·.At) (List.filter (λt:g8=>t.Kind==1) [qtk x h])) k=if k=h then 1 else 0:=by
   show V2 [h] k=_;rw[G5,Q3];by_cases e:k=h
   ·rw[if_pos ⟨e.symm,h0⟩,if_pos e]
   ·rw[if_neg (λq=>e q.1.symm),if_neg e]
  rw[this];omega
 rw[hst] at hlt ⊢;rw[hnm,Q3];have hpos:=(K8 hR hk').st;by_cases e:k=h
 ·rw[if_pos e] at hlt ⊢;rw[if_pos e];have:=hx.fair k hk' (by unfold Z9 at hlt;split at hlt <;> omega)
  rw[Q3] at this;unfold Z9 at hlt ⊢;split at hlt;·omega
  ·rename_i q;rw[if_neg q,if_neg (by omega)]
   omega
 ·rw[if_neg e] at hlt ⊢;rw[if_neg e];have:=hx.fair k hk' hlt;rw[Q3] at this;exact this
end Go.Sh
namespace Go.Sh
noncomputable def zr(x:Hp):List Int:=(lv x.S).filter λh=>(ob x.S h).Strong==0
theorem a4H{x:Hp}{h:Int}:h∈zr x↔h∈lv x.S∧(ob x.S h).Strong=0:=by
 unfold zr;rw[List.mem_filter,beq_iff_eq]
theorem c3t{x:Hp}(hx:S9 x){z:Int}(hz:z∈zr x):nms x z=0:=by
 obtain⟨a,b⟩:=a4H.1 hz;have:=hx.fair z a (by omega)
 rw[Q3] at this;omega
theorem c0t{l:List Int}{h:Int}(h0:h≠0)(e:V2 l h=0):h∉l:=λq=>by
 have:=a7n.2 ⟨h0,q⟩;omega
theorem c5C{α:Type}(f:α→Nat):∀ {l:List α} {a:α},a∈l→f a≤(l.map f).sum
 | b::l,a,h=>by
  rw[List.map_cons,List.sum_cons];rcases List.mem_cons.1 h with e | e
  ·subst e;omega
  ·have:=c5C f e;omega
theorem c2I{s:a7}{a y:Int}(ha:a∈lv s):V2 (outs s a) y≤inn s y:=c5C (λx=>V2 (outs s x) y) ha
theorem c20{t:Tb}{k v:Int}(h:Has t k v)(h0:v≠0):0<own t v:=List.countP_pos_iff.2 ⟨⟨k,v⟩,a49.2 h,by simp[h0]⟩
def wot(t:Tb)(ks:List Int):Tb × List Int:=(X7 t ks).getD (t,[])
theorem a6w{t:Tb}(hT:HR t)(ks:List Int)(hks:ks.length≤1000):X7 t ks=some (wot t ks)∧HR (wot t ks).1∧(wot t ks).2.length≤ks.length∧a3f (t.map M1) ks=some ((wot t ks).1.map M1,(wot t ks).2) ∧
  (∀k v,Has (wot t ks).1 k v↔k∉ks∧Has t k v)∧∀y,own (wot t ks).1 y+V2 (wot t ks).2 y=own t y:=by
 obtain⟨a,had,h1,h2,h3,h4,h5,h6,h7,h8,h9⟩:=c0D hT ks hks;have:wot t ks=(a,had):=by unfold wot;rw[h1];rfl
 rw[this];exact⟨h1,h2,h4,h5,h6,h9⟩
noncomputable def buH(x:Hp)(ds:List Int):Hp:=(ds.flatMap (outs x.S)++(wot x.T ds).2).foldl R8 (a5O x ds (wot x.T ds).1)
theorem a6j:∀(l:List Int) {x:Hp},SR x.S→Kin x.S (l.foldl R8 x).S∧l.foldl R8 x=wS x (l.foldl R8 x).S
 | [],x,h=>⟨Kin.refl h,rfl⟩
 | v::l,x,h=>by
  have k1:=G7 h v (f:=b0r) λc=>Q9;obtain⟨k2,e⟩:=a6j l (x:=R8 x v) k1.sr;refine⟨k1.trans k2,?_⟩;show l.foldl R8 (R8 x v)=wS x (l.foldl R8 (R8 x v)).S;rw[e,d1c x v]
theorem c3H{x:Hp}(hx:S9 x){ds:List Int}(hn:ds.Nodup)(hm:∀d∈ds,d∈lv x.S)
  (ho:∀d∈ds,d∉otr x)(hf:∀h∈lv x.S,h∉ds→∀v∈(ob x.S h).Fields,v∉ds)(hp:∀k v,Has x.T k v→k∉ds→v∉ds):S9 (buH x ds):=by
 have hl:ds.length≤24:=Nat.le_trans (b1E hn hm) (a1Y (y4.2 hx.sh.sr));obtain⟨_,w1,_,_,w2,w3⟩:=a6w hx.sh.hr ds (by omega)
 obtain⟨a,b,c⟩:=c3G hx hn hm ho hf hp w1 w2 w3;exact b5A _ a b c
theorem c42{x:Hp}(hR:SR x.S){ds:List Int}(hn:ds.Nodup)(hm:∀d∈ds,d∈lv x.S):lv (buH x ds).S=(lv x.S).filter λh=>decide (h∉ds):=by
 have g:=a3r ds hR hn hm;exact (a6j (ds.flatMap (outs x.S)++(wot x.T ds).2) (x:=a5O x ds (wot x.T ds).1) g.sr).1.lv.trans g.lv
theorem c43{x:Hp}(hR:SR x.S){ds:List Int}(hn:ds.Nodup)(hm:∀d∈ds,d∈lv x.S){k:Int}(hk:k∈lv x.S)(hd:k∉ds):∃n,ob (buH x ds).S k=stg (ob x.S k) n:=by
 have g:=a3r ds hR hn hm;have hr:=K1 hR hk;obtain⟨n,e⟩:=(a6j (ds.flatMap (outs x.S)++(wot x.T ds).2) (x:=a5O x ds (wot x.T ds).1) g.sr).1.ob k (by omega)
 refine⟨n,?_⟩;have e':ob (buH x ds).S k=_:=e;have g':ob (a5O x ds (wot x.T ds).1).S k=ob x.S k:=g.ob k hk hd;rw[e',g']
theorem b9i{x:Hp}(hR:SR x.S){ds:List Int}(hn:ds.Nodup)(hm:∀d∈ds,d∈lv x.S):(buH x ds).Roots=x.Roots∧(buH x ds).Cells=clr x.Cells ds∧(buH x ds).T=(wot x.T ds).1∧(buH x ds).Q=⟨x.Q.L++clt x.Cells ds,x.Q.Cap⟩:=by
 have g:=a3r ds hR hn hm;have e:=(a6j (ds.flatMap (outs x.S)++(wot x.T ds).2) (x:=a5O x ds (wot x.T ds).1) g.sr).2;have e':buH x ds=wS (a5O x ds (wot x.T ds).1) (buH x ds).S:=e;rw[e'];exact⟨rfl,rfl,rfl,rfl⟩
theorem b56{x:Hp}(hx:S9 x){z:Int}(hz:z∈zr x):S9 (buH x [z]):=by
 obtain⟨a,b⟩:=a4H.1 hz;have h0:z≠0:=λe=>b2T hx.sh.sr (e▸a);have hn:=c3t hx hz;unfold nms at hn;refine c3H hx (by simp) (by simpa using a) (λd hd=>?_) (λh hh hne v hv q=>?_) (λk v hkv _ q=>?_)
 ·rw[List.mem_singleton] at hd;subst hd;exact c0t h0 (by omega)
 ·rw[List.mem_singleton] at q;subst q;have:=c2I (y:=v) hh;have h1:=a7n.2 ⟨h0,show v∈outs x.S h from b0y.2 ⟨hv,h0⟩⟩;omega
 ·rw[List.mem_singleton] at q;subst q;have:=c20 hkv h0;omega
def due(o:k9):Bool:=decide (0≤o.Prog) && !o.Started
noncomputable def stp(x:Hp):Hp:=match zr x with
 | []=>x
 | z::_=>if due (ob x.S z) then quH x z else buH x [z]
noncomputable def stN:Nat→Hp→Hp
 | 0,x=>x
 | n+1,x=>stN n (stp x)
theorem a2b(n:Nat)(x:Hp):stN (n+1) x=stp (stN n x):=by
 induction n generalizing x with
 | zero=>rfl
 | succ n ih=>exact ih (stp x)
theorem a9C{x:Hp}(h:zr x = []):stp x=x:=by unfold stp;rw[h]
theorem a4C{x:Hp}{z:Int}{l:List Int}(h:zr x=z::l):stp x=if due (ob x.S z) then quH x z else buH x [z]:=by unfold stp;rw[h]
theorem c4v{x:Hp}(hx:S9 x):S9 (stp x):=by
 cases h:zr x with
 | nil=>rw[a9C h];exact hx
 | cons z l=>
  have hz:z∈zr x:=by rw[h];exact List.mem_cons_self ..
  rw[a4C h];split
  ·rename_i q;unfold due at q;rw[Bool.and_eq_true,decide_eq_true_iff,Bool.not_eq_true'] at q;exact b7a hx (a4H.1 hz).1 q.1 q.2
  ·exact b56 hx hz
theorem a0Q{x:Hp}(hx:S9 x)(n:Nat):S9 (stN n x):=by
 induction n with
 | zero=>exact hx
 | succ n ih=>rw[a2b];exact c4v ih
section
variable{x:Hp}(hR:SR x.S){h:Int}(hh:h∈lv x.S)
include hR hh
theorem b1H:Kin (seO x.S h (srt (ob x.S h))) (quH x h).S∧(quH x h).Roots=x.Roots∧(quH x h).Cells=x.Cells∧(quH x h).T=x.T∧(quH x h).Q=⟨x.Q.L ++ [qtk x h],x.Q.Cap⟩:=by
 have oko:=K8 hR hh;have r1:=a1p (o:=srt (ob x.S h)) hR hh rfl ⟨oko.s1,oko.s2,oko.st,oko.wk,oko.p1,oko.p2,oko.fl⟩;refine⟨G7 (x:=⟨seO x.S h (srt (ob x.S h)),x.Roots,x.Cells,x.T,⟨x.Q.L ++ [qtk x h],x.Q.Cap⟩⟩) r1 h λc=>E3,?_⟩;have e:quH x h=wS ⟨seO x.S h (srt (ob x.S h)),x.Roots,x.Cells,x.T,⟨x.Q.L ++ [qtk x h],x.Q.Cap⟩⟩ (quH x h).S:=b23 _ h;rw[e];exact⟨rfl,rfl,rfl,rfl⟩
theorem c6m:lv (quH x h).S=lv x.S:=by
 have oko:=K8 hR hh;exact (b1H hR hh).1.lv.trans (a4z (o:=srt (ob x.S h)) hR hh rfl ⟨oko.s1,oko.s2,oko.st,oko.wk,oko.p1,oko.p2,oko.fl⟩)
theorem c1y{k:Int}(hk:k∈lv x.S):∃n,ob (quH x h).S k=stg (if k=h then srt (ob x.S h) else ob x.S k) n:=by
 have oko:=K8 hR hh;have hr:=K1 hR hk;obtain⟨n,e⟩:=(b1H hR hh).1.ob k (by omega)
 refine⟨n,?_⟩;rw[e,a3y (o:=srt (ob x.S h)) hR hh rfl ⟨oko.s1,oko.s2,oko.st,oko.wk,oko.p1,oko.p2,oko.fl⟩ (by omega)]
end
noncomputable def mu(x:Hp):Nat:=(lv x.S).length+((lv x.S).filter λh => !(ob x.S h).Started).length
theorem d2m{x:Hp}(hR:SR x.S):mu x≤48:=by
 have h1:(lv x.S).length≤24:=a1Y (y4.2 hR);have h2:((lv x.S).filter λh => !(ob x.S h).Started).length≤(lv x.S).length:=List.length_filter_le ..;unfold mu;omega
theorem d1p{x:Hp}(hx:S9 x)(h:zr x ≠ []):mu (stp x)<mu x:=by
 cases hz:zr x with
 | nil=>exact absurd hz h
 | cons z l=>
  have hzm:z∈zr x:=by rw[hz];exact List.mem_cons_self ..
  have hzl:=(a4H.1 hzm).1;have hR:=hx.sh.sr;rw[a4C hz];split
  ·rename_i q;unfold due at q;rw[Bool.and_eq_true,decide_eq_true_iff,Bool.not_eq_true'] at q;unfold mu;rw[c6m hR hzl];have:=filter_lt (p:=λh => !(ob (quH x z).S h).Started) (q:=λh => !(ob x.S h).Started) (l:=lv x.S) (λk hk hp=>by
    obtain⟨n,e⟩:=c1y hR hzl hk;rw[e] at hp;split at hp;·exact absurd hp (by simp)
    ·exact hp) z hzl (by rw[q.2];rfl) (by
    obtain⟨n,e⟩:=c1y hR hzl hzl;rw[e,if_pos rfl];rfl)
   omega
  ·unfold mu;have hn:([z]:List Int).Nodup:=by simp
   have hm:∀d ∈ [z],d∈lv x.S:=by simpa using hzl
   rw[c42 hR hn hm,List.filter_filter];have h1:((lv x.S).filter λh=>decide (h ∉ [z])).length<((lv x.S).filter λ_=>true).length:=filter_lt (λ_ _ _=>rfl) z hzl rfl (by simp)
   rw[List.filter_eq_self.2 (λ_ _=>rfl)] at h1;have h2:((lv x.S).filter λa=>(!(ob (buH x [z]).S a).Started)&&decide (a ∉ [z])).length≤((lv x.S).filter λh => !(ob x.S h).Started).length:=by
    rw[←List.countP_eq_length_filter,←List.countP_eq_length_filter];refine List.countP_mono_left λa ha hp=>?_;rw[Bool.and_eq_true,decide_eq_true_iff] at hp;obtain⟨n,e⟩:=c43 hR hn hm ha hp.2;rw[e] at hp;exact hp.1
   omega
noncomputable def a17(x:Hp):Hp:=stN 100 x
theorem b27{x:Hp}(hx:S9 x):∃n,n≤48∧zr (stN n x) = []∧(∀j,j<n→zr (stN j x) ≠ [])∧a17 x=stN n x:=by
 have key:∀m,(∃n,n≤m∧zr (stN n x) = [])∨mu (stN m x)+m≤mu x:=by
  intro m;induction m with
  | zero=>exact .inr (Nat.le_refl _)
  | succ m ih=>
   rcases ih with ⟨n,h1,h2⟩ | ih;·exact .inl ⟨n,by omega,h2⟩
   ·by_cases q:zr (stN m x) = []
    ·exact .inl ⟨m,by omega,q⟩
    ·have:=d1p (a0Q hx m) q;rw[←a2b] at this;exact .inr (by omega)
 have h48:=d2m hx.sh.sr;have hex:∃n,n≤48∧zr (stN n x) = []:=by
  rcases key 49 with ⟨n,h1,h2⟩ | h
  ·rcases Nat.lt_or_ge n 49 with q | q
   ·exact⟨n,by omega,h2⟩
   ·rcases key 48 with h | h
    ·exact h
    ·have:mu (stN 48 x)=0:=by omega
     refine⟨48,Nat.le_refl _,?_⟩;have hl:(lv (stN 48 x).S).length=0:=by unfold mu at this;omega
     unfold zr;rw[List.eq_nil_of_length_eq_zero hl];rfl
  ·omega
 obtain⟨n,⟨hn,hz⟩,hmin⟩:=a0i hex;refine⟨n,hn,hz,λj hj q=>?_,?_⟩
 ·have:=hmin j ⟨by omega,q⟩
  omega
 ·have:∀k,stN (n+k) x=stN n x:=λk=>by
   induction k with
   | zero=>rfl
   | succ k ih=>rw[show n+(k+1)=(n+k)+1 by omega,a2b,ih,a9C hz]
  have h100:=this (100-n);rw[show n+(100-n)=100 by omega] at h100
  exact h100
theorem a2I{x:Hp}(hx:S9 x):S9 (a17 x):=a0Q hx 100
theorem b7g{x:Hp}(hx:S9 x):zr (a17 x) = []:=by
 obtain⟨n,_,h,_,e⟩:=b27 hx;rw[e];exact h
theorem c6J{x:Hp}(h:zr x = []):a17 x=x:=by
 have:∀n,stN n x=x:=λn=>by
  induction n with
  | zero=>rfl
  | succ n ih=>rw[a2b,ih,a9C h]
 exact this 100
end Go.Sh
namespace Go.Sh
section
variable{x:Hp}(hR:SR x.S)
include hR
theorem a44{h:Int}(hh:h∈lv x.S):h≤9223372036854775807:=by have:=K1 hR hh;omega
theorem b4Z{h:Int}(hh:h∈lv x.S):y5 x.S h=some (ob x.S h,0):=by
 obtain⟨e,h1,h2⟩:=W0 (y4.2 hR) (a44 hR hh);rw[h1,h2.2 hh]
theorem b1g{h:Int}(hh:h∈lv x.S):F9 (sO x.S) h=some (oo (ob x.S h),0):=by
 have:=hR.len;rw[a4X x.S (by omega) (a44 hR hh),b4Z hR hh]
 rfl
theorem zero_eq:a1A x=some (zr x):=by
 have h24:(lv x.S).length≤24:=a1Y (y4.2 hR);unfold a1A;simp only[jn];rw[a9a (y4.2 hR),d4l];rw[P7 (lv x.S) (λb h=>if (ob x.S h).Strong==0 then b ++ [h] else b) id (λk b=>b.length≤k) (by omega) (Nat.le_refl _) (λk hk b hb=>?_) (λb hb=>by simp)]
 ·rw[foldl_filter];rfl
 ·simp only[Int.ofNat_lt,hk,decide_true,if_true,o8 hk,d4l,b4Z hR (List.getElem_mem hk)];by_cases c:((ob x.S (lv x.S)[k]).Strong==0)=true
  ·rw[if_pos c,if_pos c,C6 (by omega) (by simp;omega),d4l,k8]
   exact⟨rfl,by simp;omega⟩
  ·rw[if_neg c,if_neg c,k8];exact⟨rfl,by omega⟩
theorem c19:a6g (hO x)=some (zr x):=by
 have h24:(lv x.S).length≤24:=a1Y (y4.2 hR);unfold a6g;simp only[jn];rw[show (hO x).S=sO x.S from rfl,b7Y (y4.2 hR),d4l];rw[P7 (lv x.S) (λb h=>if (ob x.S h).Strong==0 then b ++ [h] else b) id (λk b=>b.length≤k) (by omega) (Nat.le_refl _) (λk hk b hb=>?_) (λb hb=>by simp)]
 ·rw[foldl_filter];rfl
 ·simp only[Int.ofNat_lt,hk,decide_true,if_true,o8 hk,d4l,b1g hR (List.getElem_mem hk)];by_cases c:((ob x.S (lv x.S)[k]).Strong==0)=true
  ·rw[show ((oo (ob x.S (lv x.S)[k])).Strong==0)=true from c,if_pos rfl,if_pos c,C6 (by omega) (by simp;omega),d4l,k8]
   exact⟨rfl,by simp;omega⟩
  ·rw[if_neg (show ¬((oo (ob x.S (lv x.S)[k])).Strong==0)=true from c),if_neg c,k8];exact⟨rfl,by omega⟩
theorem c4q:a5h (hO x)=some (decide (zr x = [])):=by
 unfold a5h;rw[c19 hR,d4l];congr 1;cases zr x <;> simp
 omega
end
noncomputable def quD(x:Hp)(h:Int):Hp:=if h∈lv x.S∧due (ob x.S h)=true then quH x h else x
theorem b8M{s:a7}(hR:SR s){h:Int}(hl:h∈lv s):OkO s (srt (ob s h)):=by
 have oko:=K8 hR hl;exact⟨oko.s1,oko.s2,oko.st,oko.wk,oko.p1,oko.p2,oko.fl⟩
theorem c2Z(o:k9):M4 o=some (due o):=by
 unfold M4 due;congr 1
section
variable{x:Hp}(hx:S9 x)(hS:SL x){h:Int}(hh:h≤9223372036854775807)
include hx hS hh
theorem b5n(hl:h∈lv x.S)(hd:due (ob x.S h)=true):x.Q.L.length<30:=by
 have hb:0≤(ob x.S h).Prog∧(ob x.S h).Started=false:=by
  unfold due at hd;rw[Bool.and_eq_true,decide_eq_true_iff,Bool.not_eq_true'] at hd;exact hd
 have:=(b7a hx hl hb.1 hb.2).sh.q30;rw[(b1H hx.sh.sr hl).2.2.2.2] at this;simp at this;omega
theorem c4d:Y2 x h=some (quD x h):=by
 have hR:=hx.sh.sr;have cap:=hx.sh.cap;obtain⟨e,h1,h2⟩:=W0 (y4.2 hR) hh;unfold Y2 quD;rw[h1,d4l];by_cases hl:h∈lv x.S
 ·have e0:e=0:=h2.2 hl;subst e0;have e1:(((0:Int) != 0)==false)=true:=rfl;simp only[e1,G9,c2Z,d4l];cases hd:due (ob x.S h);·rw[if_pos (by simp),if_neg (by simp)]
  ·rw[if_neg (by simp),if_pos ⟨hl,rfl⟩]
   have hr:=b5n hx hS hh hl hd;have hok:=b8M hR hl;have l1:=a4z (o:=srt (ob x.S h)) hR hl rfl hok;have r1:=a1p (o:=srt (ob x.S h)) hR hl rfl hok;rw[b2e (o:=srt (ob x.S h)) hR hl rfl hok,d4l,c9G _ (by omega),d4l]
   have et:tad x.Q ⟨1,h,(ob x.S h).Prog⟩=(⟨x.Q.L ++ [qtk x h],x.Q.Cap⟩,0):=by
    unfold tad;rw[if_neg (by omega)]
   rw[et];dsimp only;rw[a6i r1 hh (λk hk=>?_),d4l];·rfl
   ·dsimp only at hk ⊢;rw[l1] at hk;rw[a3y (o:=srt (ob x.S h)) hR hl rfl hok (a44 hR hk)];split;·exact hS h hl
    ·exact hS k hk
 ·have e0:e≠0:=λq=>hl (h2.1 q);have e1:(e != 0)=true:=by simpa using e0
  rw[e1];simp only[show ((true==false)=true)=False by simp,p7,if_false,d4l,Bool.true_or,if_true]
  rw[if_neg (λq=>hl q.1)]
theorem c9k:a9u (hO x) h=some (decide (h∈lv x.S)&&due (ob x.S h)):=by
 have hR:=hx.sh.sr;have hlen:=hR.len;obtain⟨e,h1,h2⟩:=W0 (y4.2 hR) hh;unfold a9u;rw[show (hO x).S=sO x.S from rfl,a4X x.S (by omega) hh,h1,Option.map_some,d4l,a6W hR hh,d4l]
 unfold due oo;rw[Bool.and_assoc]
theorem c6n:a4q (hO x) h=some (hO (quD x h)):=by
 have hR:=hx.sh.sr;have cap:=hx.sh.cap;unfold a4q quD;rw[c9k hx hS hh,d4l];by_cases hl:h∈lv x.S
 ·rw[decide_eq_true hl,Bool.true_and];cases hd:due (ob x.S h);·rw[if_pos (by simp),if_neg (by simp)]
  ·rw[if_neg (by simp),if_pos ⟨hl,rfl⟩]
   have hr:=b5n hx hS hh hl hd;have hok:=b8M hR hl;have l1:=a4z (o:=srt (ob x.S h)) hR hl rfl hok;have r1:=a1p (o:=srt (ob x.S h)) hR hl rfl hok;rw[show (hO x).S=sO x.S from rfl,b1g hR hl,d4l];have es:N6 (sO x.S) h (oo (srt (ob x.S h)))=some (sO (seO x.S h (srt (ob x.S h))),0):=b2f hR hl rfl hok;have es':N6 (sO x.S) h ⟨(oo (ob x.S h)).Serial,(oo (ob x.S h)).Strong,(oo (ob x.S h)).Weak,(oo (ob x.S h)).Prog,true,(oo (ob x.S h)).Fields⟩=some (sO (seO x.S h (srt (ob x.S h))),0):=es;rw[es',d4l];have ea:a5f (hO x).Q ⟨1,h,(oo (ob x.S h)).Prog⟩=some (tqR ⟨x.Q.L ++ [qtk x h],x.Q.Cap⟩,0):=by
    have:=c9C (q:=x.Q) (qtk x h) (by omega)
    have et:tad x.Q (qtk x h)=(⟨x.Q.L ++ [qtk x h],x.Q.Cap⟩,0):=by
     unfold tad;rw[if_neg (by omega)]
    rw[et] at this;exact this
   rw[ea,d4l];have er:=a8C (x:=⟨seO x.S h (srt (ob x.S h)),x.Roots,x.Cells,x.T,⟨x.Q.L ++ [qtk x h],x.Q.Cap⟩⟩) r1 hh (λk hk=>by
    dsimp only at hk ⊢;rw[l1] at hk;rw[a3y (o:=srt (ob x.S h)) hR hl rfl hok (a44 hR hk)];split;·exact hS h hl
    ·exact hS k hk)
   have er':a0t ⟨sO (seO x.S h (srt (ob x.S h))),(hO x).Roots,(hO x).Cells,(hO x).T,tqR ⟨x.Q.L ++ [qtk x h],x.Q.Cap⟩⟩ h=_:=er;dsimp only;rw[er',d4l];rfl
 ·rw[decide_eq_false hl,Bool.false_and];rw[if_pos (by simp),if_neg (λq=>hl q.1)]
end
noncomputable def lvo(x:Hp)(l:List Int):List Int:=l.foldl (λb h=>if h∈lv x.S∧h∉b then b ++ [h] else b) []
theorem b9G{x:Hp}{z:Int}(hz:z∈lv x.S):lvo x [z] = [z]:=by
 unfold lvo;simp[hz]
section
variable{x:Hp}(hR:SR x.S)
include hR
theorem b7Z(l:List Int)(hl:l.length≤1000)(hb:∀h∈l,h≤9223372036854775807):U7 x l=some (lvo x l):=by
 unfold U7;simp only[jn];have key:=P7 (f:=λ((s20,s21,s22):Int × (List (Int × Bool)) × (List Int))=>
   if (decide (s20<(l.length:Int))) then
     (ix l s20).bind λv32=>
     (y5 x.S v32).bind λv33=>
     if ((v33.2==0)==true) then
      if (!((B4 s21 v32).getD (false:Bool))) then
       (app 8 s22 [v32]).bind λv34=>
       some (Sum.inl (x6 (s20+1),(r7 s21 v32 true),v34))
      else
      some (.inl (x6 (s20+1),s21,s22))
     else
     some (.inl (x6 (s20+1),s21,s22))
   else
   some (.inr s22)) l (λ(b:List (Int × Bool) × List Int) h=>if h∈lv x.S∧h∉b.2 then (r7 b.1 h true,b.2 ++ [h]) else b) (λb=>b.2) (λk b=>b.2.length≤k∧∀d,(B4 b.1 d).getD false=decide (d∈b.2)) (b0:=([],[])) (by omega) ⟨Nat.le_refl _,λd=>by simp[B4]⟩ (λk hk b hb2=>?_) (λb hb2=>by simp)
 ·rw[key,d4l];congr 1;have:∀(l:List Int) (m:List (Int × Bool)) (b:List Int),(l.foldl (λ(b:List (Int × Bool) × List Int) h=>if h∈lv x.S∧h∉b.2 then (r7 b.1 h true,b.2 ++ [h]) else b) (m,b)).2=l.foldl (λb h=>if h∈lv x.S∧h∉b then b ++ [h] else b) b:=λl=>by
   induction l with
   | nil=>intro m b;rfl
   | cons h l ih=>
    intro m b;rw[List.foldl_cons,List.foldl_cons];by_cases c:h∈lv x.S∧h∉b
    ·rw[if_pos c,if_pos c,ih]
    ·rw[if_neg c,if_neg c,ih]
  exact this l [] []
 ·obtain⟨hb1,hb3⟩:=hb2;obtain⟨e,h1,h2⟩:=W0 (y4.2 hR) (hb _ (List.getElem_mem hk));simp only[Int.ofNat_lt,hk,decide_true,if_true,o8 hk,d4l,h1,hb3];by_cases hl:l[k]∈lv x.S
  ·have e0:e=0:=h2.2 hl;subst e0;by_cases hm:l[k]∈b.2
   ·rw[if_pos (by rfl),if_neg (by simp[hm]),if_neg (λq=>q.2 hm),k8]
    exact⟨rfl,by omega,hb3⟩
   ·rw[if_pos (by rfl),if_pos (by simp[hm]),if_pos ⟨hl,hm⟩,C6 (by omega) (by simp;omega),d4l,k8]
    refine⟨rfl,by simp;omega,λd=>?_⟩
    rw[a9c];by_cases q:d=l[k]
    ·rw[if_pos q];simp[q]
    ·rw[if_neg q,hb3];simp[q]
  ·have e0:e≠0:=λq=>hl (h2.1 q);rw[if_neg (by simp[e0]),if_neg (λq=>hl q.1),k8]
   exact⟨rfl,by omega,hb3⟩
theorem d0b(l:List Int)(hl:l.length≤1000)(hb:∀h∈l,h≤9223372036854775807):a8y (hO x) l=some (lvo x l):=by
 unfold a8y;simp only[jn];rw[P7 l (λb h=>if h∈lv x.S∧h∉b then b ++ [h] else b) id (λk b=>b.length≤k) (by omega) (Nat.le_refl _) (λk hk b hb2=>?_) (λb hb=>by simp)]
 ·rfl
 ·simp only[Int.ofNat_lt,hk,decide_true,if_true,o8 hk,d4l,a6W hR (hb _ (List.getElem_mem hk))];by_cases hl:l[k]∈lv x.S
  ·have h0:l[k]≠0:=λe=>b2T hR (e▸hl);rw[decide_eq_true hl];simp only[beq_self_eq_true,G9,c5t b _ (by omega:b.length≤1000000),d4l,Bool.true_and]
   by_cases hm:l[k]∈b
   ·rw[if_neg (by simp[hm,h0]),if_neg (λq=>q.2 hm),k8]
    exact⟨rfl,by omega⟩
   ·rw[if_pos (by simp[hm]),if_pos ⟨hl,hm⟩,C6 (by omega) (by simp;omega),d4l,k8]
    exact⟨rfl,by simp;omega⟩
  ·rw[decide_eq_false hl];simp only[show ((false==true)=true)=False by simp,p7,if_false,d4l,Bool.false_and]
   rw[if_neg (by simp),if_neg (λq=>hl q.1),k8]
   exact⟨rfl,by omega⟩
end
end Go.Sh
namespace Go.Sh
theorem b4X{α β:Type}(p:α→Bool)(f:α→β):∀(xs:List α) (acc:List β),xs.foldl (λb x=>if p x then b ++ [f x] else b) acc=acc++(xs.filter p).map f
 | [],acc=>by simp
 | x::xs,acc=>by
  rw[List.foldl_cons,b4X p f xs];by_cases h:p x=true
  ·simp[h]
  ·simp[h]
theorem a1f{α:Type}{l:List α}{i:Nat}(h:i<l.length)(d:α):l.getD i d=l[i]:=by
 rw[List.getD_eq_getElem?_getD,List.getElem?_eq_getElem h];rfl
theorem c3J(c:g7)(ds:List Int)(hl:ds.length≤1000):a0T c ds=some (a4f ds c):=by
 unfold a0T a4f;rw[contains_eq _ _ (by omega)]
 cases (c.Intact&&c.Target != 0);·rfl
 ·simp[p7]
def pks(l:List g7)(ds:List Int):List Nat:=(List.range l.length).filter λw=>a4f ds (l.getD w cz)
theorem d0V{l:List g7}{ds:List Int}{w:Nat}(h:w∈pks l ds):w<l.length:=by
 unfold pks at h;rw[List.mem_filter,List.mem_range] at h;exact h.1
theorem c8G(l:List g7)(ds:List Int):(pks l ds).length≤l.length:=by
 unfold pks;exact Nat.le_trans (List.length_filter_le ..) (by simp)
theorem d0W(l:List g7)(ds:List Int):(pks l ds).Nodup:=List.Pairwise.filter _ List.nodup_range
theorem c7Z(l:List g7)(ds:List Int):cls l ds=(pks l ds).filter λw=>decide (0≤(l.getD w cz).Call):=by
 unfold cls pks;rw[List.filter_filter];refine List.filter_congr λw _=>?_;rw[Bool.and_comm]
def a6U(l:List Nat):List Int:=l.map λ(n:Nat)=>(n:Int)
theorem b7W{l:List Nat}{k:Nat}(h:k<l.length):ix (a6U l) (k:Int)=some ((l[k]:Nat):Int):=by
 unfold a6U;rw[a1g,o8 h];rfl
theorem a52(l:List Nat):(a6U l).length=l.length:=List.length_map ..
theorem c4c(l:List g7)(ds:List Int)(hl:l.length≤1000)(hd:ds.length≤1000):K4 l ds=some (a6U (pks l ds)):=by
 unfold K4;simp only[jn];have hr:(List.range l.length).length=l.length:=by simp
 have key:=P7 (List.range l.length) (λ(b:List Int) (w:Nat)=>if a4f ds (l.getD w cz) then b ++ [(w:Int)] else b) id (λk b=>b.length≤k) (b0:=[]) (f:=λ((s17,s18):Int × (List Int))=>
   if (decide (s17<(l.length:Int))) then
     (ix l s17).bind λv26=>
     (a0T v26 ds).bind λv27=>
     if v27 then
      (app 8 s18 [s17]).bind λv28=>
      some (Sum.inl (x6 (s17+1),v28))
     else
     some (.inl (x6 (s17+1),s18))
   else
   some (.inr s18)) (by omega) (Nat.le_refl _) (λk hk b hb=>?_) (λb hb=>by simp)
 ·rw[key,b4X];rfl
 ·rw[hr] at hk;simp only[Int.ofNat_lt,hk,decide_true,if_true,o8 hk,d4l,c3J _ _ hd,List.getElem_range,a1f hk];by_cases c:a4f ds l[k]=true
  ·rw[if_pos c,if_pos c,C6 (by omega) (by simp;omega),d4l,k8]
   exact⟨rfl,by simp;omega⟩
  ·rw[if_neg c,if_neg c,k8];exact⟨rfl,by omega⟩
theorem c3N(l:List g7)(hl:l.length≤1000):a0E l=some l:=by
 unfold a0E;rw[b48 (by omega) (by omega),d4l]
 unfold cpy;rw[if_pos (by simp),d4l]
 simp
def b07(l:List g7)(K:List Nat):List g7:=(List.range l.length).map λi=>if i∈K then ⟨(l.getD i cz).Target,false,(l.getD i cz).Call⟩ else l.getD i cz
theorem a5Q(l:List g7)(K:List Nat):(b07 l K).length=l.length:=by simp[b07]
theorem b08{l:List g7}{K:List Nat}{i:Nat}(h:i<(b07 l K).length):(b07 l K)[i]=if i∈K then ⟨(l.getD i cz).Target,false,(l.getD i cz).Call⟩ else l.getD i cz:=by simp[b07]
theorem c48(l:List g7):b07 l []=l:=by
 refine List.ext_getElem (a5Q ..) λi h1 h2=>?_;rw[b08,if_neg (by simp),a1f h2]
theorem c3L{l:List g7}{K:List Nat}{w:Nat}(hw:w<l.length):b07 l (K ++ [w])=(b07 l K).set w ⟨(l.getD w cz).Target,false,(l.getD w cz).Call⟩:=by
 refine List.ext_getElem (by rw[List.length_set,a5Q,a5Q]) λi h1 h2=>?_
 rw[b08,List.getElem_set];by_cases e:w=i
 ·subst e;rw[if_pos rfl,if_pos (by simp)]
 ·rw[if_neg e,b08];by_cases q:i∈K
  ·rw[if_pos (List.mem_append_left _ q),if_pos q]
  ·rw[if_neg,if_neg q];rw[List.mem_append,List.mem_singleton];exact λq2=>q2.elim q λq3=>e q3.symm
theorem c47(l:List g7)(ds:List Int):b07 l (pks l ds)=clr l ds:=by
 refine List.ext_getElem (by rw[a5Q];simp[clr]) λi h1 h2=>?_
 have hi:i<l.length:=by rw[a5Q] at h1;exact h1
 have ec:(clr l ds)[i]=a75 ds l[i]:=List.getElem_map _;rw[b08,ec,a1f hi];unfold a75;by_cases c:a4f ds l[i]=true
 ·rw[if_pos c,if_pos];unfold pks;rw[List.mem_filter,List.mem_range,a1f hi];exact⟨hi,c⟩
 ·rw[if_neg c,if_neg];unfold pks;rw[List.mem_filter,List.mem_range,a1f hi];exact λq=>c q.2
theorem a0S{α:Type}{l:List α}{k:Nat}(h:k<l.length):l.take (k+1)=l.take k ++ [l[k]]:=List.take_succ_eq_append_getElem h
theorem c46(l:List g7)(ds:List Int)(hl:l.length≤1000)(hd:ds.length≤1000):a4F l ds=some (clr l ds,a6U (cls l ds)):=by
 unfold a4F;rw[c4c l ds hl hd,d4l,c3N l hl,d4l];simp only[jn,a52];have hp:=c8G l ds;refine Z4 (pks l ds).length (λk (b:List g7 × List Int)=>b.1=b07 l ((pks l ds).take k)∧b.2=a6U (((pks l ds).take k).filter λw=>decide (0≤(l.getD w cz).Call))) (by omega) ⟨by simp[c48],by simp[a6U]⟩ ?_ ?_
 ·rintro k ⟨b1,b2⟩ hk ⟨rfl,rfl⟩;left;have hw:=d0V (List.getElem_mem hk);have hnm:(pks l ds)[k]∉(pks l ds).take k:=λq=>by
   have hn:=d0W l ds;rw[←List.take_append_drop k (pks l ds),List.nodup_append] at hn;exact hn.2.2 _ q (pks l ds)[k] (by rw[List.drop_eq_getElem_cons hk];exact List.mem_cons_self ..) rfl
  have h1:(pks l ds)[k]<(b07 l ((pks l ds).take k)).length:=by rw[a5Q];exact hw
  have e1:ix (b07 l ((pks l ds).take k)) (((pks l ds)[k]:Nat):Int)=some (l.getD (pks l ds)[k] cz):=by rw[o8 h1,b08,if_neg hnm]
  have h2:(pks l ds)[k]<((b07 l ((pks l ds).take k)).set (pks l ds)[k] ⟨(l.getD (pks l ds)[k] cz).Target,false,(l.getD (pks l ds)[k] cz).Call⟩).length:=by rw[List.length_set];exact h1
  have e2:ix ((b07 l ((pks l ds).take k)).set (pks l ds)[k] ⟨(l.getD (pks l ds)[k] cz).Target,false,(l.getD (pks l ds)[k] cz).Call⟩) (((pks l ds)[k]:Nat):Int)=some ⟨(l.getD (pks l ds)[k] cz).Target,false,(l.getD (pks l ds)[k] cz).Call⟩:=by rw[o8 h2,List.getElem_set_self]
  dsimp only;simp only[Int.ofNat_lt,hk,decide_true,if_true,b7W hk,d4l,e1,Int.toNat_natCast,e2];have hle:(a6U (((pks l ds).take k).filter λw=>decide (0≤(l.getD w cz).Call))).length≤1000:=by
   rw[a52];exact Nat.le_trans (List.length_filter_le ..) (by simp;omega)
  rw[a0S hk,c3L hw,List.filter_append];by_cases c:0≤(l.getD (pks l ds)[k] cz).Call
  ·rw[if_pos (decide_eq_true c),C6 (by omega) (by simp only[List.length_cons,List.length_nil];omega),d4l,k8]
   refine⟨_,rfl,rfl,?_⟩;rw[List.filter_cons,if_pos (decide_eq_true c)];simp[a6U]
  ·rw[if_neg (λq=>c (of_decide_eq_true q)),k8];refine⟨_,rfl,rfl,?_⟩;rw[List.filter_cons,if_neg (λq=>c (of_decide_eq_true q))];simp[a6U]
 ·rintro⟨b1,b2⟩ ⟨rfl,rfl⟩;refine⟨_,if_neg (by simp),?_⟩
  dsimp only;rw[List.take_length,c47,←c7Z]
theorem d1X(c:g7)(ds:List Int)(hd:ds.length≤1000):((p7 ((wcR c).Intact==true) 0 (a1x ds (wcR c).Target)).bind λv=>some ((wcR c).Intact&&decide (v > 0)))=some (a4f ds c):=by
 unfold a4f wcR;dsimp only;cases hI:c.Intact;·rfl
 ·simp only[beq_self_eq_true,G9];rw[a7m _ _ (by omega),d4l]
  congr 1;rw[Bool.true_and,Bool.true_and,Bool.eq_iff_iff];simp only[decide_eq_true_iff,Bool.and_eq_true,bne_iff_ne];have:=a7n (l:=ds) (h:=c.Target);constructor
  ·intro q;exact this.1 (by omega)
  ·intro q;have:=this.2 q;omega
theorem c7Y(l:List g7)(ds:List Int)(hl:l.length≤1000)(hd:ds.length≤1000):a9i (l.map wcR) ds=some ((clr l ds).map wcR,a6U (cls l ds)):=by
 unfold a9i;simp only[jn,List.length_map];refine Z4 l.length (λk (b:List l5 × List Int)=>b.1=((clr l ds).take k).map wcR∧b.2=a6U ((List.range k).filter λw=>a4f ds (l.getD w cz)&&decide (0≤(l.getD w cz).Call))) (by omega) ⟨by simp,by simp[a6U]⟩ ?_ ?_
 ·rintro k ⟨b1,b2⟩ hk ⟨rfl,rfl⟩;left;have hk2:k<(clr l ds).length:=by simp[clr];exact hk
  have e1:ix (l.map wcR) (k:Int)=some (wcR l[k]):=by rw[a1g,o8 hk];rfl
  have hle:(a6U ((List.range k).filter λw=>a4f ds (l.getD w cz)&&decide (0≤(l.getD w cz).Call))).length≤1000:=by
   rw[a52];exact Nat.le_trans (List.length_filter_le ..) (by simp;omega)
  dsimp only;simp only[Int.ofNat_lt,hk,decide_true,if_true,e1,d4l];obtain⟨v,hv,hv2⟩:=a74 (d1X l[k] ds hd);rw[hv,d4l];have hv2:=Option.some.inj hv2;rw[hv2,a0S hk2,List.map_append,List.range_succ,List.filter_append];have ec:(clr l ds)[k]=a75 ds l[k]:=List.getElem_map _;have lc:(List.map wcR (List.take k (clr l ds))).length≤1000:=by simp[clr];omega
  rw[ec];unfold a75;by_cases c:a4f ds l[k]=true
  ·rw[if_pos c,if_pos c];by_cases c2:0≤l[k].Call
   ·rw[if_pos (by simpa[wcR] using c2),C6 (by omega) (by simp only[List.length_cons,List.length_nil];omega),d4l,C6 (by omega) (by simp only[List.length_cons,List.length_nil];omega),d4l,k8]
    refine⟨_,rfl,rfl,?_⟩;simp only[List.filter_cons,List.filter_nil,a1f hk,c,c2,decide_true,Bool.and_self,if_true];simp[a6U]
   ·rw[if_neg (by simpa[wcR] using c2),C6 (by omega) (by simp only[List.length_cons,List.length_nil];omega),d4l,k8]
    refine⟨_,rfl,rfl,?_⟩;simp only[List.filter_cons,List.filter_nil,a1f hk,c,c2,decide_false,Bool.and_false,Bool.false_eq_true,if_false,List.append_nil]
  ·rw[if_neg c,if_neg c,C6 (by omega) (by simp only[List.length_cons,List.length_nil];omega),d4l,k8]
   refine⟨_,rfl,rfl,?_⟩;have c:a4f ds l[k]=false:=by simpa using c
   simp only[List.filter_cons,List.filter_nil,a1f hk,c,Bool.false_and,Bool.false_eq_true,if_false,List.append_nil]
 ·rintro⟨b1,b2⟩ ⟨rfl,rfl⟩;refine⟨_,if_neg (by simp),?_⟩
  dsimp only;rw[List.take_of_length_le (by simp[clr])]
  rfl
end Go.Sh
namespace Go.Sh
def clH(x:Hp)(ds:List Int):Hp:=⟨x.S,x.Roots,clr x.Cells ds,x.T,⟨x.Q.L++clt x.Cells ds,x.Q.Cap⟩⟩
theorem a2N(l:List g7)(ds:List Int):(clt l ds).length=(cls l ds).length:=List.length_map ..
theorem c49{l:List g7}{ds:List Int}{w:Nat}(h:w∈cls l ds):w<l.length:=by
 unfold cls at h;rw[List.mem_filter,List.mem_range] at h;exact h.1
theorem c5a{l:List g7}{ds:List Int}{k:Nat}(h:k<(clt l ds).length):(clt l ds)[k]=⟨2,(((cls l ds)[k]'(by rw[←a2N];exact h):Nat):Int),(l.getD ((cls l ds)[k]'(by rw[←a2N];exact h)) cz).Call⟩:=List.getElem_map _
theorem b9l{l:List g7}{ds:List Int}{w:Nat}(h:w<l.length):ix (clr l ds) (w:Int)=some (a75 ds l[w]):=by
 unfold clr;rw[a1g,o8 h];rfl
section
variable{x:Hp}{ds:List Int}(hc:x.Cells.length≤6)(hd:ds.length≤1000)(hq:(x.Q.L++clt x.Cells ds).length≤30)(hcap:x.Q.Cap=30)
include hc hd hq hcap
theorem b6M{k:Nat}(hk:k<(clt x.Cells ds).length):tad ⟨x.Q.L++(clt x.Cells ds).take k,x.Q.Cap⟩ (clt x.Cells ds)[k]=(⟨x.Q.L++(clt x.Cells ds).take (k+1),x.Q.Cap⟩,0):=by
 rw[List.length_append] at hq;unfold tad;rw[if_neg (by dsimp only;rw[List.length_append,List.length_take,hcap];omega),a0S hk,List.append_assoc]
theorem c0V:a18 x ds=some (clH x ds):=by
 unfold a18;rw[c46 _ _ (by omega) hd,d4l]
 dsimp only;simp only[jn,a52];have hq2:=hq;rw[List.length_append] at hq2;refine Z4 (cls x.Cells ds).length (λk (q:TQ)=>q=⟨x.Q.L++(clt x.Cells ds).take k,x.Q.Cap⟩) (by rw[←a2N];omega) (by simp) ?_ ?_
 ·rintro k q hk rfl;left;have hw:=c49 (List.getElem_mem hk);have hk2:k<(clt x.Cells ds).length:=by rw[a2N];exact hk
  simp only[Int.ofNat_lt,hk,decide_true,if_true,b7W hk,d4l,b9l hw];have et:(⟨2,(((cls x.Cells ds)[k]:Nat):Int),(a75 ds x.Cells[(cls x.Cells ds)[k]]).Call⟩:g8)=(clt x.Cells ds)[k]:=by
   rw[c5a,(b7x ds _).2.1,a1f hw]
  rw[et,c9G _ (by dsimp only;rw[List.length_append,List.length_take];omega),b6M hc hd hq hcap hk2,d4l,k8 (by rw[←a2N] at hk;omega)]
  exact⟨_,rfl,rfl⟩
 ·rintro q rfl;refine⟨_,if_neg (by simp),?_⟩
  rw[←a2N,List.take_length];rfl
theorem c9Y{K:u9→Option c7}:((lp (S:=Int × u9) (E:=u9) (λ((s68,s69):Int × u9)=>
   if (decide (s68<((a6U (cls x.Cells ds)).length:Int))) then
    (ix (a6U (cls x.Cells ds)) s68).bind λv72=>
    (ix ((clr x.Cells ds).map wcR) v72).bind λv73=>
    (a5f s69 (⟨2,v72,v73.Call⟩:n0)).bind λv74=>
    some (.inl (x6 (s68+1),v74.1))
   else
   some (.inr s69)) (0,tqR x.Q)).bind K)=K (tqR (clH x ds).Q):=by
 have hq2:=hq;rw[List.length_append] at hq2;have key:=a1X (f:=λ((s68,s69):Int × u9)=>
   if (decide (s68<((a6U (cls x.Cells ds)).length:Int))) then
    (ix (a6U (cls x.Cells ds)) s68).bind λv72=>
    (ix ((clr x.Cells ds).map wcR) v72).bind λv73=>
    (a5f s69 (⟨2,v72,v73.Call⟩:n0)).bind λv74=>
    some (Sum.inl (x6 (s68+1),v74.1))
   else
   some (.inr s69)) (t0:=tqR x.Q) (cls x.Cells ds).length (λk (q:u9)=>q=tqR ⟨x.Q.L++(clt x.Cells ds).take k,x.Q.Cap⟩) (λq=>q=tqR (clH x ds).Q) (by rw[←a2N];omega) (by simp) ?_ ?_
 ·obtain⟨e,h1,h2⟩:=key;rw[h1,d4l,h2]
 ·rintro k q hk rfl;left;have hw:=c49 (List.getElem_mem hk);have hk2:k<(clt x.Cells ds).length:=by rw[a2N];exact hk
  have ei:ix ((clr x.Cells ds).map wcR) (((cls x.Cells ds)[k]:Nat):Int)=some (wcR (a75 ds x.Cells[(cls x.Cells ds)[k]])):=by rw[a1g,b9l hw];rfl
  simp only[a52,Int.ofNat_lt,hk,decide_true,if_true,b7W hk,d4l,ei];have et:(⟨2,(((cls x.Cells ds)[k]:Nat):Int),(wcR (a75 ds x.Cells[(cls x.Cells ds)[k]])).Call⟩:n0)=tkR (clt x.Cells ds)[k]:=by
   rw[c5a,a1f hw];show (⟨2,_,(a75 ds x.Cells[(cls x.Cells ds)[k]]).Call⟩:n0)=_;rw[(b7x ds _).2.1];rfl
  rw[et,c9C _ (by dsimp only;rw[List.length_append,List.length_take];omega),b6M hc hd hq hcap hk2,d4l,k8 (by rw[←a2N] at hk;omega)]
  exact⟨_,rfl,rfl⟩
 ·rintro q rfl;refine⟨_,if_neg (by rw[a52];simp),?_⟩
  rw[←a2N,List.take_length];rfl
end
theorem b26(s:a7)(i:Nat)(c d:b8):H4 (H4 s i c) i d=H4 s i d:=by
 unfold H4;dsimp only;rw[List.set_set]
section
variable{s:a7}(hR:SR s){d:Int}(hd:d∈lv s)
include hR hd
def k1(s:a7)(d:Int):a7:=H4 s (D4 d) ⟨1,(ce s (D4 d)).Gen,ded (ob s d)⟩
def k2(s:a7)(d:Int):a7:=H4 s (D4 d) ⟨2,(ce s (D4 d)).Gen,ded (ob s d)⟩
theorem b7E:OkO s (ded (ob s d)):=by
 have ho:=K8 hR hd;exact⟨ho.s1,ho.s2,Int.le_refl _,ho.wk,ho.p1,ho.p2,Nat.zero_le _⟩
theorem c1h:seO s d (ded (ob s d))=k1 s d:=by
 have q:=z6 hR hd;unfold seO a12 k1 H4;rw[q.2.1]
theorem c9t:At (k1 s d) d (D4 d):=by
 have q:=z6 hR hd;refine⟨by unfold k1;rw[X4];exact q.1,?_,?_⟩
 ·unfold k1;rw[L3 q.1,if_pos rfl]
 ·unfold k1;rw[L3 q.1,if_pos rfl];exact q.2.2
theorem c9u:SR (k1 s d):=by rw[←c1h hR hd];exact a1p (o:=ded (ob s d)) hR hd rfl (b7E hR hd)
theorem c9x:SR (k2 s d):=by
 have q:=z6 hR hd;have hc:=hR.cell _ q.1;unfold k2;refine hR.H4 q.1 ⟨by simp,by simp,hc.2.2.1,hc.2.2.2⟩ (λq=>absurd (.inr rfl) q) (λ_=>⟨b7E hR hd,.inl q.2.1,?_⟩)
 show (ob s d).Serial=_;rw[P5 hR q]
theorem c9v:V3 (k2 s d) d (D4 d):=by
 have q:=z6 hR hd;refine⟨by unfold k2;rw[X4];exact q.1,?_,?_⟩
 ·unfold k2;rw[L3 q.1,if_pos rfl];exact .inr rfl
 ·unfold k2;rw[L3 q.1,if_pos rfl];exact q.2.2
theorem c8d:T2 (k1 s d).S d=some ((k2 s d).S,0):=by
 have q:=z6 hR hd;have hR1:=c9u hR hd;have q1:=c9t hR hd;have hr:=K1 hR hd;have hlen:=hR1.len;have hH:Hnd d:=((b0t hR1).2 q1.d).2.1;have hsl:(d-1) % 32=(D4 d:Nat):=((b0t hR1).2 q1.d).2.2.1;have hg:(d-1) / 32=(ce s (D4 d)).Gen:=by
  have:=q.2.2;have h24:=hR.len;have:=q.1;omega
 unfold T2 D8;rw[a3J hR1 q1.d,d4l,if_neg (by simp),b6W q1.1,d4l,q1.2.1,if_neg (by simp),d4l,if_neg (by simp),a4e (by omega),d4l,if_pos hH,hsl,a5B (by omega),d4l,if_pos hH,hg,a6v rfl q1.1 hlen,d4l]
 have e:(ce (k1 s d) (D4 d)).Val=ded (ob s d):=by unfold k1;rw[L3 q.1,if_pos rfl]
 rw[e];congr 2;show (H4 (k1 s d) (D4 d) _).S=(k2 s d).S;unfold k1 k2;rw[b26]
theorem c9q(hw:(ob s d).Weak=0):gvA (k2 s d) (D4 d)=gnA s d:=by
 have q:=z6 hR hd;have e:ce (k2 s d) (D4 d)=⟨2,(ce s (D4 d)).Gen,ded (ob s d)⟩:=by unfold k2;rw[L3 q.1,if_pos rfl]
 unfold gvA gnA gnC;rw[e];rw[P5 hR q] at hw;rw[if_pos hw];unfold k2;rw[b26];rfl
theorem c9w(hw:(ob s d).Weak≠0):k2 s d=gnA s d:=by
 have q:=z6 hR hd;unfold k2 gnA gnC;rw[P5 hR q] at hw ⊢;rw[if_neg hw]
end
theorem c32{x:Hp}(hR:SR x.S){d:Int}(hd:d∈lv x.S):Y3 x d=some (wS x (gnA x.S d)):=by
 unfold Y3;rw[b4Z hR hd,d4l];have e1:L0 x.S d (⟨(ob x.S d).Serial,0,(ob x.S d).Weak,(ob x.S d).Prog,(ob x.S d).Started,[]⟩:k9)=some (k1 x.S d,0):=by
  rw[←c1h hR hd];exact b2e (o:=ded (ob x.S d)) hR hd rfl (b7E hR hd)
 rw[e1,d4l,c8d hR hd,d4l];by_cases hw:(ob x.S d).Weak=0
 ·rw[if_pos (by simpa using hw),c2G (c9x hR hd) (c9v hR hd),d4l,c9q hR hd hw]
  rfl
 ·rw[if_neg (by simpa using hw)]
  show some (wS x (k2 x.S d))=_;rw[c9w hR hd hw]
theorem d0w{s:a7}(hR:SR s){d:Int}(hd:d∈lv s):b1P (sO (k1 s d)) d=some (sO (k2 s d)):=by
 have q:=z6 hR hd;have hR1:=c9u hR hd;have q1:=c9t hR hd;have hlen:=hR1.len;have hr:=K1 hR hd;have hi:=q1.1;have hi2:D4 d<(sO (k1 s d)).Cells.length:=by rw[B2];exact hi
 have M1:D4 d<(pl (sO (k1 s d))).Cells.length:=by rw[a1o];exact hi2
 have hlen2:(sO (k1 s d)).Cells.length≤24:=by rw[B2];exact hlen
 unfold b1P b5q b1K;rw[a2V _ (by omega),d4l,b0s (k1 s d) (by omega),a3J hR1 q1.d,d4l,if_neg (by simp),b9S hi2,d4l]
 have hst:(plc (D4 d) (sO (k1 s d)).Cells[D4 d]).State=1:=by
  have:=q1.2.1;rw[F0 hi] at this;simpa[plc,sO,cO] using this
 have hgen:(plc (D4 d) (sO (k1 s d)).Cells[D4 d]).Gen=(ce s (D4 d)).Gen:=by
  have:(ce (k1 s d) (D4 d)).Gen=(ce s (D4 d)).Gen:=by unfold k1;rw[L3 q.1,if_pos rfl]
  rw[F0 hi] at this;simpa[plc,sO,cO] using this
 rw[hst,if_neg (by simp),d4l,if_neg (by simp),d4l]
 dsimp only;rw[b9S hi2,d4l];have w3:∀c:x4,X0 (pl (sO (k1 s d))) ((D4 d:Nat):Int) c=some ⟨(pl (sO (k1 s d))).Cells.set (D4 d) c,(pl (sO (k1 s d))).Last⟩:=λc=>by
  unfold X0;rw[Q2 (by omega) (by rw[a1o];omega),d4l,o8 M1,d4l,Int.toNat_natCast]
 rw[w3,d4l,d4l,b5U _ _ (by omega) (by simp[a1o]),d4l,hgen]
 unfold k2;rw[←b26 s (D4 d) ⟨1,(ce s (D4 d)).Gen,ded (ob s d)⟩,c3h];show some _=some (⟨(sO (k1 s d)).Cells.set (D4 d) _,_,_⟩:k7);congr 1;congr 1;refine List.ext_getElem (by simp) λk h1 h2=>?_
 have hk:k<(k1 s d).S.Cells.length:=by simpa[B2] using h1
 have hk2:k<(sO (k1 s d)).Cells.length:=by rw[B2];exact hk
 have hk3:k<(pl (sO (k1 s d))).Cells.length:=by rw[a1o];exact hk2
 simp only[List.getElem_map,List.getElem_range,List.getElem_set];rw[a5U M1,a1f hk2,a1f hk3];by_cases e:k=D4 d
 ·subst e;rw[if_pos rfl,if_pos rfl];have e2:(sO (k1 s d)).Cells[D4 d].Val=oo (ded (ob s d)):=by
   have:(ce (k1 s d) (D4 d)).Val=ded (ob s d):=by unfold k1;rw[L3 q.1,if_pos rfl]
   rw[←this,F0 hi];simp[sO,cO]
  rw[e2];rfl
 ·rw[if_neg e,if_neg (Ne.symm e)];simp[sO,pl,plc,cO]
theorem d0j{x:Hp}(hR:SR x.S){d:Int}(hd:d∈lv x.S):a6h (hO x) d=some (hO (wS x (gnA x.S d))):=by
 unfold a6h;rw[show (hO x).S=sO x.S from rfl,b1g hR hd,d4l];have e1:N6 (sO x.S) d (⟨(oo (ob x.S d)).Serial,0,(oo (ob x.S d)).Weak,(oo (ob x.S d)).Prog,(oo (ob x.S d)).Started,[]⟩:B0)=some (sO (k1 x.S d),0):=by
  rw[←c1h hR hd];exact b2f (o:=ded (ob x.S d)) hR hd rfl (b7E hR hd)
 rw[e1,d4l,d0w hR hd,d4l];by_cases hw:(ob x.S d).Weak=0
 ·rw[if_pos (by simpa[oo] using hw),c5q (c9x hR hd) (c9v hR hd),d4l,c9q hR hd hw]
  rfl
 ·rw[if_neg (by simpa[oo] using hw)]
  show some (hO (wS x (k2 x.S d)))=_;rw[c9w hR hd hw]
end Go.Sh
namespace Go.Sh
theorem c3d:∀(l:List Int) {x:Hp},SR x.S→SR (l.foldl R8 x).S
 | [],x,h=>h
 | v::l,x,h=>c3d l (x:=R8 x v) (c1O h v)
theorem b8z:∀(l:List Int) {x:Hp},SR x.S→SL x→SL (l.foldl R8 x)
 | [],x,_,h=>h
 | v::l,x,hR,h=>b8z l (x:=R8 x v) (c1O hR v) (h.rls hR v)
theorem c4j(l:List Int){k:Nat}(hk:k<l.length)(x:Hp):(l.take (k+1)).foldl R8 x=R8 ((l.take k).foldl R8 x) l[k]:=by
 rw[a0S hk,List.foldl_append];rfl
theorem b8w{y:Hp}(hR:SR y.S)(l:List Int)(hl:l.length≤1000000)(hb:∀v∈l,v≤9223372036854775807){K:Hp→Option Hp}:((lp (S:=Int × b7) (E:=b7) (λ((s35,s36):Int × b7)=>
     if (decide (s35<(l.length:Int))) then
      (ix l s35).bind λv39=>
      (D0 s36 v39).bind λv40=>
      some (.inl (x6 (s35+1),v40))
     else
     some (.inr s36)) (0,y)).bind K)=K (l.foldl R8 y):=by
 have key:=P7 l R8 id (λk z=>SR z.S) (b0:=y) (f:=λ((s35,s36):Int × b7)=>
     if (decide (s35<(l.length:Int))) then
      (ix l s35).bind λv39=>
      (D0 s36 v39).bind λv40=>
      some (Sum.inl (x6 (s35+1),v40))
     else
     some (.inr s36)) (by omega) hR (λk hk z hz=>?_) (λz hz=>by simp)
 ·rw[key,d4l];rfl
 ·simp only[Int.ofNat_lt,hk,decide_true,if_true,o8 hk,d4l,a2E hz (hb _ (List.getElem_mem hk))];rw[k8];exact⟨rfl,c1O hz _⟩
theorem b5x{y:Hp}(hR:SR y.S)(l:List Int)(hl:l.length≤1000000)(hb:∀v∈l,v≤9223372036854775807){K:c7→Option c7}:((lp (S:=Int × c7) (E:=c7) (λ((s45,s46):Int × c7)=>
      if (decide (s45<(l.length:Int))) then
       (ix l s45).bind λv49=>
       (E4 s46 v49).bind λv50=>
       some (.inl (x6 (s45+1),v50))
      else
      some (.inr s46)) (0,hO y)).bind K)=K (hO (l.foldl R8 y)):=by
 have key:=a1X (f:=λ((s45,s46):Int × c7)=>
      if (decide (s45<(l.length:Int))) then
       (ix l s45).bind λv49=>
       (E4 s46 v49).bind λv50=>
       some (Sum.inl (x6 (s45+1),v50))
      else
      some (.inr s46)) (t0:=hO y) l.length (λk z=>z=hO ((l.take k).foldl R8 y)) (λz=>z=hO (l.foldl R8 y)) (by omega) rfl ?_ ?_
 ·obtain⟨e,h1,h2⟩:=key;rw[h1,d4l,h2]
 ·rintro k z hk rfl;left;have hz:=c3d (l.take k) hR;simp only[Int.ofNat_lt,hk,decide_true,if_true,o8 hk,d4l,a31 hz (hb _ (List.getElem_mem hk))];rw[k8,←c4j l hk];exact⟨_,rfl,rfl⟩
 ·rintro z rfl;exact⟨_,if_neg (by simp),by rw[List.take_length]⟩
theorem b9u(s:a7)(ds:List Int){k:Nat}(hk:k<ds.length):gnL s (ds.take (k+1))=gnA (gnL s (ds.take k)) ds[k]:=by
 unfold gnL;rw[a0S hk,List.foldl_append];rfl
section
variable{y:Hp}(hR:SR y.S){ds:List Int}(hn:ds.Nodup)(hm:∀d∈ds,d∈lv y.S)
include hR hn hm
theorem b43{k:Nat}(hk:k<ds.length):SR (gnL y.S (ds.take k))∧ds[k]∈lv (gnL y.S (ds.take k)):=by
 have g:=a3r (ds.take k) hR ((List.take_sublist k ds).nodup hn) λd hd=>hm d (List.mem_of_mem_take hd);refine⟨g.sr,?_⟩;rw[g.lv,List.mem_filter,decide_eq_true_iff];refine⟨hm _ (List.getElem_mem hk),λq=>?_⟩;rw[←List.take_append_drop k ds,List.nodup_append] at hn;exact hn.2.2 _ q ds[k] (by rw[List.drop_eq_getElem_cons hk];exact List.mem_cons_self ..) rfl
theorem c31(hl:ds.length≤1000){K:Hp→Option Hp}:((lp (S:=Int × b7) (E:=b7) (λ((s42,s43):Int × b7)=>
    if (decide (s42<(ds.length:Int))) then
     (ix ds s42).bind λv46=>
     (Y3 s43 v46).bind λv47=>
     some (.inl (x6 (s42+1),v47))
    else
    some (.inr s43)) (0,y)).bind K)=K (wS y (gnL y.S ds)):=by
 have key:=a1X (f:=λ((s42,s43):Int × b7)=>
    if (decide (s42<(ds.length:Int))) then
     (ix ds s42).bind λv46=>
     (Y3 s43 v46).bind λv47=>
     some (Sum.inl (x6 (s42+1),v47))
    else
    some (.inr s43)) (t0:=y) ds.length (λk z=>z=wS y (gnL y.S (ds.take k))) (λz=>z=wS y (gnL y.S ds)) (by omega) rfl ?_ ?_
 ·obtain⟨e,h1,h2⟩:=key;rw[h1,d4l,h2]
 ·rintro k z hk rfl;left;obtain⟨h1,h2⟩:=b43 hR hn hm hk;simp only[Int.ofNat_lt,hk,decide_true,if_true,o8 hk,d4l,c32 (x:=wS y (gnL y.S (ds.take k))) h1 h2];rw[k8,b9u _ _ hk];exact⟨_,rfl,rfl⟩
 ·rintro z rfl;exact⟨_,if_neg (by simp),by rw[List.take_length]⟩
theorem b9E(hl:ds.length≤1000){K:c7→Option c7}:((lp (S:=Int × c7) (E:=c7) (λ((s52,s53):Int × c7)=>
     if (decide (s52<(ds.length:Int))) then
      (ix ds s52).bind λv56=>
      (a6h s53 v56).bind λv57=>
      some (.inl (x6 (s52+1),v57))
     else
     some (.inr s53)) (0,hO y)).bind K)=K (hO (wS y (gnL y.S ds))):=by
 have key:=a1X (f:=λ((s52,s53):Int × c7)=>
     if (decide (s52<(ds.length:Int))) then
      (ix ds s52).bind λv56=>
      (a6h s53 v56).bind λv57=>
      some (Sum.inl (x6 (s52+1),v57))
     else
     some (.inr s53)) (t0:=hO y) ds.length (λk z=>z=hO (wS y (gnL y.S (ds.take k)))) (λz=>z=hO (wS y (gnL y.S ds))) (by omega) rfl ?_ ?_
 ·obtain⟨e,h1,h2⟩:=key;rw[h1,d4l,h2]
 ·rintro k z hk rfl;left;obtain⟨h1,h2⟩:=b43 hR hn hm hk;simp only[Int.ofNat_lt,hk,decide_true,if_true,o8 hk,d4l,d0j (x:=wS y (gnL y.S (ds.take k))) h1 h2];rw[k8,b9u _ _ hk];exact⟨_,rfl,rfl⟩
 ·rintro z rfl;exact⟨_,if_neg (by simp),by rw[List.take_length]⟩
end
section
variable{x:Hp}(hx:S9 x){ds:List Int}(hn:ds.Nodup)(hm:∀d∈ds,d∈lv x.S)
include hx hn hm
theorem b7G:ds.length≤24:=Nat.le_trans (b1E hn hm) (a1Y (y4.2 hx.sh.sr))
theorem b7L{d:Int}(hd:d∈lv x.S):(ob x.S d).Fields.length≤4:=(K8 hx.sh.sr hd).fl
theorem b74{d:Int}(hd:d∈lv x.S):(outs x.S d).length≤4:=Nat.le_trans (c1o _) (b7L hx hn hm hd)
theorem a87:∀(l:List Int),(∀d∈l,d∈lv x.S)→(l.flatMap (outs x.S)).length≤4*l.length
 | [],_=>by simp
 | d::l,h=>by
  rw[List.flatMap_cons,List.length_append,List.length_cons];have:=a87 l λe he=>h e (List.mem_cons_of_mem _ he);have:=b74 hx hn hm (h d (List.mem_cons_self ..));omega
theorem c2Y:∀v∈ds.flatMap (outs x.S)++(wot x.T ds).2,v≤9223372036854775807:=λv hv=>by
 rcases List.mem_append.1 hv with q | q
 ·obtain⟨d,hd,q⟩:=List.mem_flatMap.1 q;obtain⟨q,_⟩:=b0y.1 q;rcases hx.sh.fl d (hm d hd) v q with e | e
  ·omega
  ·exact a44 hx.sh.sr e
 ·by_cases h0:v=0
  ·omega
  ·have hl:=b7G hx hn hm;have h3:=(a6w hx.sh.hr ds (by omega)).2.2.2.2.2 v
   have h4:=a7n.2 ⟨h0,q⟩;have h5:0<own x.T v:=by omega
   obtain⟨p,hp,hq⟩:=List.countP_pos_iff.1 h5;have hq:(v != 0&&p.Val==v)=true:=hq;rw[Bool.and_eq_true,beq_iff_eq] at hq;have:=(hx.sh.pr _ _ (a49.1 hp)).2;rw[hq.2] at this;exact a44 hx.sh.sr this
theorem b9Q:(ds.flatMap (outs x.S)++(wot x.T ds).2).length≤200:=by
 have hl:=b7G hx hn hm;have h1:=a87 hx hn hm ds hm;have h2:=(a6w hx.sh.hr ds (by omega)).2.2.1
 rw[List.length_append];omega
theorem c7W(hq:(x.Q.L++clt x.Cells ds).length≤30){l:List Int}(h1:U7 x l=some ds):a1z x l=some (buH x ds):=by
 have hl:=b7G hx hn hm;have hR:=hx.sh.sr;obtain⟨w1,w2,w3,w4,w5,w6⟩:=a6w hx.sh.hr ds (by omega)
 have ol:=b9Q hx hn hm;have fl:=a87 hx hn hm ds hm;unfold a1z;rw[h1,d4l,c0V (by have:=hx.sh.c6;omega) (by omega) hq hx.sh.cap,d4l]
 simp only[jn];have key:=P7 ds (λb d=>b++outs x.S d) id (λk b=>b.length≤4*k) (b0:=[]) (f:=λ((s49,s50):Int × (List Int))=>
   if (decide (s49<(ds.length:Int))) then
    (ix ds s49).bind λv53=>
    (y5 (clH x ds).S v53).bind λv54=>
    (a32 v54.1.Fields).bind λv55=>
    (app 8 s50 v55).bind λv56=>
    some (Sum.inl (x6 (s49+1),v56))
   else
   some (.inr s50)) (by omega) (by simp) (λk hk b hb=>?_) (λb hb=>by simp)
 ·rw[key,d4l,b0u,List.nil_append];dsimp only[id];rw[show (clH x ds).T=x.T from rfl,w1,d4l];have ol2:=ol;rw[List.length_append] at ol2;rw[C6 (by omega) (by omega),d4l]
  have k1:=c31 (y:=⟨(clH x ds).S,(clH x ds).Roots,(clH x ds).Cells,(wot x.T ds).1,(clH x ds).Q⟩) hR hn hm (by omega) (K:=λe=>(lp (S:=Int × b7) (E:=b7) (λ((s35,s36):Int × b7)=>
     if (decide (s35<((ds.flatMap (outs x.S)++(wot x.T ds).2).length:Int))) then
      (ix (ds.flatMap (outs x.S)++(wot x.T ds).2) s35).bind λv39=>
      (D0 s36 v39).bind λv40=>
      some (.inl (x6 (s35+1),v40))
     else
     some (.inr s36)) (0,e)).bind λe34=>some e34)
  refine Eq.trans k1 ?_;have g:=a3r ds hR hn hm;have k2:=b8w (y:=wS (⟨(clH x ds).S,(clH x ds).Roots,(clH x ds).Cells,(wot x.T ds).1,(clH x ds).Q⟩:Hp) (gnL x.S ds)) g.sr _ (by omega) (c2Y hx hn hm) (K:=λe34=>some e34)
  refine Eq.trans k2 ?_;rfl
 ·have hd:=hm _ (List.getElem_mem hk);have f4:=b7L hx hn hm hd;have o4:=b74 hx hn hm hd;simp only[Int.ofNat_lt,hk,decide_true,if_true,o8 hk,d4l,show (clH x ds).S=x.S from rfl,b4Z hR hd,b9K _ (by omega:(ob x.S ds[k]).Fields.length≤1000000)]
  have e:nz (ob x.S ds[k]).Fields=outs x.S ds[k]:=rfl;rw[e,C6 (by omega) (by omega),d4l,k8]
  exact⟨rfl,by rw[List.length_append];omega⟩
theorem c3I(hq:(x.Q.L++clt x.Cells ds).length≤30){l:List Int}(h1:a8y (hO x) l=some ds):a8x (hO x) l=some (hO (buH x ds)):=by
 have hl:=b7G hx hn hm;have hR:=hx.sh.sr;obtain⟨w1,w2,w3,w4,w5,w6⟩:=a6w hx.sh.hr ds (by omega)
 have ol:=b9Q hx hn hm;have fl:=a87 hx hn hm ds hm;have c6:=hx.sh.c6;unfold a8x;rw[h1,d4l,show (hO x).Cells=x.Cells.map wcR from rfl,c7Y _ _ (by omega) (by omega),d4l]
 simp only[jn];rw[show (hO x).Q=tqR x.Q from rfl,c9Y (by omega) (by omega) hq hx.sh.cap]
 have key:=P7 ds (λb d=>b++outs x.S d) id (λk b=>b.length≤4*k) (b0:=[]) (f:=λ((s59,s60):Int × (List Int))=>
    if (decide (s59<(ds.length:Int))) then
     (ix ds s59).bind λv63=>
     (F9 (hO x).S v63).bind λv64=>
     (a2x v64.1.Fields).bind λv65=>
     (app 8 s60 v65).bind λv66=>
     some (Sum.inl (x6 (s59+1),v66))
    else
    some (.inr s60)) (by omega) (by simp) (λk hk b hb=>?_) (λb hb=>by simp)
 ·rw[key,d4l,b0u,List.nil_append];dsimp only[id];rw[show (hO x).T=x.T.map M1 from rfl,w4,d4l];dsimp only;have ol2:=ol;rw[List.length_append] at ol2;rw[C6 (by omega) (by omega),d4l]
  have k1:=b9E (y:=⟨(clH x ds).S,(clH x ds).Roots,(clH x ds).Cells,(wot x.T ds).1,(clH x ds).Q⟩) hR hn hm (by omega) (K:=λe=>(lp (S:=Int × c7) (E:=c7) (λ((s45,s46):Int × c7)=>
      if (decide (s45<((ds.flatMap (outs x.S)++(wot x.T ds).2).length:Int))) then
       (ix (ds.flatMap (outs x.S)++(wot x.T ds).2) s45).bind λv49=>
       (E4 s46 v49).bind λv50=>
       some (.inl (x6 (s45+1),v50))
      else
      some (.inr s46)) (0,e)).bind λe44=>some e44)
  refine Eq.trans k1 ?_;have g:=a3r ds hR hn hm;have k2:=b5x (y:=wS (⟨(clH x ds).S,(clH x ds).Roots,(clH x ds).Cells,(wot x.T ds).1,(clH x ds).Q⟩:Hp) (gnL x.S ds)) g.sr _ (by omega) (c2Y hx hn hm) (K:=λe44=>some e44)
  refine Eq.trans k2 ?_;rfl
 ·have hd:=hm _ (List.getElem_mem hk);have f4:=b7L hx hn hm hd;have o4:=b74 hx hn hm hd;simp only[Int.ofNat_lt,hk,decide_true,if_true,o8 hk,d4l,show (hO x).S=sO x.S from rfl,b1g hR hd];have e:a2x (oo (ob x.S ds[k])).Fields=some (outs x.S ds[k]):=b5a _ (by show (ob x.S ds[k]).Fields.length≤_;omega)
  rw[e,d4l,C6 (by omega) (by omega),d4l,k8]
  exact⟨rfl,by rw[List.length_append];omega⟩
end
end Go.Sh
namespace Go.Sh
theorem c7U{x:Hp}(hR:SR x.S)(hS:SL x){ds:List Int}(hn:ds.Nodup)(hm:∀d∈ds,d∈lv x.S)(t:Tb):SL (a5O x ds t):=λk hk=>by
 have g:=a3r ds hR hn hm;have hk:k∈lv (gnL x.S ds):=hk;rw[g.lv,List.mem_filter,decide_eq_true_iff] at hk;have e:ob (a5O x ds t).S k=ob x.S k:=g.ob k hk.1 hk.2;rw[e];exact hS k hk.1
theorem c92{x:Hp}(hR:SR x.S)(hS:SL x){ds:List Int}(hn:ds.Nodup)(hm:∀d∈ds,d∈lv x.S):SL (buH x ds):=
 b8z _ (x:=a5O x ds (wot x.T ds).1) (a3r ds hR hn hm).sr (c7U hR hS hn hm _)
theorem d05{x:Hp}(hR:SR x.S)(hS:SL x){h:Int}(hh:h∈lv x.S):SL (quH x h):=by
 have hok:=b8M hR hh;have r1:=a1p (o:=srt (ob x.S h)) hR hh rfl hok;refine SL.C3 (x:=⟨seO x.S h (srt (ob x.S h)),x.Roots,x.Cells,x.T,⟨x.Q.L ++ [qtk x h],x.Q.Cap⟩⟩) (λk hk=>?_) r1 h;dsimp only at hk ⊢;rw[a4z (o:=srt (ob x.S h)) hR hh rfl hok] at hk;rw[a3y (o:=srt (ob x.S h)) hR hh rfl hok (a44 hR hk)];split;·exact hS h hh
 ·exact hS k hk
theorem d1q{x:Hp}(hx:S9 x)(hS:SL x):SL (stp x):=by
 cases h:zr x with
 | nil=>rw[a9C h];exact hS
 | cons z l=>
  have hz:=(a4H.1 (show z∈zr x by rw[h];exact List.mem_cons_self ..)).1
  rw[a4C h];split;·exact d05 hx.sh.sr hS hz
  ·exact c92 hx.sh.sr hS (by simp) (by simpa using hz)
theorem b8N{x:Hp}(hx:S9 x)(hS:SL x)(n:Nat):SL (stN n x):=by
 induction n with
 | zero=>exact hS
 | succ n ih=>rw[a2b];exact d1q (a0Q hx n) ih
theorem c3l{x:Hp}(hx:S9 x)(hS:SL x):SL (a17 x):=b8N hx hS 100
section
variable{x:Hp}(hx:S9 x)(hS:SL x)
include hx hS
theorem b7k{z:Int}(hz:z∈zr x):(x.Q.L++clt x.Cells [z]).length≤30:=by
 have h1:=(b56 hx hz).sh.q30;have hzl:=(a4H.1 hz).1;rw[(b9i hx.sh.sr (ds:=[z]) (by simp) (by simpa using hzl)).2.2.2] at h1
 exact h1
theorem c4k(h:zr x = []):((a1A x).bind λv4=>
  if ((v4.length:Int)==0) then
   some (Sum.inr x)
  else
  (ix v4 0).bind λv5=>
  (y5 x.S v5).bind λv6=>
  (M4 v6.1).bind λv7=>
  if v7 then
   (Y2 x v5).bind λv8=>
   some (.inl v8)
  else
  (cut v4 0 1).bind λv9=>
  (a1z x v9).bind λv10=>
  some (Sum.inl (α:=Hp) (β:=Hp) v10))=some (.inr x):=by
 rw[zero_eq hx.sh.sr,d4l,h];rfl
theorem d1R(z:Int)(l:List Int):cut (z::l) 0 1=some [z]:=by
 unfold cut;rw[if_pos (by simp;omega)]
 simp
theorem c1Q(h:zr x ≠ []):((a1A x).bind λv4=>
  if ((v4.length:Int)==0) then
   some (Sum.inr x)
  else
  (ix v4 0).bind λv5=>
  (y5 x.S v5).bind λv6=>
  (M4 v6.1).bind λv7=>
  if v7 then
   (Y2 x v5).bind λv8=>
   some (.inl v8)
  else
  (cut v4 0 1).bind λv9=>
  (a1z x v9).bind λv10=>
  some (Sum.inl (α:=Hp) (β:=Hp) v10))=some (.inl (stp x)):=by
 cases hz:zr x with
 | nil=>exact absurd hz h
 | cons z l=>
  have hzm:z∈zr x:=by rw[hz];exact List.mem_cons_self ..
  have hzl:=(a4H.1 hzm).1;have hR:=hx.sh.sr;rw[zero_eq hR,d4l,hz,if_neg (by simp;omega),show ix (z::l) 0=some z from rfl,d4l,b4Z hR hzl,d4l,c2Z,d4l,a4C hz]
  by_cases hd:due (ob x.S z)=true
  ·rw[if_pos hd,if_pos hd,c4d hx hS (a44 hR hzl),d4l];unfold quD;rw[if_pos ⟨hzl,hd⟩]
  ·rw[if_neg hd,if_neg hd,d1R hx hS,d4l,c7W hx (ds:=[z]) (by simp) (by simpa using hzl) (b7k hx hS hzm) (by rw[b7Z hR [z] (by simp) (by simpa using a44 hR hzl),b9G hzl]),d4l]
theorem a6n:R9 x=some (a17 x):=by
 obtain⟨n,hn,h1,h2,h3⟩:=b27 hx;unfold R9;refine a54 (λj=>stN j x) rfl n (λ_=>True) (by omega) trivial (λk hk _=>.inl ⟨?_,trivial⟩) (λ_=>⟨stN n x,?_,by rw[h3]⟩)
 ·have:=c1Q (a0Q hx k) (b8N hx hS k) (h2 k hk);rw[←a2b] at this;exact this
 ·exact c4k (a0Q hx n) (b8N hx hS n) h1
theorem c8N{k:Nat}(hk:k<100)(h:zr x ≠ []){E:Type}{e:E}:((a6g (hO x)).bind λv35=>
     if ((v35.length:Int)==0) then
      some (Sum.inr e)
     else
     (ix v35 0).bind λv36=>
     (a9u (hO x) v36).bind λv37=>
     if v37 then
      (a4q (hO x) v36).bind λv38=>
      some (.inl (x6 ((k:Int)+1),v38))
     else
     (cut v35 0 1).bind λv39=>
     (a8x (hO x) v39).bind λv40=>
     some (Sum.inl (x6 ((k:Int)+1),v40)))=some (.inl (((k+1:Nat):Int),hO (stp x))):=by
 cases hz:zr x with
 | nil=>exact absurd hz h
 | cons z l=>
  have hzm:z∈zr x:=by rw[hz];exact List.mem_cons_self ..
  have hzl:=(a4H.1 hzm).1;have hR:=hx.sh.sr;rw[c19 hR,d4l,hz,if_neg (by simp;omega),show ix (z::l) 0=some z from rfl,d4l,c9k hx hS (a44 hR hzl),d4l,decide_eq_true hzl,Bool.true_and,a4C hz,k8]
  by_cases hd:due (ob x.S z)=true
  ·rw[if_pos hd,if_pos hd,c6n hx hS (a44 hR hzl),d4l];unfold quD;rw[if_pos ⟨hzl,hd⟩]
  ·rw[if_neg hd,if_neg hd,d1R hx hS,d4l,c3I hx (ds:=[z]) (by simp) (by simpa using hzl) (b7k hx hS hzm) (by rw[d0b hR [z] (by simp) (by simpa using a44 hR hzl),b9G hzl]),d4l]
theorem a8L:P9 (hO x)=some (hO (a17 x)):=by
 obtain⟨n,hn,h1,h2,h3⟩:=b27 hx;unfold P9;simp only[jn];refine a54 (λj=>((j:Int),hO (stN j x))) (by rfl) n (λ_=>True) (by omega) trivial (λk hk _=>.inl ⟨?_,trivial⟩) (λ_=>⟨.inl (hO (stN n x)),?_,by rw[h3]⟩)
 ·dsimp only;rw[if_pos (by simp;omega)]
  have:=c8N (a0Q hx k) (b8N hx hS k) (k:=k) (by omega) (h2 k hk) (e:=(Sum.inl (hO (stN k x)):c7 ⊕ c7))
  rw[←a2b] at this;exact this
 ·dsimp only;rw[if_pos (by simp;omega),c19 (a0Q hx n).sh.sr,d4l,h1]
  rfl
end
end Go.Sh
namespace Go.Sh
def O0(n l m e:Int):Int:=if n<l∨n > m then e else 0
def a0U(a b c:Int):Int:=if a≠0 then a else if b≠0 then b else c
def C8(k a b c:Int):Int:=
 if k=1 then a0U (O0 a 0 5 6) (O0 b 0 4 1) (O0 c (-1) 5 13)
 else if k=2∨k=9∨k=10 then a0U (O0 a 0 5 6) (O0 b 0 5 6) 0
 else if k=3 then O0 a 0 5 6
 else if k=4 then a0U (O0 a 0 5 6) (O0 b 0 5 6) (O0 c 0 3 5)
 else if k=5 then a0U (O0 a 0 5 6) (O0 b 0 3 5) (O0 c (-1) 5 6)
 else if k=6 then a0U (O0 a 0 5 7) (O0 b (-1) 5 6) (O0 c (-1) 5 13)
 else if k=7 then a0U (O0 a 0 5 6) (O0 b 0 5 7) 0
 else if k=8 then a0U (O0 a 0 5 6) (O0 b (-1) 5 6) 0
 else if k=11 then 0
 else if k=12 then O0 a 0 200 12
 else 14
def b8u:j4:=⟨some 307,0,5,6⟩
def c8K:j4:=⟨some 308,0,5,6⟩
def d2n:j4:=⟨some 308,-1,5,6⟩
def d2r:j4:=⟨some 310,-1,5,13⟩
def b3k:List (Int × List j4):=[(1,[b8u,⟨some 308,0,4,1⟩,d2r]),(2,[b8u,c8K]),(3,[b8u]),(4,[b8u,c8K,⟨some 310,0,3,5⟩]),
 (5,[b8u,⟨some 308,0,3,5⟩,⟨some 310,-1,5,6⟩]),(6,[⟨some 307,0,5,7⟩,d2n,d2r]),(7,[b8u,⟨some 308,0,5,7⟩]),(8,[b8u,d2n]),(9,[b8u,c8K]),(10,[b8u,c8K]),(11,[]),(12,[⟨some 307,0,200,12⟩])]
theorem c0X:a6K=some b3k:=by kernel_rfl
def a3c(o:j2)(d:j4):Int:=if d.part=some 307 then o.A else if d.part=some 308 then o.B else o.C
def a9X(o:j2)(d:j4):Bool:=decide (a3c o d<d.least)||decide (a3c o d > d.most)
def b1e(o:j2):List j4→Int ⊕ Unit
 | []=>.inr ()
 | d::ds=>if a9X o d then .inl d.e else b1e o ds
theorem b9s(o:j2)(d:j4)(ds:List j4):b1e o (d::ds)=if a9X o d then .inl d.e else b1e o ds:=rfl
def c2a(d:j4):Prop:=d.part=some 307∨d.part=some 308∨d.part=some 310
theorem d0Y(o:j2){d:j4}(h:c2a d):b1f d.part o=some (a3c o d):=by
 unfold a3c;rcases h with h | h | h
 ·rw[h];rfl
 ·rw[h];rfl
 ·rw[h];rfl
theorem d0y(o:j2)(ds:List j4)(hl:ds.length≤10)(hp:∀d∈ds,c2a d):lp (S:=Int) (E:=Int ⊕ Unit) (λ(s11:Int)=>
   if (decide (s11<(ds.length:Int))) then
    (ix ds s11).bind λv13=>
    (b1f v13.part o).bind λv14=>
    if ((decide (v14<v13.least))||(decide (v14 > v13.most))) then
     some (.inr (.inl v13.e))
    else
    some (.inl (x6 (s11+1)))
   else
   some (.inr (.inr ()))) 0=some (b1e o ds):=by
 refine a3N (b60 ds.length (λk=>b1e o ds=b1e o (ds.drop k)) (λe=>e=b1e o ds) (by omega) rfl (λk hk hP=>?_) (λhP=>?_))
 ·rw[if_pos (by simpa using hk),o8 hk,d4l,d0Y o (hp _ (List.getElem_mem hk)),d4l]
  rw[List.drop_eq_getElem_cons hk,b9s] at hP;by_cases c:a9X o ds[k]=true
  ·rw[if_pos (show ((decide (a3c o ds[k]<ds[k].least))||(decide (a3c o ds[k] > ds[k].most)))=true from c)];rw[if_pos c] at hP;exact .inr ⟨_,rfl,hP.symm⟩
  ·rw[if_neg (show ¬((decide (a3c o ds[k]<ds[k].least))||(decide (a3c o ds[k] > ds[k].most)))=true from c),k8];rw[if_neg c] at hP;exact .inl ⟨rfl,hP⟩
 ·rw[List.drop_length] at hP;exact⟨_,if_neg (by simp),hP.symm⟩
theorem c72:∀p∈b3k,p.2.length≤10∧∀d∈p.2,c2a d:=by
 have:b3k.all (λp=>decide (p.2.length≤10)&&p.2.all λd=>(d.part==some 307)||(d.part==some 308)||(d.part==some 310))=true:=by kernel_rfl
 intro p hp;have:=List.all_eq_true.1 this p hp;rw[Bool.and_eq_true,decide_eq_true_iff,List.all_eq_true] at this;refine⟨this.1,λd hd=>?_⟩;have:=this.2 d hd;simp only[Bool.or_eq_true,beq_iff_eq] at this;unfold c2a;rcases this with (h | h) | h
 ·exact .inl h
 ·exact .inr (.inl h)
 ·exact .inr (.inr h)
theorem c2R{m:List (Int × List j4)}{k:Int}{v:List j4}(h:B4 m k=some v):(k,v)∈m:=by
 induction m with
 | nil=>cases h
 | cons p m ih=>
  unfold B4 at h;split at h
  ·rename_i c;have:k=p.1:=by simpa using c
   cases h;subst this;exact List.mem_cons_self ..
  ·exact List.mem_cons_of_mem _ (ih h)
def b2n(o:j2)(ds:List j4):Int:=match b1e o ds with
 | .inl e=>e
 | .inr _=>0
theorem c85(o:j2):b2n o []=0:=rfl
theorem b2o(o:j2)(d:j4)(ds:List j4):b2n o (d::ds)=if a9X o d then d.e else b2n o ds:=by
 unfold b2n;rw[b9s];cases a9X o d <;> rfl
theorem b7V(o:j2)(d:j4):O0 (a3c o d) d.least d.most d.e=if a9X o d then d.e else 0:=by
 unfold O0 a9X;by_cases h:a3c o d<d.least∨a3c o d > d.most
 ·rw[if_pos h,if_pos (by simpa using h)]
 ·rw[if_neg h,if_neg (by simpa using h)]
theorem c83(o:j2)(d:j4):b2n o [d]=O0 (a3c o d) d.least d.most d.e:=by rw[b2o,c85,b7V]
theorem c6T(o:j2)(d e:j4)(h1:d.e≠0):b2n o [d,e]=a0U (O0 (a3c o d) d.least d.most d.e) (O0 (a3c o e) e.least e.most e.e) 0:=by
 rw[b2o,c83,b7V o d];unfold a0U;cases a9X o d
 ·simp only[Bool.false_eq_true,if_false,ne_eq,not_true_eq_false];split;·rfl
  ·rename_i h;simpa using h
 ·simp[h1]
theorem c84(o:j2)(d e f:j4)(h1:d.e≠0)(h2:e.e≠0):b2n o [d,e,f]=a0U (O0 (a3c o d) d.least d.most d.e) (O0 (a3c o e) e.least e.most e.e) (O0 (a3c o f) f.least f.most f.e):=by
 rw[b2o,b2o,c83,b7V o d,b7V o e];unfold a0U;cases a9X o d <;> cases a9X o e <;> simp[h1,h2]
theorem c5B(o:j2):(match B4 b3k o.Kind with
  | none=>14
  | some ds=>b2n o ds)=C8 o.Kind o.A o.B o.C:=by
 obtain⟨k,a,b,c⟩:=o;dsimp only;by_cases h:1≤k∧k≤12
 ·have:k=1∨k=2∨k=3∨k=4∨k=5∨k=6∨k=7∨k=8∨k=9∨k=10∨k=11∨k=12:=by omega
  rcases this with rfl | rfl | rfl | rfl | rfl | rfl | rfl | rfl | rfl | rfl | rfl | rfl
  ·exact c84 _ _ _ _ (by decide) (by decide)
  ·exact c6T _ _ _ (by decide)
  ·exact c83 _ _
  ·exact c84 _ _ _ _ (by decide) (by decide)
  ·exact c84 _ _ _ _ (by decide) (by decide)
  ·exact c84 _ _ _ _ (by decide) (by decide)
  ·exact c6T _ _ _ (by decide)
  ·exact c6T _ _ _ (by decide)
  ·exact c6T _ _ _ (by decide)
  ·exact c6T _ _ _ (by decide)
  ·rfl
  ·exact c83 _ _
 ·have e:B4 b3k k=none:=by
   cases hm:B4 b3k k with
   | none=>rfl
   | some v=>
    have:=c2R hm;simp only[b3k,List.mem_cons,Prod.mk.injEq,List.not_mem_nil,or_false] at this;omega
  rw[e];unfold C8;repeat rw[if_neg (by omega)]
theorem b4J(o:j2):a38 o=some (C8 o.Kind o.A o.B o.C):=by
 rw[←c5B];unfold a38;rw[c0X,d4l];cases h:B4 b3k o.Kind with
 | none=>rfl
 | some ds=>
  obtain⟨h1,h2⟩:=c72 _ (c2R h);rw[if_neg (by simp)]
  simp only[jn,Option.getD_some];rw[d0y o ds h1 h2,d4l];unfold b2n;cases b1e o ds <;> rfl
theorem c79(n l m e:Int):a01 n l m e=some (O0 n l m e):=by
 unfold a01 O0;by_cases h:n<l∨n > m
 ·rw[if_pos h,if_pos (by simpa using h)]
 ·rw[if_neg h,if_neg (by simpa using h)]
theorem c5o(a b c:Int):Y1 a b c=some (a0U a b c):=by
 unfold Y1 a0U;by_cases h:a=0
 ·by_cases g:b=0
  ·rw[if_neg (by simpa using h),if_neg (by simpa using g),if_neg (by simpa using h),if_neg (by simpa using g)]
  ·rw[if_neg (by simpa using h),if_pos (by simpa using g),if_neg (by simpa using h),if_pos (by simpa using g)]
 ·rw[if_pos (by simpa using h),if_pos (by simpa using h)]
theorem a6J(o:p9):a2B o=some (C8 o.Kind o.A o.B o.C):=by
 unfold a2B C8;simp only[c79,c5o,d4l,jn];by_cases h:1≤o.Kind∧o.Kind≤12
 ·have:o.Kind=1∨o.Kind=2∨o.Kind=3∨o.Kind=4∨o.Kind=5∨o.Kind=6∨o.Kind=7∨o.Kind=8∨o.Kind=9∨o.Kind=10∨o.Kind=11∨o.Kind=12:=by omega
  rcases this with h | h | h | h | h | h | h | h | h | h | h | h <;> rw[h] <;> rfl
 ·have n:∀j:Int,1≤j→j≤12→(o.Kind==j)=false:=λj h1 h2=>by
   rw[beq_eq_false_iff_ne];omega
  simp only[n 1 (by omega) (by omega),n 2 (by omega) (by omega),n 3 (by omega) (by omega),n 4 (by omega) (by omega),n 5 (by omega) (by omega),n 6 (by omega) (by omega),n 7 (by omega) (by omega),n 8 (by omega) (by omega),n 9 (by omega) (by omega),n 10 (by omega) (by omega),n 11 (by omega) (by omega),n 12 (by omega) (by omega),Bool.false_eq_true,if_false]
  repeat rw[if_neg (by omega)]
end Go.Sh
namespace Go.Sh
end Go.Sh
namespace Go.Sh
end Go.Sh
namespace Go.Sh
end Go.Sh
namespace Go.Sh
def ooI(o:B0):k9:=⟨o.Serial,o.Strong,o.Weak,o.Prog,o.Started,o.Fields⟩
def sOI(s:k7):a7:=⟨⟨s.Cells.map λc=>⟨c.State,c.Gen,ooI c.Val⟩,s.Last⟩,s.Serial⟩
def hOI(x:c7):Hp:=⟨sOI x.S,x.Roots,x.Cells.map λc=>⟨c.Target,c.Intact,c.Call⟩,x.T.map λp=>⟨p.State,p.Key,p.Val⟩,⟨x.Q.L.map λt=>⟨t.Kind,t.At,t.Prog⟩,x.Q.Cap⟩⟩
theorem c1d(x:Hp):hOI (hO x)=x:=by
 obtain⟨⟨⟨cs,l⟩,n⟩,r,w,t,⟨q,c⟩⟩:=x;unfold hOI hO sOI sO tqR;dsimp only;have a1:(cs.map cO).map (λc=>(⟨c.State,c.Gen,ooI c.Val⟩:b8))=cs:=by
  rw[List.map_map];refine Eq.trans (List.map_congr_left λa _=>?_) (List.map_id cs);rfl
 have a2:(w.map wcR).map (λc=>(⟨c.Target,c.Intact,c.Call⟩:g7))=w:=by
  rw[List.map_map];refine Eq.trans (List.map_congr_left λa _=>?_) (List.map_id w);rfl
 have a3:(t.map M1).map (λp=>(⟨p.State,p.Key,p.Val⟩:c9))=t:=by
  rw[List.map_map];refine Eq.trans (List.map_congr_left λa _=>?_) (List.map_id t);rfl
 have a4:(q.map tkR).map (λt=>(⟨t.Kind,t.At,t.Prog⟩:g8))=q:=by
  rw[List.map_map];refine Eq.trans (List.map_congr_left λa _=>?_) (List.map_id q);rfl
 rw[a1,a2,a3,a4]
section
variable{x:Hp}(hB:HB x)
include hB
end
end Go.Sh
namespace Go.Sh
structure Stl (x y:Hp):Prop where
 lv:∀h∈lv y.S,h∈lv x.S
 ser:y.S.Serial=x.S.Serial
 len:y.S.S.Cells.length=x.S.S.Cells.length
 ob:∀h∈Sh.lv y.S,(ob y.S h).Serial=(ob x.S h).Serial∧(Sh.ob y.S h).Prog=(Sh.ob x.S h).Prog∧(Sh.ob y.S h).Fields=(Sh.ob x.S h).Fields∧((Sh.ob x.S h).Started=true→(Sh.ob y.S h).Started=true)
 rt:y.Roots=x.Roots
 cn:y.Cells.length=x.Cells.length
 cl:∀i (h:i<y.Cells.length) (h':i<x.Cells.length),y.Cells[i]=⟨x.Cells[i].Target,x.Cells[i].Intact&&decide (x.Cells[i].Target∈Sh.lv y.S),x.Cells[i].Call⟩
 q:∃l,y.Q=⟨x.Q.L++l,x.Q.Cap⟩∧(∀t∈l,t.Kind=1→t.At∈Sh.lv x.S∧(Sh.ob x.S t.At).Started=false)∧∀h∈Sh.lv y.S,(Sh.ob y.S h).Started=true→(Sh.ob x.S h).Started=false→∃t∈l,t.Kind=1∧t.At=h
 rc:∀h,b3J x.S x.T (otr x) h→b3J y.S y.T (otr y) h
 has:∀k v,Has y.T k v→Has x.T k v
theorem Stl.refl{x:Hp}(hx:HpS x):Stl x x:=by
 refine⟨λ_ h=>h,rfl,rfl,λh _=>⟨rfl,rfl,rfl,id⟩,rfl,rfl,λi h h'=>?_,⟨[],by simp,by simp,λh _ a b=>?_⟩,λ_ h=>h,λ_ _ h=>h⟩
 ·have:=(hx.cl i h).2.2.2.2;cases hI:x.Cells[i].Intact;·rw[Bool.false_and,←hI]
  ·rw[decide_eq_true (this hI).1,Bool.and_self,←hI]
 ·rw[a] at b;cases b
theorem Stl.trans{x y z:Hp}(a:Stl x y)(b:Stl y z):Stl x z:=by
 obtain⟨l1,q1,q2,q3⟩:=a.q;obtain⟨l2,r1,r2,r3⟩:=b.q;refine⟨λh hh=>a.lv h (b.lv h hh),b.ser.trans a.ser,b.len.trans a.len,λh hh=>?_,b.rt.trans a.rt,b.cn.trans a.cn,λi h h'=>?_,⟨l1++l2,?_,λt ht hk=>?_,λh hh s1 s2=>?_⟩,λh hh=>b.rc h (a.rc h hh),λk v hh=>a.has k v (b.has k v hh)⟩
 ·obtain⟨b1,b2,b3,b4⟩:=b.ob h hh;obtain⟨a1,a2,a3,a4⟩:=a.ob h (b.lv h hh);exact⟨b1.trans a1,b2.trans a2,b3.trans a3,λq=>b4 (a4 q)⟩
 ·have hy:i<y.Cells.length:=by rw[a.cn];exact h'
  rw[b.cl i h hy,a.cl i hy h'];dsimp only;congr 1;rw[Bool.and_assoc];congr 1;by_cases q:x.Cells[i].Target∈Sh.lv z.S
  ·rw[decide_eq_true q,decide_eq_true (b.lv _ q)];rfl
  ·rw[decide_eq_false q,Bool.and_false]
 ·rw[r1,q1,List.append_assoc]
 ·rcases List.mem_append.1 ht with q | q
  ·exact q2 t q hk
  ·obtain⟨e1,e2⟩:=r2 t q hk;refine⟨a.lv _ e1,?_⟩;cases hs:(Sh.ob x.S t.At).Started;·rfl
   ·rw[(a.ob _ e1).2.2.2 hs] at e2;cases e2
 ·cases hs:(Sh.ob y.S h).Started
  ·obtain⟨t,ht,e⟩:=r3 h hh s1 hs;exact⟨t,List.mem_append_right _ ht,e⟩
  ·obtain⟨t,ht,e⟩:=q3 h (b.lv h hh) hs s2;exact⟨t,List.mem_append_left _ ht,e⟩
theorem c3i(s:a7)(h:Int)(o:k9):(seO s h o).S.Cells.length=s.S.Cells.length:=N4 ..
theorem c8J{x:Hp}(hx:S9 x){z:Int}(hz:z∈lv x.S)(hs:(ob x.S z).Started=false):Stl x (quH x z):=by
 have hR:=hx.sh.sr;obtain⟨k,e1,e2,e3,e4⟩:=b1H hR hz;have l1:=c6m hR hz;have hob:∀h∈lv x.S,(ob (quH x z).S h).Serial=(ob x.S h).Serial∧(ob (quH x z).S h).Prog=(ob x.S h).Prog∧(ob (quH x z).S h).Fields=(ob x.S h).Fields∧((ob (quH x z).S h).Started=true↔(ob x.S h).Started=true∨h=z):=λh hh=>by
  obtain⟨n,e⟩:=c1y hR hz hh;rw[e];by_cases q:h=z
  ·subst q;rw[if_pos rfl];exact⟨rfl,rfl,rfl,by simp⟩
  ·rw[if_neg q];exact⟨rfl,rfl,rfl,by simp[q]⟩
 have hot:∀h∈otr x,h∈otr (quH x z):=λh hh=>by
  unfold otr at hh ⊢;rw[e1,e4];rcases List.mem_append.1 hh with q | q
  ·exact List.mem_append_left _ q
  ·refine List.mem_append_right _ ?_;obtain⟨t,ht,a,b⟩:=b1A.1 q;exact b1A.2 ⟨t,List.mem_append_left _ ht,a,b⟩
 have rf:=Stl.refl hx.sh;refine⟨λh hh=>by rw[l1] at hh;exact hh,k.ser,k.len.trans (c3i ..),λh hh=>?_,e1,by rw[e2],λi h h'=>?_,⟨[qtk x z],by rw[e4],λt ht hk=>?_,λh hh s1 s2=>?_⟩,λh hh=>?_,λk v hh=>by rw[e3] at hh;exact hh⟩
 ·rw[l1] at hh;obtain⟨a,b,c,d⟩:=hob h hh;exact⟨a,b,c,λq=>d.2 (.inl q)⟩
 ·have e5:(quH x z).Cells[i]=x.Cells[i]:=by simp only[e2]
  rw[e5,l1];exact rf.cl i h' h'
 ·rw[List.mem_singleton] at ht;subst ht;exact⟨hz,hs⟩
 ·rw[l1] at hh;rcases (hob h hh).2.2.2.1 s1 with q | q
  ·rw[q] at s2;cases s2
  ·exact⟨qtk x z,List.mem_singleton_self _,rfl,q.symm⟩
 ·induction hh with
  | base h1 h2=>exact .base (hot _ h1) (by rw[l1];exact h2)
  | step h0 h1 h2 ih=>
   refine .step ih ?_ (by rw[l1];exact h2)
   unfold outs at h1 ⊢;rw[(hob _ h0.live).2.2.1];exact h1
  | pair h1 h0 h2 ih=>exact .pair (by rw[e3];exact h1) ih (by rw[l1];exact h2)
theorem c7V{x:Hp}(hx:S9 x){z:Int}(hz:z∈zr x):Stl x (buH x [z]):=by
 have hR:=hx.sh.sr;have hzl:=(a4H.1 hz).1;have h0:z≠0:=λe=>b2T hR (e▸hzl);have hfree:=c3t hx hz;have hn:([z]:List Int).Nodup:=by simp
 have hm:∀d ∈ [z],d∈lv x.S:=by simpa using hzl
 have g:=a3r [z] hR hn hm;have k:=(a6j ([z].flatMap (outs x.S)++(wot x.T [z]).2) (x:=a5O x [z] (wot x.T [z]).1) g.sr).1;obtain⟨e1,e2,e3,e4⟩:=b9i hR hn hm;obtain⟨_,w2,_,_,w5,w6⟩:=a6w hx.sh.hr [z] (by simp)
 have l1:∀h,h∈lv (buH x [z]).S↔h∈lv x.S∧h≠z:=λh=>by
  rw[c42 hR hn hm,List.mem_filter,decide_eq_true_iff,List.mem_singleton]
 have hob:∀h∈lv (buH x [z]).S,(ob (buH x [z]).S h).Serial=(ob x.S h).Serial∧(ob (buH x [z]).S h).Prog=(ob x.S h).Prog∧(ob (buH x [z]).S h).Fields=(ob x.S h).Fields∧(ob (buH x [z]).S h).Started=(ob x.S h).Started:=λh hh=>by
  obtain⟨a,b⟩:=(l1 h).1 hh;obtain⟨n,e⟩:=c43 hR hn hm a (by simpa using b)
  rw[e];exact⟨rfl,rfl,rfl,rfl⟩
 refine⟨λh hh=>((l1 h).1 hh).1,k.ser.trans g.ser,k.len.trans g.len,λh hh=>?_,e1,by rw[e2];simp[clr],λi h h'=>?_,⟨clt x.Cells [z],by rw[e4],λt ht hk=>?_,λh hh s1 s2=>?_⟩,λh hh=>?_,λk v hh=>?_⟩
 ·obtain⟨a,b,c,d⟩:=hob h hh;exact⟨a,b,c,λq=>d.trans q⟩
 ·have e5:(buH x [z]).Cells[i]=a75 [z] x.Cells[i]:=by
   simp only[e2];exact List.getElem_map _
  rw[e5];have hc:=(hx.sh.cl i h').2.2.2.2;unfold a75 a4f;cases hI:x.Cells[i].Intact;·rw[if_neg (by simp),Bool.false_and,←hI]
  ·have ht:=(hc hI).1;have ht0:x.Cells[i].Target≠0:=λe=>b2T hR (e▸ht);by_cases q:x.Cells[i].Target=z
   ·rw[if_pos (by simp[q,h0]),decide_eq_false (λr=>((l1 _).1 r).2 q)]
    rfl
   ·rw[if_neg (by simp[q]),decide_eq_true ((l1 _).2 ⟨ht,q⟩),Bool.and_self,←hI]
 ·obtain⟨w,hw,rfl,_,_⟩:=a9b.1 ht;simp at hk
 ·rw[(hob h hh).2.2.2,s2] at s1;cases s1
 ·unfold nms at hfree;have key:b3J (buH x [z]).S (buH x [z]).T (otr (buH x [z])) h∧h≠z:=by
   induction hh with
   | base h1 h2=>
    rename_i a;have hne:a≠z:=λe=>by
     subst e;exact c0t h0 (by omega:V2 (otr x) a=0) h1
    refine⟨.base ?_ ((l1 _).2 ⟨h2,hne⟩),hne⟩;unfold otr at h1 ⊢;rw[e1,e4,b9y _ _ _ λt ht=>by
     obtain⟨w,_,rfl,_⟩:=a9b.1 ht;simp]
    exact h1
   | step q0 q1 q2 ih=>
    rename_i a b;have hne:b≠z:=λe=>by
     subst e;have:=c2I (y:=b) q0.live;have h1:=a7n.2 ⟨h0,q1⟩;omega
    refine⟨.step ih.1 ?_ ((l1 _).2 ⟨q2,hne⟩),hne⟩;unfold outs at q1 ⊢;rw[(hob _ ((l1 _).2 ⟨q0.live,ih.2⟩)).2.2.1];exact q1
   | pair q1 q0 q2 ih=>
    rename_i a b;have hne:b≠z:=λe=>by
     subst e;have:=c20 q1 h0;omega
    exact⟨.pair (by rw[e3];exact (w5 _ _).2 ⟨by simpa using ih.2,q1⟩) ih.1 ((l1 _).2 ⟨q2,hne⟩),hne⟩
  exact key.1
 ·rw[e3] at hh;exact ((w5 _ _).1 hh).2
theorem c8W{x:Hp}(hx:S9 x):Stl x (stp x):=by
 cases h:zr x with
 | nil=>rw[a9C h];exact Stl.refl hx.sh
 | cons z l=>
  have hz:z∈zr x:=by rw[h];exact List.mem_cons_self ..
  rw[a4C h];split
  ·rename_i q;unfold due at q;rw[Bool.and_eq_true,decide_eq_true_iff,Bool.not_eq_true'] at q;exact c8J hx (a4H.1 hz).1 q.2
  ·exact c7V hx hz
theorem c8V{x:Hp}(hx:S9 x)(n:Nat):Stl x (stN n x):=by
 induction n with
 | zero=>exact Stl.refl hx.sh
 | succ n ih=>rw[a2b];exact ih.trans (c8W (a0Q hx n))
theorem a8K{x:Hp}(hx:S9 x):Stl x (a17 x):=c8V hx 100
end Go.Sh
namespace Go.Sh
section
variable{x:Hp}(hB:HB x)
include hB
end
end Go.Sh
namespace Go.Sh
end Go.Sh
namespace Go.Sh
end Go.Sh
namespace Go.Sh
end Go.Sh
namespace Go.Sh
structure Ks (s s':a7):Prop where
 sr:SR s'
 ser:s'.Serial=s.Serial
 lv:lv s'=lv s
 ob:∀h∈Sh.lv s,(ob s' h).Serial=(ob s h).Serial
theorem Ks.refl{s:a7}(hR:SR s):Ks s s:=⟨hR,rfl,rfl,λ_ _=>rfl⟩
theorem Ks.trans{a b c:a7}(h:Ks a b)(q:Ks b c):Ks a c:=⟨q.sr,q.ser.trans h.ser,q.lv.trans h.lv,λk hk=>(q.ob k (by rw[h.lv];exact hk)).trans (h.ob k hk)⟩
theorem Kin.ks{s s':a7}(hR:SR s)(k:Kin s s'):Ks s s':=⟨k.sr,k.ser,k.lv,λh hh=>by
 obtain⟨n,e⟩:=k.ob h (by have:=K1 hR hh;omega)
 rw[e]⟩
theorem Kn.ks{s s':a7}(k:Kn s s')(e:s'.Serial=s.Serial):Ks s s':=⟨k.sr,e,k.lv,λh hh=>by
 obtain⟨n,m,e⟩:=k.ob h hh;rw[e]⟩
theorem d1h{s:a7}(hR:SR s){h:Int}(hh:h∈lv s){o:k9}(hs:o.Serial=(ob s h).Serial)(ho:OkO s o):Ks s (seO s h o):=⟨a1p hR hh hs ho,rfl,a4z hR hh hs ho,λk hk=>by
 rw[a3y hR hh hs ho (by have:=K1 hR hk;omega)]
 split;·rename_i e;subst e;exact hs
 ·rfl⟩
theorem b8E{x:Hp}(hR:SR x.S)(h:Int):Ks x.S (C3 x h).S:=(G7 hR h λc=>E3).ks hR
theorem b8A{x:Hp}(hR:SR x.S)(h:Int):Ks x.S (R8 x h).S:=(G7 hR h λc=>Q9).ks hR
theorem b5B(x:Hp)(h:Int):(R8 x h).Roots=x.Roots∧(R8 x h).Cells=x.Cells∧(R8 x h).T=x.T∧(R8 x h).Q=x.Q:=b5N x h b0r
theorem a15{x:Hp}(hR:SR x.S)(r:Nat)(h:Int):Ks x.S (H0 x r h).S:=
 (b8E hR h).trans (b8A (x:=wR (C3 x h) (x.Roots.set r h)) (a3x hR h) _)
theorem c3S{x:Hp}(hR:SR x.S){h:Int}(hh:h∈lv x.S){n:Nat}(hn:n<(ob x.S h).Fields.length)(v:Int):Ks x.S (a1N x h n v).S:=by
 have k1:=b8E hR v;have hh1:h∈lv (C3 x v).S:=by rw[k1.lv];exact hh
 have hof:(ob (C3 x v).S h).Fields=(ob x.S h).Fields:=by
  obtain⟨n,e⟩:=(G7 hR v (f:=Z9) λc=>E3).ob h (by have:=K1 hR hh;omega)
  show (ob (stO x v Z9).S h).Fields=_;rw[e]
 have ho:OkO (C3 x v).S (flg (ob (C3 x v).S h) ((ob x.S h).Fields.set n v)):=by
  have:=K8 k1.sr hh1;refine⟨this.s1,this.s2,this.st,this.wk,this.p1,this.p2,?_⟩;have h4:=this.fl;rw[hof] at h4;simpa using h4
 have k2:=d1h (o:=flg (ob (C3 x v).S h) ((ob x.S h).Fields.set n v)) k1.sr hh1 rfl ho;exact (k1.trans k2).trans (b8A (x:=wS (C3 x v) (seO (C3 x v).S h (flg (ob (C3 x v).S h) ((ob x.S h).Fields.set n v)))) k2.sr _)
theorem a8b(x:Hp)(h:Int)(n:Nat)(v:Int):(a1N x h n v).Roots=x.Roots∧(a1N x h n v).Cells=x.Cells∧(a1N x h n v).T=x.T∧(a1N x h n v).Q=x.Q:=by
 obtain⟨a,b,c,d⟩:=b5B (wS (C3 x v) (seO (C3 x v).S h (flg (ob (C3 x v).S h) ((ob x.S h).Fields.set n v)))) ((ob x.S h).Fields.getD n 0);obtain⟨a',b',c',d'⟩:=a6k x v;exact⟨a.trans a',b.trans b',c.trans c',d.trans d'⟩
theorem c6b{x:Hp}(hR:SR x.S)(v:Int)(t:Tb)(old:Int):Ks x.S (a7D x v t old).S:=
 (b8E hR v).trans (b8A (x:=wT (C3 x v) t) (a3x hR v) old)
theorem b0A(x:Hp)(v:Int)(t:Tb)(old:Int):(a7D x v t old).Roots=x.Roots∧(a7D x v t old).Cells=x.Cells∧(a7D x v t old).T=t∧(a7D x v t old).Q=x.Q:=by
 obtain⟨a,b,c,d⟩:=b5B (wT (C3 x v) t) old;obtain⟨a',b',c',d'⟩:=a6k x v;exact⟨a.trans a',b.trans b',c,d.trans d'⟩
end Go.Sh
namespace Go.Sh
theorem d0l{s:a7}(hR:SR s){i:Nat}(hi:i<s.S.Cells.length)(h2:(ce s i).State=2):Ks s (gvA s i):=⟨b7Q hR hi,rfl,b7O hR hi h2,λh hh=>by rw[b7P hR hi h2 hh]⟩
theorem d0A{x:Hp}(hR:SR x.S)(h:Int){d:Int}(hd:V3 x.S h (D4 h)→0≤(ce x.S (D4 h)).Val.Weak+d):Ks x.S (mkd x h d).S:=by
 unfold mkd;split
 ·rename_i q;exact (a6Z hR q.1 q.2.1 (hd q)).ks rfl
 ·exact Ks.refl hR
theorem c5O(x:Hp)(h d:Int):(mkd x h d).Roots=x.Roots∧(mkd x h d).Cells=x.Cells∧(mkd x h d).T=x.T∧(mkd x h d).Q=x.Q:=by
 unfold mkd;split <;> exact⟨rfl,rfl,rfl,rfl⟩
theorem c4y(x:Hp)(h:Int):(a8P x h).Roots=x.Roots∧(a8P x h).Cells=x.Cells∧(a8P x h).T=x.T∧(a8P x h).Q=x.Q:=by
 unfold a8P;split;·split <;> exact⟨rfl,rfl,rfl,rfl⟩
 ·exact⟨rfl,rfl,rfl,rfl⟩
theorem c3p{x:Hp}(hR:SR x.S)(h:Int)(hd:V3 x.S h (D4 h)→1≤(ce x.S (D4 h)).Val.Weak):Ks x.S (a8P x h).S:=by
 unfold a8P;split
 ·rename_i q;have hd:=hd q;have kn:=a6Z (d:=-1) hR q.1 q.2.1 (by omega)
  split
  ·rename_i c;have hi1:D4 h<(mkA x.S (D4 h) (-1)).S.Cells.length:=by rw[kn.len];exact q.1
   have hce:ce (mkA x.S (D4 h) (-1)) (D4 h)=⟨(ce x.S (D4 h)).State,(ce x.S (D4 h)).Gen,wkg (ce x.S (D4 h)).Val ((ce x.S (D4 h)).Val.Weak + -1)⟩:=by
    rw[a3v hR q.1 q.2.1,if_pos rfl]
   have h2:(ce (mkA x.S (D4 h) (-1)) (D4 h)).State=2:=by rw[hce];exact c.1
   exact (kn.ks rfl).trans (d0l kn.sr hi1 h2)
  ·exact kn.ks rfl
 ·exact Ks.refl hR
theorem c6U{x:Hp}(hx:S9 x){n:Nat}(hn:n<6)(h call:Int):Ks x.S (a3k x n h call).S:=by
 have hR:=hx.sh.sr;have hnl:n<x.Cells.length:=by have:=hx.sh.c6;omega
 have ok:∀k i,V3 x.S k i→0≤(ce x.S i).Val.Weak:=λk i q=>(hR.ok i q.1 q.2.1).wk;have tw:∀i,V3 x.S (tgt x n) i→1≤(ce x.S i).Val.Weak:=λi q=>by
  have htg:tgt x n=x.Cells[n].Target:=by
   unfold tgt;rw[List.getD_eq_getElem?_getD,List.getElem?_eq_getElem hnl];rfl
  have r:=q.rng hR;have p:=b1D hnl (by rw[←htg];omega)
  rw[←htg,q.2.2] at p;have:=(hx.wk i q.1 q.2.1).1;omega
 unfold a3k;have s1:Ks x.S (mkd (wC x (x.Cells.set n (wcl h call))) h 1).S:=d0A (x:=wC x (x.Cells.set n (wcl h call))) hR h λq=>by
  have:=ok _ _ q;dsimp only;omega
 by_cases q:V3 x.S h (D4 h)
 ·have e:mkd (wC x (x.Cells.set n (wcl h call))) h 1=wS (wC x (x.Cells.set n (wcl h call))) (mkA x.S (D4 h) 1):=by
   unfold mkd;rw[if_pos q]
  have hd:=ok _ _ q;have kn:=a6Z (d:=1) hR q.1 q.2.1 (by omega)
  rw[e] at s1 ⊢;refine s1.trans (c3p (x:=wS (wC x (x.Cells.set n (wcl h call))) (mkA x.S (D4 h) 1)) kn.sr _ λq2=>?_);dsimp only at q2 ⊢;have q3:=(kn.ad _ _).1 q2;have:=tw _ q3;rw[a3v hR q.1 q.2.1];split
  ·rename_i e2;rw[e2] at this;show 1≤(ce x.S (D4 h)).Val.Weak+1;omega
  ·exact this
 ·have e:mkd (wC x (x.Cells.set n (wcl h call))) h 1=wC x (x.Cells.set n (wcl h call)):=by
   unfold mkd;rw[if_neg q]
  rw[e] at s1 ⊢;exact s1.trans (c3p (x:=wC x (x.Cells.set n (wcl h call))) hR _ λq2=>tw _ q2)
theorem b5Z(x:Hp)(n:Nat)(h call:Int):(a3k x n h call).Roots=x.Roots∧(a3k x n h call).Cells=x.Cells.set n (wcl h call)∧(a3k x n h call).T=x.T∧(a3k x n h call).Q=x.Q:=by
 obtain⟨a,b,c,d⟩:=c4y (mkd (wC x (x.Cells.set n (wcl h call))) h 1) (tgt x n);obtain⟨a',b',c',d'⟩:=c5O (wC x (x.Cells.set n (wcl h call))) h 1;exact⟨a.trans a',b.trans b',c.trans c',d.trans d'⟩
end Go.Sh
namespace Go.Sh
abbrev nwo(s:a7)(n:Nat)(p:Int):k9:=⟨s.Serial+1,0,0,p,false,List.replicate n 0⟩
def mkS(s:a7)(i n:Nat)(p:Int):a7:=⟨⟨s.S.Cells.set i ⟨1,(ce s i).Gen,nwo s n p⟩,s.S.Last⟩,s.Serial+1⟩
section
variable{s:a7}(hR:SR s){i:Nat}(hi:i<s.S.Cells.length)(h0:(ce s i).State=0){n:Nat}(hn:n≤4){p:Int}(hp : -1≤p∧p≤5)
include hR hi h0 hn hp
theorem a5C:(mkS s i n p).S.Cells.length=s.S.Cells.length:=by simp[mkS]
theorem a7B(j:Nat):ce (mkS s i n p) j=if j=i then ⟨1,(ce s i).Gen,nwo s n p⟩ else ce s j:=a5U hi _ _ j
theorem b9J:SR (mkS s i n p):=by
 have hser:=hR.ser;have hc:=hR.cell i hi;have hnt:¬Th (ce s i):=λh=>by
  rcases h with h | h <;> omega
 refine⟨by rw[a5C hR hi h0 hn hp];exact hR.len,hR.l0,hR.l9,by show 0≤s.Serial+1;omega,λj hj=>?_,λj hj ht=>?_,λj hj ht=>?_,λj k hj hk a b e=>?_⟩
 ·rw[a5C hR hi h0 hn hp] at hj;rw[a7B hR hi h0 hn hp];split;·exact⟨show (0:Int)≤1 by decide,show (1:Int)≤3 by decide,hc.2.2.1,hc.2.2.2⟩
  ·exact hR.cell j hj
 ·rw[a5C hR hi h0 hn hp] at hj;rw[a7B hR hi h0 hn hp] at ht ⊢;split at ht;·exact absurd (.inl rfl) ht
  ·rename_i e;rw[if_neg e];exact hR.no j hj ht
 ·rw[a5C hR hi h0 hn hp] at hj;rw[a7B hR hi h0 hn hp] at ht ⊢;split at ht
  ·rename_i e;rw[if_pos e];exact⟨by show 1≤s.Serial+1;omega,Int.le_refl _,Int.le_refl 0,Int.le_refl 0,hp.1,hp.2,by simpa using hn⟩
  ·rename_i e;rw[if_neg e];have:=hR.ok j hj ht;exact⟨this.s1,by show _≤s.Serial+1;have:=this.s2;omega,this.st,this.wk,this.p1,this.p2,this.fl⟩
 ·rw[a5C hR hi h0 hn hp] at hj hk;rw[a7B hR hi h0 hn hp] at a e;rw[a7B hR hi h0 hn hp] at b e;have old:∀m,m<s.S.Cells.length→Th (ce s m)→(ce s m).Val.Serial≠s.Serial+1:=λm hm t q=>by
   have:=(hR.ok m hm t).s2;omega
  by_cases ej:j=i <;> by_cases ek:k=i
  ·rw[ej,ek]
  ·rw[if_neg ek] at b e;rw[if_pos ej] at e;exact absurd e.symm (old k hk b)
  ·rw[if_neg ej] at a e;rw[if_pos ek] at e;exact absurd e (old j hj a)
  ·rw[if_neg ej] at a e;rw[if_neg ek] at b e;exact hR.dif j k hj hk a b e
theorem c1m{k:Int}{j:Nat}(q:V3 s k j):j≠i:=λe=>by
 subst e;rcases q.2.1 with h | h <;> omega
theorem d0z{k:Int}{j:Nat}:V3 (mkS s i n p) k j↔V3 s k j∨(j=i∧k=hdl s i):=by
 unfold V3;rw[a5C hR hi h0 hn hp,a7B hR hi h0 hn hp];by_cases e:j=i
 ·rw[if_pos e];subst e;constructor
  ·rintro⟨a,b,c⟩;exact .inr ⟨rfl,c⟩
  ·rintro (⟨a,b,c⟩ | ⟨_,c⟩);·exact absurd rfl (c1m hR hi h0 hn hp ⟨a,b,c⟩)
   ·exact⟨hi,.inl rfl,c⟩
 ·rw[if_neg e];constructor;·exact .inl
  ·rintro (h | ⟨h,_⟩);·exact h
   ·exact absurd h e
theorem c2S:lv (mkS s i n p)=lv s ++ [hdl s i]:=by
 have e:=c1l (s:=s) (y4.2 hR) hi (by rw[←F0 hi];exact h0) (nwo s n p) rfl (a9a (y4.2 hR))
 unfold mkS;rw[show (ce s i).Gen=s.S.Cells[i].Gen by rw[F0 hi]]
 have e2:hdl s i=1+(i:Int)+32*s.S.Cells[i].Gen:=by unfold hdl;rw[F0 hi]
 rw[e2];have:=a9a (y4.2 (by have:=b9J hR hi h0 hn hp;unfold mkS at this;rw[show (ce s i).Gen=s.S.Cells[i].Gen by rw[F0 hi]] at this;exact this))
 rw[e] at this;exact (Option.some.inj this).symm
theorem c5M:hdl s i∉lv s:=λh=>by
 obtain⟨j,q⟩:=(a4j hR).1 h;have:i=j:=by
  have a:=q.2.2;have b:=q.1;unfold hdl at a;have:=hR.len;omega
 subst this;have:=q.2.1;omega
theorem b64{k:Int}(hk:k∈lv s):ob (mkS s i n p) k=ob s k:=by
 obtain⟨j,q⟩:=(a4j hR).1 hk;have hj:=c1m hR hi h0 hn hp q.d;have q2:At (mkS s i n p) k j:=by
  refine⟨by rw[a5C hR hi h0 hn hp];exact q.1,?_,?_⟩ <;> rw[a7B hR hi h0 hn hp,if_neg hj]
  ·exact q.2.1
  ·exact q.2.2
 rw[P5 (b9J hR hi h0 hn hp) q2,P5 hR q,a7B hR hi h0 hn hp,if_neg hj]
theorem b2X:ob (mkS s i n p) (hdl s i)=nwo s n p:=by
 have q2:At (mkS s i n p) (hdl s i) i:=by
  refine⟨by rw[a5C hR hi h0 hn hp];exact hi,?_,?_⟩ <;> rw[a7B hR hi h0 hn hp,if_pos rfl]
  rfl
 rw[P5 (b9J hR hi h0 hn hp) q2,a7B hR hi h0 hn hp,if_pos rfl]
end
theorem c3o{l:List Int}{h:Int}(e:h∉l):V2 l h=0:=Nat.eq_zero_of_not_pos λq=>e (a7n.1 q).2
theorem c5N{x:Hp}(hx:S9 x){i:Nat}(hi:i<x.S.S.Cells.length)(h0:(ce x.S i).State=0){n:Nat}(hn:n≤4){p:Int}(hp : -1≤p∧p≤5):S9 (wS x (mkS x.S i n p)):=by
 have hR:=hx.sh.sr;have hS:=b9J hR hi h0 hn hp;have hl:=c2S hR hi h0 hn hp;have hnew:=c5M hR hi h0 hn hp;have mem:∀ {k},k∈lv x.S→k∈lv (mkS x.S i n p):=λhk=>by rw[hl];exact List.mem_append_left _ hk
 have mem0:∀ {k},k=0∨k∈lv x.S→k=0∨k∈lv (mkS x.S i n p):=λhk=>hk.imp id mem;have hpos:=b35 hR hi;have split:∀ {k},k∈lv (mkS x.S i n p)→k∈lv x.S∨k=hdl x.S i:=λhk=>by
  rw[hl] at hk;rcases List.mem_append.1 hk with q | q
  ·exact .inl q
  ·exact .inr (List.mem_singleton.1 q)
 have rep:∀v∈List.replicate n (0:Int),v=0:=λv hv=>(List.mem_replicate.1 hv).2;have ntgt:∀j (hj:j<x.Cells.length),x.Cells[j].Target≠hdl x.S i:=λj hj e=>by
  obtain⟨q,hq⟩:=(hx.sh.cl j hj).2.2.2.1 (by rw[e];omega)
  rw[e] at hq;have:q=i:=by
   have a:=hq.2.2;have b:=hq.1;unfold hdl at a;have:=hR.len;omega
  exact c1m hR hi h0 hn hp hq this
 refine⟨⟨hS,hx.sh.hr,hx.sh.r6,hx.sh.c6,hx.sh.cap,hx.sh.q30,λt ht=>?_,hx.sh.td,λh hh=>mem0 (hx.sh.rt h hh),λh hh v hv=>?_,λk v hk=>?_,λj hj=>?_⟩,λj hj ht=>?_,λh hh hs=>?_⟩
 ·obtain⟨a,b,c⟩:=hx.sh.tk t ht;refine⟨a,b,c.imp (λ⟨d,e,f⟩=>⟨d,mem e,?_⟩) id⟩;show (ob (mkS x.S i n p) t.At).Started=true;rw[b64 hR hi h0 hn hp e];exact f
 ·rcases split hh with q | q
  ·have hv':v∈(ob (mkS x.S i n p) h).Fields:=hv;rw[b64 hR hi h0 hn hp q] at hv';exact mem0 (hx.sh.fl h q v hv')
  ·subst q;have hv':v∈(ob (mkS x.S i n p) (hdl x.S i)).Fields:=hv;rw[b2X hR hi h0 hn hp] at hv';exact .inl (rep v hv')
 ·obtain⟨a,b⟩:=hx.sh.pr k v hk;exact⟨mem a,mem b⟩
 ·obtain⟨a,b,c,d,e⟩:=hx.sh.cl j hj;refine⟨a,b,c,λq=>?_,λq=>⟨mem (e q).1,(e q).2⟩⟩;obtain⟨m,hm⟩:=d q;exact⟨m,(d0z hR hi h0 hn hp).2 (.inl hm)⟩
 ·have hj':j<x.S.S.Cells.length:=by have:j<(mkS x.S i n p).S.Cells.length:=hj;rwa [a5C hR hi h0 hn hp] at this
  show (ce (mkS x.S i n p) j).Val.Weak=(nmg x.Cells (1+(j:Int)+32*(ce (mkS x.S i n p) j).Gen):Int)∧_;have ht':Th (ce (mkS x.S i n p) j):=ht;rw[a7B hR hi h0 hn hp] at ht' ⊢;by_cases e:j=i
  ·subst e;rw[if_pos rfl];refine⟨?_,λq=>absurd (show (1:Int)=2 from q) (by decide)⟩
   show (0:Int)=(nmg x.Cells (hdl x.S j):Int);have:nmg x.Cells (hdl x.S j)=0:=by
    unfold nmg;rw[List.countP_eq_zero];intro c hc;obtain⟨m,hm,rfl⟩:=List.getElem_of_mem hc;have:=ntgt m hm;simp[this]
   rw[this];rfl
  ·rw[if_neg e] at ht' ⊢;exact hx.wk j hj' ht'
 ·have hinn:∀y,inn (mkS x.S i n p) y=inn x.S y:=λy=>by
   unfold inn;rw[hl,List.map_append,List.sum_append];have e1:(lv x.S).map (λk=>V2 (outs (mkS x.S i n p) k) y)=(lv x.S).map λk=>V2 (outs x.S k) y:=List.map_congr_left λk hk=>by
    unfold outs;rw[b64 hR hi h0 hn hp hk]
   rw[e1];have e2:outs (mkS x.S i n p) (hdl x.S i) = []:=by
    refine List.eq_nil_iff_forall_not_mem.2 λv hv=>?_;have h1:=b0y.1 hv;rw[b2X hR hi h0 hn hp] at h1;exact h1.2 (rep v h1.1)
   simp[e2,Q3]
  have hnm:∀y,nms (wS x (mkS x.S i n p)) y=nms x y:=λy=>by
   unfold nms;show inn (mkS x.S i n p) y+own x.T y+V2 (otr x) y=_;rw[hinn]
  rw[hnm];have hs':(ob (mkS x.S i n p) h).Strong<12:=hs;show (ob (mkS x.S i n p) h).Strong=_;rcases split hh with q | q
  ·rw[b64 hR hi h0 hn hp q] at hs' ⊢;exact hx.fair h q hs'
  ·subst q;rw[b2X hR hi h0 hn hp];have h1:nms x (hdl x.S i)=0:=by
    unfold nms;have a1:inn x.S (hdl x.S i)=0:=by
     unfold inn;have:=c1Z (λk=>V2 (outs x.S k) (hdl x.S i)) 0 (lv x.S) λk hk=>Nat.le_of_eq<|c3o λq=>by
      have q2:=b0y.1 q;rcases hx.sh.fl k hk _ q2.1 with e | e
      ·exact q2.2 e
      ·exact hnew e
     omega
    have a2:own x.T (hdl x.S i)=0:=by
     unfold own;rw[List.countP_eq_zero];intro c hc;have:=(hx.sh.pr _ _ (a49.1 hc)).2;have hne:c.Val≠hdl x.S i:=λe=>hnew (e▸this);simp[hne]
    have a3:V2 (otr x) (hdl x.S i)=0:=c3o λq=>by
     unfold otr at q;rcases List.mem_append.1 q with q | q
     ·have q2:=b0y.1 q;rcases hx.sh.rt _ q2.1 with e | e
      ·exact q2.2 e
      ·exact hnew e
     ·obtain⟨t,ht,k1,k2⟩:=b1A.1 q;rcases (hx.sh.tk t ht).2.2 with ⟨_,b,_⟩ | ⟨b,_⟩;·exact hnew (k2▸b)
      ·omega
    omega
   rw[h1,Q3];rfl
end Go.Sh
namespace Go.Sh
structure Ev (x y:Hp):Prop where
 lv:∀h∈lv y.S,(h∈Sh.lv x.S∧(ob y.S h).Serial=(ob x.S h).Serial)∨(h∉Sh.lv x.S∧(ob y.S h).Serial=x.S.Serial+1)
 s1:x.S.Serial≤y.S.Serial
 s2:y.S.Serial≤x.S.Serial+1
theorem Ev.refl(x:Hp):Ev x x:=⟨λh hh=>.inl ⟨hh,rfl⟩,by omega,by omega⟩
theorem Ks.ev{x y:Hp}(k:Ks x.S y.S):Ev x y:=⟨λh hh=>by
 rw[k.lv] at hh;exact .inl ⟨hh,k.ob h hh⟩,by rw[k.ser];omega,by rw[k.ser];omega⟩
theorem Ev.ks{x y z:Hp}(e:Ev x y)(k:Ks y.S z.S):Ev x z:=⟨λh hh=>by
 rw[k.lv] at hh;rw[k.ob h hh];exact e.lv h hh,by rw[k.ser];exact e.s1,by rw[k.ser];exact e.s2⟩
theorem Ev.stl{x y z:Hp}(e:Ev x y)(s:Stl y z):Ev x z:=⟨λh hh=>by
 rw[(s.ob h hh).1];exact e.lv h (s.lv h hh),by rw[s.ser];exact e.s1,by rw[s.ser];exact e.s2⟩
theorem d2i{x:Hp}(hx:S9 x){i:Nat}(hi:i<x.S.S.Cells.length)(h0:(ce x.S i).State=0){n:Nat}(hn:n≤4){p:Int}(hp : -1≤p∧p≤5):Ev x (wS x (mkS x.S i n p)):=⟨λh hh=>by
 have hR:=hx.sh.sr;have hh':h∈lv (mkS x.S i n p):=hh;show (_∧(ob (mkS x.S i n p) h).Serial=_)∨_∧(ob (mkS x.S i n p) h).Serial=_;rw[c2S hR hi h0 hn hp] at hh';rcases List.mem_append.1 hh' with q | q
 ·exact .inl ⟨q,by rw[b64 hR hi h0 hn hp q]⟩
 ·rw[List.mem_singleton.1 q];exact .inr ⟨c5M hR hi h0 hn hp,by rw[b2X hR hi h0 hn hp]⟩,by show _≤x.S.Serial+1;omega,Int.le_refl _⟩
def Cw(x y:Hp)(w:Int):Prop:=∀i:Nat,(i:Int)≠w→(y.Cells.getD i cz).Target=(x.Cells.getD i cz).Target∧((y.Cells.getD i cz).Intact=true→(x.Cells.getD i cz).Intact=true)
theorem Cw.refl(x:Hp)(w:Int):Cw x x w:=λi _=>⟨rfl,id⟩
theorem Cw.same{x y:Hp}(h:y.Cells=x.Cells)(w:Int):Cw x y w:=λi _=>by rw[h];exact⟨rfl,id⟩
theorem Cw.trans{x y z:Hp}{w:Int}(a:Cw x y w)(b:Cw y z w):Cw x z w:=λi hi=>⟨(b i hi).1.trans (a i hi).1,λq=>(a i hi).2 ((b i hi).2 q)⟩
theorem Stl.cw{x y:Hp}(s:Stl x y)(w:Int):Cw x y w:=λi _=>by
 by_cases h:i<x.Cells.length
 ·have h':i<y.Cells.length:=by rw[s.cn];exact h
  rw[F1 h,F1 h',s.cl i h' h];exact⟨rfl,λq=>(Bool.and_eq_true _ _▸q).1⟩
 ·have h':¬i<y.Cells.length:=by rw[s.cn];exact h
  rw[List.getD_eq_getElem?_getD,List.getD_eq_getElem?_getD,List.getElem?_eq_none (by omega),List.getElem?_eq_none (by omega)]
  exact⟨rfl,id⟩
theorem Cw.set{x y:Hp}{w:Nat}{c:g7}(h:y.Cells=x.Cells.set w c):Cw x y w:=λi hi=>by
 rw[h,List.getD_eq_getElem?_getD,List.getD_eq_getElem?_getD,List.getElem?_set_ne (by omega)]
 exact⟨rfl,id⟩
end Go.Sh
namespace Go.Sh
def Fst(s:a7)(i:Nat):Prop:=i<s.S.Cells.length∧(ce s i).State=0∧∀j,j<i→(ce s j).State≠0
theorem d2c{s:a7}(hR:SR s)(hb:s.Serial<9223372036854775807)(a p:Int) :
  (¬(0≤a∧a≤4)∧S0 s a p=some (s,0,1)) ∨
  ((0≤a∧a≤4)∧¬(-1≤p∧p≤5)∧S0 s a p=some (s,0,13)) ∨
  ((0≤a∧a≤4)∧(-1≤p∧p≤5)∧(∀i,i<s.S.Cells.length→(ce s i).State≠0)∧S0 s a p=some (s,0,4)) ∨
  ((0≤a∧a≤4)∧(-1≤p∧p≤5)∧∃i,Fst s i∧S0 s a p=some (mkS s i a.toNat p,hdl s i,0)):=by
 have hs':=hR.ser;have hR':=y4.2 hR;unfold S0 b8Y;by_cases ha:0≤a∧a≤4
 ·right;obtain⟨ha1,ha2⟩:=ha;obtain⟨n,rfl⟩:∃n:Nat,a=n:=⟨a.toNat,by omega⟩
  rw[if_neg (by simp;omega),b48 (by omega) (by omega)]
  simp only[d4l];by_cases hp : -1≤p∧p≤5
  ·right;unfold J3;simp only[d4l];have e1:(decide (p ≥ -1)&&decide (p<6))=true:=by simp;omega
   rw[e1];have hl:SlO s.S:=⟨a2G hR',hR'.l0,hR'.l9,λi hi=>b8C hR' i hi⟩;rcases b8S hl ⟨s.Serial+1,0,0,p,false,List.replicate n 0⟩ with ⟨i,hi,h0,hf,e⟩ | ⟨hf,e⟩
   ·right;refine⟨⟨ha1,ha2⟩,hp,i,⟨hi,by rw[F0 hi];exact h0,λj hj=>by rw[F0 (by omega)];exact hf j hj⟩,?_⟩
    simp only[bne_self_eq_false,Bool.false_eq_true,if_false,Bool.not_true];rw[show x6 (s.Serial+1)=s.Serial+1 from F7 (by omega) (by omega),e]
    unfold mkS hdl;rw[F0 hi];simp
   ·left;refine⟨⟨ha1,ha2⟩,hp,λi hi=>by rw[F0 hi];exact hf i hi,?_⟩
    simp only[bne_self_eq_false,Bool.false_eq_true,if_false,Bool.not_true];rw[show x6 (s.Serial+1)=s.Serial+1 from F7 (by omega) (by omega),e]
    simp
  ·left;refine⟨⟨ha1,ha2⟩,hp,?_⟩;unfold J3;simp only[d4l];have e1:(decide (p ≥ -1)&&decide (p<6))=false:=by rw[Bool.eq_false_iff];simp;omega
   rw[e1];simp
 ·left;refine⟨ha,?_⟩;rw[if_pos (by simp;omega)]
  simp
end Go.Sh
namespace Go.Sh
def sd(x:Hp)(r:Int):Int:=if r<0 then 0 else x.Roots.getD r.toNat 0
def asd(x:Hp)(r:Int):Int × Int:=if sd x r=0 then (0,2) else (sd x r,0)
def ser(x:Hp)(h:Int):Int:=(ob x.S h).Serial
theorem in0{n l m e:Int}(he:e≠0)(h:O0 n l m e=0):l≤n∧n≤m:=by
 unfold O0 at h;split at h;·exact absurd h he
 ·omega
theorem c04{a b c:Int}(h:a0U a b c=0):a=0∧b=0∧c=0:=by
 unfold a0U at h;split at h;·contradiction
 ·split at h;·contradiction
  ·omega
theorem c2M{k a b c:Int}(h:C8 k a b c=0):1≤k∧k≤12:=by
 refine Decidable.byContradiction λq=>?_;have:C8 k a b c=14:=by
  unfold C8;repeat rw[if_neg (by omega)]
 omega
theorem d3k{a b c:Int}(h:C8 1 a b c=0):(0≤a∧a≤5)∧(0≤b∧b≤4) ∧ -1≤c∧c≤5:=by
 obtain⟨h1,h2,h3⟩:=c04 (show a0U (O0 a 0 5 6) (O0 b 0 4 1) (O0 c (-1) 5 13)=0 from h);exact⟨in0 (by decide) h1,in0 (by decide) h2,in0 (by decide) h3⟩
theorem c96{a b c:Int}(h:C8 2 a b c=0):(0≤a∧a≤5)∧(0≤b∧b≤5):=by
 obtain⟨h1,h2,_⟩:=c04 (show a0U (O0 a 0 5 6) (O0 b 0 5 6) 0=0 from h);exact⟨in0 (by decide) h1,in0 (by decide) h2⟩
theorem d3l{a b c:Int}(h:C8 3 a b c=0):0≤a∧a≤5:=in0 (by decide) (show O0 a 0 5 6=0 from h)
theorem d3m{a b c:Int}(h:C8 4 a b c=0):(0≤a∧a≤5)∧(0≤b∧b≤5)∧0≤c∧c≤3:=by
 obtain⟨h1,h2,h3⟩:=c04 (show a0U (O0 a 0 5 6) (O0 b 0 5 6) (O0 c 0 3 5)=0 from h);exact⟨in0 (by decide) h1,in0 (by decide) h2,in0 (by decide) h3⟩
theorem d3n{a b c:Int}(h:C8 5 a b c=0):(0≤a∧a≤5)∧(0≤b∧b≤3) ∧ -1≤c∧c≤5:=by
 obtain⟨h1,h2,h3⟩:=c04 (show a0U (O0 a 0 5 6) (O0 b 0 3 5) (O0 c (-1) 5 6)=0 from h);exact⟨in0 (by decide) h1,in0 (by decide) h2,in0 (by decide) h3⟩
theorem d3o{a b c:Int}(h:C8 6 a b c=0):(0≤a∧a≤5)∧(-1≤b∧b≤5) ∧ -1≤c∧c≤5:=by
 obtain⟨h1,h2,h3⟩:=c04 (show a0U (O0 a 0 5 7) (O0 b (-1) 5 6) (O0 c (-1) 5 13)=0 from h);exact⟨in0 (by decide) h1,in0 (by decide) h2,in0 (by decide) h3⟩
theorem d3p{a b c:Int}(h:C8 7 a b c=0):(0≤a∧a≤5)∧(0≤b∧b≤5):=by
 obtain⟨h1,h2,_⟩:=c04 (show a0U (O0 a 0 5 6) (O0 b 0 5 7) 0=0 from h);exact⟨in0 (by decide) h1,in0 (by decide) h2⟩
theorem d3q{a b c:Int}(h:C8 8 a b c=0):(0≤a∧a≤5)∧(-1≤b∧b≤5):=by
 obtain⟨h1,h2,_⟩:=c04 (show a0U (O0 a 0 5 6) (O0 b (-1) 5 6) 0=0 from h);exact⟨in0 (by decide) h1,in0 (by decide) h2⟩
theorem d3r{a b c:Int}(h:C8 9 a b c=0):(0≤a∧a≤5)∧(0≤b∧b≤5):=c96 (show C8 2 a b c=0 from h)
theorem d1P{a b c:Int}(h:C8 10 a b c=0):(0≤a∧a≤5)∧(0≤b∧b≤5):=c96 (show C8 2 a b c=0 from h)
section
variable{x:Hp}(hx:HpS x)
include hx
theorem b3B{r:Int}(h:0≤r∧r≤5):ix x.Roots r=some (sd x r):=by
 have:=hx.r6;obtain⟨n,rfl⟩:∃n:Nat,r=n:=⟨r.toNat,by omega⟩
 have hn:n<x.Roots.length:=by omega
 rw[o8 hn];unfold sd;rw[if_neg (by omega),Int.toNat_natCast,List.getD_eq_getElem?_getD,List.getElem?_eq_getElem hn]
 rfl
theorem b5I{r:Int}(h:¬(0≤r∧r≤5)):sd x r=0:=by
 have:=hx.r6;unfold sd;split;·rfl
 ·rw[List.getD_eq_getElem?_getD,List.getElem?_eq_none (by omega)]
  rfl
theorem b3C(r:Int):sd x r=0∨sd x r∈lv x.S:=by
 by_cases h:0≤r∧r≤5
 ·have e:=b3B hx h;unfold ix at e;rw[if_pos h.1] at e;exact hx.rt _ (List.mem_of_getElem? e)
 ·exact .inl (b5I hx h)
theorem b3D(r:Int):sd x r≤9223372036854775807:=by
 rcases b3C hx r with h | h
 ·omega
 ·have:=K1 hx.sr h;omega
theorem a7d(r:Int):L6 x r=some (sd x r):=by
 have h6:=hx.r6;unfold L6;by_cases h:0≤r∧r≤5
 ·rw[if_neg (by simp;omega),b3B hx h]
  rfl
 ·rw[if_pos (by simp;omega),b5I hx h]
theorem c6E{r:Int}(h:r≤5):a4r (hO x) r=some (sd x r):=by
 unfold a4r;by_cases q:r<0
 ·rw[if_pos (by simpa using q),b5I hx (by omega)]
 ·rw[if_neg (by simpa using q),show (hO x).Roots=x.Roots from rfl,b3B hx (by omega)]
  rfl
theorem a57(r:Int):M2 x r=some (asd x r):=by
 unfold M2 asd;rw[a7d hx,d4l];by_cases h:sd x r=0
 ·rw[if_pos (by simpa using h),if_pos h]
 ·rw[if_neg (by simpa using h),if_neg h]
theorem b02{r:Int}(h:0≤r∧r≤5):U6 (hO x) r=some (asd x r):=by
 unfold U6 asd;rw[show (hO x).Roots=x.Roots from rfl,b3B hx h,d4l];by_cases h:sd x r=0
 ·rw[if_pos (by simpa using h),if_pos h]
 ·rw[if_neg (by simpa using h),if_neg h]
theorem d1j{h:Int}(hh:h≤9223372036854775807):a1Z x h=some (ser x h):=by
 obtain⟨e,h1,_⟩:=W0 (y4.2 hx.sr) hh;unfold a1Z;rw[h1];rfl
theorem c9D{h:Int}(hh:h≤9223372036854775807):a2C (hO x) h=some (ser x h):=by
 obtain⟨e,h1,_⟩:=W0 (y4.2 hx.sr) hh;unfold a2C;rw[show (hO x).S=sO x.S from rfl,a4X x.S (by have:=hx.sr.len;omega) hh,h1]
 rfl
theorem c2w(r:Int):W2 x r=some (ser x (sd x r)):=by
 unfold W2;rw[a7d hx,d4l,d1j hx (b3D hx r)];rfl
theorem c3j:ser x 0=0:=by
 unfold ser;rw[b0a (y4.2 hx.sr) (by omega) (b2T hx.sr)]
theorem d1O(r:Int):b0G (hO x) r=some (ser x (sd x r)):=by
 unfold b0G;by_cases h:0≤r∧r≤5
 ·rw[if_neg (by simp;omega),show (hO x).Roots=x.Roots from rfl,b3B hx h,d4l,c9D hx (b3D hx r)]
  rfl
 ·rw[if_pos (by simp;omega),b5I hx h,c3j hx]
end
theorem d1k{x z:Hp}(hx:HpS x)(k:Ks x.S z.S){h:Int}(hh:h=0∨h∈lv x.S):ser z h=ser x h:=by
 rcases hh with e | e
 ·subst e;unfold ser;rw[b0a (y4.2 hx.sr) (by omega) (b2T hx.sr),b0a (y4.2 k.sr) (by omega) (b2T k.sr)]
 ·exact k.ob h e
theorem c8R{x z:Hp}(h:z.Roots=x.Roots)(r:Int):sd z r=sd x r:=by unfold sd;rw[h]
noncomputable def doR(x:Hp)(o:j2)(v:Hp × Int):Option (Hp × Int × Int):=
 if (v.2 != 0) then some (x,0,v.2) else (R9 v.1).bind λv5=>(U1 v.1 v5 o).bind λv6=>some (v5,v6,0)
theorem a91{x:Hp}{o:j2}{n:Option Nat}(hc:C8 o.Kind o.A o.B o.C=0)(hk:∃l,a2U=some l∧B4 l o.Kind=some n):w9 x o=(b33 n ⟨x,o⟩).bind (doR x o):=by
 obtain⟨l,h1,h2⟩:=hk;unfold w9;rw[b4J,hc,d4l,if_neg (by simp),h1,d4l,h2,if_neg (by simp)]
 rfl
theorem c5d{x:Hp}{o:j2}(hc:C8 o.Kind o.A o.B o.C≠0):w9 x o=some (x,0,C8 o.Kind o.A o.B o.C)∧C7 (hO x) ⟨o.Kind,o.A,o.B,o.C⟩=some (hO x,0,C8 o.Kind o.A o.B o.C):=by
 constructor
 ·unfold w9;rw[b4J,d4l,if_pos (by simpa using hc)]
 ·unfold C7;rw[a6J,d4l,if_pos (by simpa using hc)]
section
variable{x:Hp}{a b c:Int}
theorem d3s(hc:C8 1 a b c=0):w9 x ⟨1,a,b,c⟩=(T0 ⟨x,⟨1,a,b,c⟩⟩).bind (doR x ⟨1,a,b,c⟩):=a91 (o:=⟨1,a,b,c⟩) (n:=some 242) hc ⟨_,rfl,rfl⟩
theorem d3t(hc:C8 2 a b c=0):w9 x ⟨2,a,b,c⟩=(I8 ⟨x,⟨2,a,b,c⟩⟩).bind (doR x ⟨2,a,b,c⟩):=a91 (o:=⟨2,a,b,c⟩) (n:=some 243) hc ⟨_,rfl,rfl⟩
theorem d3u(hc:C8 3 a b c=0):w9 x ⟨3,a,b,c⟩=(Z5 ⟨x,⟨3,a,b,c⟩⟩).bind (doR x ⟨3,a,b,c⟩):=a91 (o:=⟨3,a,b,c⟩) (n:=some 244) hc ⟨_,rfl,rfl⟩
theorem d3v(hc:C8 4 a b c=0):w9 x ⟨4,a,b,c⟩=(Z6 ⟨x,⟨4,a,b,c⟩⟩).bind (doR x ⟨4,a,b,c⟩):=a91 (o:=⟨4,a,b,c⟩) (n:=some 245) hc ⟨_,rfl,rfl⟩
theorem d3w(hc:C8 5 a b c=0):w9 x ⟨5,a,b,c⟩=(W3 ⟨x,⟨5,a,b,c⟩⟩).bind (doR x ⟨5,a,b,c⟩):=a91 (o:=⟨5,a,b,c⟩) (n:=some 246) hc ⟨_,rfl,rfl⟩
theorem d3x(hc:C8 6 a b c=0):w9 x ⟨6,a,b,c⟩=(T1 ⟨x,⟨6,a,b,c⟩⟩).bind (doR x ⟨6,a,b,c⟩):=a91 (o:=⟨6,a,b,c⟩) (n:=some 247) hc ⟨_,rfl,rfl⟩
theorem d3y(hc:C8 7 a b c=0):w9 x ⟨7,a,b,c⟩=(W9 ⟨x,⟨7,a,b,c⟩⟩).bind (doR x ⟨7,a,b,c⟩):=a91 (o:=⟨7,a,b,c⟩) (n:=some 248) hc ⟨_,rfl,rfl⟩
theorem d3z(hc:C8 8 a b c=0):w9 x ⟨8,a,b,c⟩=(Z7 ⟨x,⟨8,a,b,c⟩⟩).bind (doR x ⟨8,a,b,c⟩):=a91 (o:=⟨8,a,b,c⟩) (n:=some 249) hc ⟨_,rfl,rfl⟩
theorem d3A(hc:C8 9 a b c=0):w9 x ⟨9,a,b,c⟩=(a0L ⟨x,⟨9,a,b,c⟩⟩).bind (doR x ⟨9,a,b,c⟩):=a91 (o:=⟨9,a,b,c⟩) (n:=some 250) hc ⟨_,rfl,rfl⟩
theorem d1T(hc:C8 10 a b c=0):w9 x ⟨10,a,b,c⟩=(P8 ⟨x,⟨10,a,b,c⟩⟩).bind (doR x ⟨10,a,b,c⟩):=a91 (o:=⟨10,a,b,c⟩) (n:=some 251) hc ⟨_,rfl,rfl⟩
theorem b7F{k:Int}(hk:k=11∨k=12)(hc:C8 k a b c=0):w9 x ⟨k,a,b,c⟩=some (x,0,14)∧C7 (hO x) ⟨k,a,b,c⟩=some (hO x,0,14):=by
 constructor
 ·unfold w9;rw[b4J,hc,d4l,if_neg (by simp)]
  rcases hk with rfl | rfl <;> rfl
 ·unfold C7 Q6;rw[a6J,hc,d4l,if_neg (by simp)]
  rcases hk with rfl | rfl <;> rfl
variable{y:c7}
def rT(y:c7)(a:Int)(v:Int × Int):Option (c7 × Int × Int):=
 if (v.2 != 0) then some (y,0,v.2) else (U5 y a v.1).bind λv15=>(P9 v15.1).bind λv16=>(b0G v16 a).bind λv17=>some (v16,v17,0)
def rO(y:c7)(v:c7 × Int × Int):Option (c7 × Int × Int):=
 if (v.2.2 != 0) then some (y,0,v.2.2) else (P9 v.1).bind λv8=>(a2C y v.2.1).bind λv9=>some (v8,v9,0)
theorem c29{k:Int}(hk:k=2∨k=3∨k=4∨k=7∨k=9)(hc:C8 k a b c=0):C7 y ⟨k,a,b,c⟩=(a1y y ⟨k,a,b,c⟩).bind (rT y a):=by
 unfold C7 Q6;rw[a6J,hc,d4l,if_neg (by simp)]
 rcases hk with rfl | rfl | rfl | rfl | rfl <;> rfl
theorem c28{k:Int}(hk:k=5∨k=6∨k=8)(hc:C8 k a b c=0):C7 y ⟨k,a,b,c⟩=(a0P y ⟨k,a,b,c⟩).bind (rO y):=by
 unfold C7 Q6;rw[a6J,hc,d4l,if_neg (by simp)]
 rcases hk with rfl | rfl | rfl <;> rfl
theorem d2A(hc:C8 1 a b c=0):C7 y ⟨1,a,b,c⟩=(a13 y.S b c).bind λv10=>if (v10.2.2 != 0) then some (y,0,v10.2.2) else (U5 ⟨v10.1,y.Roots,y.Cells,y.T,y.Q⟩ a v10.2.1).bind λv11=>(P9 v11.1).bind λv12=>(b0G v12 a).bind λv13=>some (v12,v13,0):=by
 unfold C7 Q6;rw[a6J,hc,d4l,if_neg (by simp)]
 rfl
theorem d1a(hc:C8 10 a b c=0):C7 y ⟨10,a,b,c⟩=(ix y.Roots a).bind λv3=>(ix y.Roots b).bind λv4=>if (v3==v4) then some (y,1,0) else some (y,0,0):=by
 unfold C7 Q6;rw[a6J,hc,d4l,if_neg (by simp)]
 rfl
end
end Go.Sh
namespace Go.Sh
section
variable{s:a7}(hR:SR s){i:Nat}(hi:i<s.S.Cells.length)
include hR hi
theorem d1v(st g:Int):a0r (sO s) ⟨(pl (sO s)).Cells.set i ⟨st,g,0⟩,(pl (sO s)).Last⟩=some ⟨(sO s).Cells.set i ⟨st,g,oo (ce s i).Val⟩,s.S.Last,s.Serial⟩:=by
 have hlen:=hR.len;have M1:i<(pl (sO s)).Cells.length:=by rw[a1o,B2];exact hi
 rw[b5U _ _ (by rw[B2];omega) (by simp[a1o])]
 congr 1;congr 1;refine List.ext_getElem (by simp) λk h1 h2=>?_
 have hk:k<s.S.Cells.length:=by simpa[B2] using h1
 have hk2:k<(sO s).Cells.length:=by rw[B2];exact hk
 have hk3:k<(pl (sO s)).Cells.length:=by rw[a1o];exact hk2
 simp only[List.getElem_map,List.getElem_range,List.getElem_set];have e1:(sO s).Cells.getD k ⟨0,0,oo z0⟩=cO (ce s k):=by
  rw[List.getD_eq_getElem?_getD,List.getElem?_eq_getElem hk2,F0 hk];simp[sO]
 have e2:((pl (sO s)).Cells.set i ⟨st,g,0⟩).getD k ⟨0,0,0⟩=if k=i then ⟨st,g,0⟩ else plc k (cO (ce s k)):=by
  rw[a5U M1];split;·rfl
  ·rw[List.getD_eq_getElem?_getD,List.getElem?_eq_getElem hk3,F0 hk];simp[pl,sO]
 rw[e1,e2];by_cases e:k=i
 ·subst e;rw[if_pos rfl,if_pos rfl];rfl
 ·rw[if_neg e,if_neg (Ne.symm e)];rw[F0 hk];simp[sO,plc,cO]
theorem d1w(st g:Int)(o:B0):a07 ⟨(sO s).Cells.set i ⟨st,g,oo (ce s i).Val⟩,s.S.Last,s.Serial⟩ (i:Int) o=some ⟨(sO s).Cells.set i ⟨st,g,o⟩,s.S.Last,s.Serial⟩:=by
 have hlen:=hR.len;unfold a07;have hi2:i<((sO s).Cells.set i ⟨st,g,oo (ce s i).Val⟩).length:=by simp[B2];exact hi
 rw[Q2 (by omega) (by simp[B2];omega),d4l,o8 hi2,d4l]
 simp[List.set_set]
theorem c6h:∃h:i<(pl (sO s)).Cells.length,(pl (sO s)).Cells[i]=⟨(ce s i).State,(ce s i).Gen,(i:Int)⟩:=by
 have M1:i<(pl (sO s)).Cells.length:=by rw[a1o,B2];exact hi
 refine⟨M1,?_⟩;rw[F0 hi];simp[pl,sO,plc,cO]
end
theorem d1t{s:a7}(hR:SR s):(∀i,i<s.S.Cells.length→(ce s i).State≠0)→a6b (pl (sO s)) 0=some (pl (sO s),0,4):=λhf=>by
 have hlen:=hR.len;have el:(pl (sO s)).Cells.length=s.S.Cells.length:=by rw[a1o,B2]
 unfold a6b;simp only[jn];refine G2 (pl (sO s)).Cells.length (λk=>True) (by omega) trivial (λk hk _=>?_) (λhP=>⟨.inr (),by simp,rfl⟩)
 refine .inl ⟨?_,trivial⟩;obtain⟨h1,h2⟩:=c6h hR (show k<s.S.Cells.length by omega)
 have:=hf k (by omega)
 simp only[Int.ofNat_lt,hk,decide_true,if_true,o8 hk,d4l];rw[h2,if_neg (by simpa using this),k8]
theorem c8Y{s:a7}(hR:SR s){i:Nat}(hF:Fst s i):a6b (pl (sO s)) 0=some (⟨(pl (sO s)).Cells.set i ⟨1,(ce s i).Gen,0⟩,(pl (sO s)).Last⟩,hdl s i,0):=by
 have hlen:=hR.len;have el:(pl (sO s)).Cells.length=s.S.Cells.length:=by rw[a1o,B2]
 obtain⟨hi,h0,hmin⟩:=hF;have hc:=hR.cell i hi;have l9:=hR.l9;unfold a6b;simp only[jn];refine G2 (pl (sO s)).Cells.length (λk=>k≤i) (by omega) (by omega) (λk hk hP=>?_) (λhP=>by omega)
 obtain⟨h1,h2⟩:=c6h hR (show k<s.S.Cells.length by omega)
 rcases Nat.lt_or_ge k i with g | g
 ·refine .inl ⟨?_,g⟩;have:=hmin k g;simp only[Int.ofNat_lt,hk,decide_true,if_true,o8 hk,d4l];rw[h2,if_neg (by simpa using this),k8]
 ·have:k=i:=by omega
  subst this;refine .inr ⟨.inl _,?_,rfl⟩;simp only[Int.ofNat_lt,hk,decide_true,if_true,o8 hk,d4l];rw[h2,if_pos (by simpa using h0)]
  have w3:∀c:x4,X0 (pl (sO s)) (k:Int) c=some ⟨(pl (sO s)).Cells.set k c,(pl (sO s)).Last⟩:=λc=>by
   unfold X0;rw[Q2 (by omega) (by omega),d4l,o8 hk,d4l,Int.toNat_natCast]
  rw[w3,d4l,a5a,if_pos (by dsimp only;omega),d4l]
  rfl
theorem d2d{s:a7}(hR:SR s)(hb:s.Serial<9223372036854775807)(a p:Int) :
  (∃e,e≠0∧S0 s a p=some (s,0,e)∧a13 (sO s) a p=some (sO s,0,e)) ∨
  ((0≤a∧a≤4)∧(-1≤p∧p≤5)∧∃i,Fst s i∧S0 s a p=some (mkS s i a.toNat p,hdl s i,0)∧a13 (sO s) a p=some (sO (mkS s i a.toNat p),hdl s i,0)):=by
 have hser:=hR.ser;have hlen:=hR.len;have r1:∀n:Nat,n≤4→b1N (n:Int)=some (List.replicate n 0,0):=λn hn=>by
  unfold b1N;rw[if_neg (by simp;omega),b48 (by omega) (by omega)]
  rfl
 rcases d2c hR hb a p with ⟨h1,e⟩ | ⟨h1,h2,e⟩ | ⟨h1,h2,h3,e⟩ | ⟨h1,h2,i,h3,e⟩
 ·refine .inl ⟨1,by decide,e,?_⟩
  unfold a13 b1N;rw[if_pos (by simp;omega)]
  rfl
 ·refine .inl ⟨13,by decide,e,?_⟩
  obtain⟨n,rfl⟩:∃n:Nat,a=n:=⟨a.toNat,by omega⟩
  unfold a13;rw[r1 n (by omega),d4l,if_neg (by simp),if_pos (by simp;omega)]
 ·refine .inl ⟨4,by decide,e,?_⟩
  obtain⟨n,rfl⟩:∃n:Nat,a=n:=⟨a.toNat,by omega⟩
  unfold a13;rw[r1 n (by omega),d4l,if_neg (by simp),if_neg (by simp;omega),a2V _ (by rw[B2];omega),d4l,d1t hR h3,d4l,if_pos (by simp)]
 ·refine .inr ⟨h1,h2,i,h3,e,?_⟩;obtain⟨n,rfl⟩:∃n:Nat,a=n:=⟨a.toNat,by omega⟩
  have hi:=h3.1;have hc:=hR.cell i hi;have l9:=hR.l9;unfold a13;rw[r1 n (by omega),d4l,if_neg (by simp),if_neg (by simp;omega),a2V _ (by rw[B2];omega),d4l,c8Y hR h3,d4l,if_neg (by simp),d1v hR hi,d4l,a8o,if_pos (by unfold Hnd hdl;dsimp only;omega),d4l,
   show (hdl s i-1) % 32=(i:Int) by unfold hdl;omega,d1w hR hi,d4l,F7 (by show _≤s.Serial+1;omega) (by show s.Serial+1≤_;omega)]
  unfold mkS;rw[Int.toNat_natCast];simp only[sO,List.map_set];rfl
end Go.Sh
namespace Go.Sh
abbrev opR(o:j2):p9:=⟨o.Kind,o.A,o.B,o.C⟩
structure Dn (x:Hp) (o:j2) (z:Hp) (v:Int):Prop where
 rt:S9 z
 sl:SL z
 ev:Ev x z
 cw:Cw x z (if o.Kind=6 then o.A else -1)
 mc:w9 x o=some (a17 z,v,0)
 rf:C7 (hO x) (opR o)=some (hO (a17 z),v,0)
def Er(x:Hp)(o:j2)(e:Int):Prop:=e≠0∧w9 x o=some (x,0,e)∧C7 (hO x) (opR o)=some (hO x,0,e)
theorem d2j{x:Hp}(hx:S9 x)(hS:SL x){i:Nat}(hi:i<x.S.S.Cells.length)(h0:(ce x.S i).State=0){n:Nat}(hn:n≤4){p:Int}(hp : -1≤p∧p≤5):SL (wS x (mkS x.S i n p)):=λk hk=>by
 have hR:=hx.sh.sr;have hk':k∈lv (mkS x.S i n p):=hk;show (ob (mkS x.S i n p) k).Strong≤_;rw[c2S hR hi h0 hn hp] at hk';rcases List.mem_append.1 hk' with q | q
 ·rw[b64 hR hi h0 hn hp q];exact hS k q
 ·rw[List.mem_singleton.1 q,b2X hR hi h0 hn hp];show (0:Int)≤_;decide
theorem a9w{y:Hp}(hy:S9 y){a:Int}(ha:0≤a∧a≤5){h:Int}(hh:h=0∨h∈lv y.S):sd (a17 (H0 y a.toNat h)) a=h∧ser (a17 (H0 y a.toNat h)) h=ser y h:=by
 have hz:=a0w hy (r:=a.toNat) (by omega) hh
 have st:=a8K hz;have w:=a2I hz;have e1:(a17 (H0 y a.toNat h)).Roots=y.Roots.set a.toNat h:=st.rt.trans (a4w y a.toNat h).1;have h6:=hy.sh.r6;have e2:sd (a17 (H0 y a.toNat h)) a=h:=by
  unfold sd;rw[if_neg (by omega),e1,List.getD_eq_getElem?_getD,List.getElem?_set_self (by omega)]
  rfl
 refine⟨e2,?_⟩;have k:=a15 hy.sh.sr a.toNat h;rcases b3C w.sh a with q | q
 ·rw[e2] at q;subst q;rw[c3j w.sh,c3j hy.sh]
 ·rw[e2] at q;have h1:=(st.ob h q).1;have h2:=st.lv h q;rw[k.lv] at h2;exact h1.trans (k.ob h h2)
section
variable{x:Hp}{a b c:Int}
theorem a7v{o:j2}{y:Hp}{e:Int}(he:e≠0):doR x o (y,e)=some (x,0,e):=by
 unfold doR;rw[if_pos (by simpa using he)]
theorem c9g{z:Hp}(hz:S9 z)(hS:SL z){k:Int}(hk:k≠5∧k≠6∧k≠8∧k≠10):doR x ⟨k,a,b,c⟩ (z,0)=some (a17 z,ser (a17 z) (sd (a17 z) a),0):=by
 unfold doR U1;rw[if_neg (by simp),a6n hz hS,d4l]
 simp only[jn];rw[if_neg (by simp;omega),if_neg (by simp;omega)]
 have:(k==8)=false:=by simp;omega
 rw[this,if_neg (by simp),if_neg (by simp;omega),c2w (a2I hz).sh]
 rfl
theorem c11{o:j2}{v e:Int}(he:e≠0):B7 ⟨x,o⟩ v e=some (x,e):=by
 unfold B7;rw[if_pos (by simpa using he)]
theorem c6o{y:c7}{v e:Int}(he:e≠0):rT y a (v,e)=some (y,0,e):=by
 unfold rT;rw[if_pos (by simpa using he)]
theorem c4h{y z:c7}{v e:Int}(he:e≠0):rO y (z,v,e)=some (y,0,e):=by
 unfold rO;rw[if_pos (by simpa using he)]
variable(hx:S9 x)(hS:SL x)
include hx hS
theorem a9E{k:Int}(ha:0≤a∧a≤5){h:Int}(hh:h=0∨h∈lv x.S):B7 ⟨x,⟨k,a,b,c⟩⟩ h 0=some (H0 x a.toNat h,0):=by
 unfold B7;rw[if_neg (by simp),c3e hx hS a (b1x hx hS hh),if_neg (by omega),if_pos hh]
 rfl
theorem d2v(ha:0≤a∧a≤5){h:Int}(hh:h=0∨h∈lv x.S):rT (hO x) a (h,0)=some (hO (a17 (H0 x a.toNat h)),ser x h,0):=by
 have hz:=a0w hx (r:=a.toNat) (by omega) hh
 have zS:=a4x hx.sh.sr hS a.toNat h;obtain⟨e1,e2⟩:=a9w hx ha hh;unfold rT;rw[if_neg (by simp),c1P hx hS a (b1x hx hS hh),if_neg (by omega),if_pos hh,d4l,a8L hz zS,d4l,d1O (a2I hz).sh,e1,e2]
 rfl
theorem a6q{k:Int}(hk:k=2∨k=3∨k=4∨k=7∨k=9)(hc:C8 k a b c=0)(ha:0≤a∧a≤5){h:Int}(hh:h=0∨h∈lv x.S)
  (h1:w9 x ⟨k,a,b,c⟩=doR x ⟨k,a,b,c⟩ (H0 x a.toNat h,0))(h2:a1y (hO x) ⟨k,a,b,c⟩=some (h,0)):Dn x ⟨k,a,b,c⟩ (H0 x a.toNat h) (ser x h):=by
 have hz:=a0w hx (r:=a.toNat) (by omega) hh
 have zS:=a4x hx.sh.sr hS a.toNat h;obtain⟨e1,e2⟩:=a9w hx ha hh;refine⟨hz,zS,(a15 hx.sh.sr a.toNat h).ev,Cw.same (a4w x a.toNat h).2.1 _,?_,?_⟩;·rw[h1,c9g hz zS (by omega),e1,e2]
 ·show C7 (hO x) ⟨k,a,b,c⟩=_;rw[c29 hk hc,h2,d4l,d2v hx hS ha hh]
theorem d2(hc:C8 2 a b c=0):Dn x ⟨2,a,b,c⟩ (H0 x a.toNat (sd x b)) (ser x (sd x b)):=by
 obtain⟨ha,hb⟩:=c96 hc;refine a6q hx hS (.inl rfl) hc ha (b3C hx.sh b) ?_ ?_
 ·rw[d3t hc];unfold I8;rw[a7d hx.sh,d4l,a9E hx hS ha (b3C hx.sh b)];rfl
 ·unfold a1y;rw[if_pos (by rfl),show (hO x).Roots=x.Roots from rfl,b3B hx.sh hb]
  rfl
theorem d3(hc:C8 3 a b c=0):Dn x ⟨3,a,b,c⟩ (H0 x a.toNat 0) 0:=by
 have ha:=d3l hc;have:=a6q (b:=b) (c:=c) hx hS (.inr (.inl rfl)) hc ha (h:=0) (.inl rfl) ?_ ?_;·rwa [c3j hx.sh] at this
 ·rw[d3u hc];unfold Z5;rw[a9E hx hS ha (.inl rfl)];rfl
 ·rfl
theorem d4(hc:C8 4 a b c=0):(sd x b=0∧Er x ⟨4,a,b,c⟩ 2)∨(∃e,a0A x.S (sd x b) c=some (0,e)∧Er x ⟨4,a,b,c⟩ e) ∨
  (sd x b∈lv x.S∧∃n:Nat,c=n∧∃hn:n<(ob x.S (sd x b)).Fields.length,Dn x ⟨4,a,b,c⟩ (H0 x a.toNat (ob x.S (sd x b)).Fields[n]) (ser x (ob x.S (sd x b)).Fields[n])):=by
 obtain⟨ha,hb,_⟩:=d3m hc;have hm:w9 x ⟨4,a,b,c⟩=_:=d3v hc;unfold Z6 at hm;rw[a57 hx.sh,d4l] at hm;have hr:C7 (hO x) ⟨4,a,b,c⟩=_:=c29 (by omega) hc
 have hnm:a1y (hO x) ⟨4,a,b,c⟩=(U6 (hO x) b).bind λv2=>if (v2.2 != 0) then some (0,v2.2) else (a2y (hO x).S v2.1 c).bind λv3=>some (v3.1,v3.2):=rfl
 rw[b02 hx.sh hb,d4l] at hnm;by_cases h0:sd x b=0
 ·refine .inl ⟨h0,by decide,?_,?_⟩
  ·rw[hm];unfold asd;rw[if_pos h0,if_pos (by simp),d4l,a7v (by decide)]
  ·show C7 (hO x) ⟨4,a,b,c⟩=_;rw[hr,hnm];unfold asd;rw[if_pos h0,if_pos (by simp),d4l,c6o (by decide)]
 ·have has:asd x b=(sd x b,0):=by unfold asd;rw[if_neg h0]
  rw[has,if_neg (by simp)] at hm hnm
  right;rcases b3l hx hS (sd x b) c (b3D hx.sh b) with ⟨e,he,f1,f2⟩ | ⟨hl,n,hn0,hn,f1,f2⟩
  ·refine .inl ⟨e,f1,he,?_,?_⟩
   ·rw[hm];dsimp only;rw[f1,d4l,c11 he,d4l,d4l,a7v he]
   ·show C7 (hO x) ⟨4,a,b,c⟩=_;rw[hr,hnm];dsimp only;rw[show (hO x).S=sO x.S from rfl,f2,d4l,d4l,c6o he]
  ·refine .inr ⟨hl,n,hn0,hn,?_⟩;have hv:=hx.sh.fl _ hl _ (List.getElem_mem hn);refine a6q hx hS (by omega) hc ha hv ?_ ?_
   ·rw[hm];dsimp only;rw[f1,d4l,a9E hx hS ha hv];rfl
   ·rw[hnm];dsimp only;rw[show (hO x).S=sO x.S from rfl,f2];rfl
theorem c8f{n:Nat}(hn:n<6):∃h:n<x.Cells.length,a6t x.Cells n=some (if x.Cells[n].Target=0∨x.Cells[n].Intact=false then (0,9) else (x.Cells[n].Target,0))∧a8s (hO x).Cells n=some (if x.Cells[n].Target=0∨x.Cells[n].Intact=false then (0,9) else (x.Cells[n].Target,0)):=by
 have c6:=hx.sh.c6;have hl:n<x.Cells.length:=by omega
 have hl2:n<(x.Cells.map wcR).length:=by simp;exact hl
 refine⟨hl,?_,?_⟩
 ·unfold a6t a6u;have:(decide ((n:Int)≥0)&&decide ((n:Int)<(x.Cells.length:Int)))=true:=by simp;omega
  rw[this,d4l,if_neg (by simp),o8 hl,d4l]
  by_cases q:x.Cells[n].Target=0∨x.Cells[n].Intact=false
  ·rw[if_pos q,if_pos (by rcases q with q | q <;> simp[q])]
  ·rw[if_neg q,if_neg (by simpa using q)]
 ·unfold a8s;show (if _ then _ else (ix (x.Cells.map wcR) (n:Int)).bind _)=_
  rw[if_neg (by simp[hO];omega),o8 hl2,d4l,List.getElem_map]
  by_cases q:x.Cells[n].Target=0∨x.Cells[n].Intact=false
  ·rw[if_pos q,if_pos (by rcases q with q | q <;> simp[wcR,q])]
  ·rw[if_neg q,if_neg (by simpa[wcR] using q)]
   rfl
theorem d7(hc:C8 7 a b c=0):∃h:b.toNat<x.Cells.length,((x.Cells[b.toNat].Intact=false∧Er x ⟨7,a,b,c⟩ 9) ∨
  (x.Cells[b.toNat].Intact=true∧Dn x ⟨7,a,b,c⟩ (H0 x a.toNat x.Cells[b.toNat].Target) (ser x x.Cells[b.toNat].Target))):=by
 obtain⟨ha,hb⟩:=d3p hc;obtain⟨n,rfl⟩:∃n:Nat,b=n:=⟨b.toNat,by omega⟩
 obtain⟨hl,l1,l2⟩:=c8f hx hS (n:=n) (by omega)
 rw[Int.toNat_natCast];refine⟨hl,?_⟩;have hm:w9 x ⟨7,a,n,c⟩=_:=d3y hc;unfold W9 at hm;rw[show a6t (r9.mk x ⟨7,a,n,c⟩).x.Cells (r9.mk x ⟨7,a,n,c⟩).o.B=_ from l1,d4l] at hm;have hr:C7 (hO x) ⟨7,a,n,c⟩=_:=c29 (by omega) hc
 have hnm:a1y (hO x) ⟨7,a,n,c⟩=(a8s (hO x).Cells n).bind λv4=>some (v4.1,v4.2):=rfl;rw[l2,d4l] at hnm;have cl:=hx.sh.cl n hl;cases hI:x.Cells[n].Intact
 ·left;rw[if_pos (.inr hI)] at hm hnm;refine⟨rfl,by decide,?_,?_⟩
  ·rw[hm];dsimp only;rw[c11 (by decide),d4l,d4l]
   exact a7v (e:=9) (by decide)
  ·show C7 (hO x) ⟨7,a,n,c⟩=_;rw[hr,hnm,d4l,c6o (by decide)]
 ·right;have ht:=(cl.2.2.2.2 hI).1;have ht0:x.Cells[n].Target≠0:=λe=>b2T hx.sh.sr (e▸ht);rw[if_neg (by simp[ht0,hI])] at hm hnm
  refine⟨rfl,a6q hx hS (by omega) hc ha (.inr ht) ?_ hnm⟩
  rw[hm];dsimp only;rw[a9E hx hS ha (.inr ht)];rfl
theorem d9(hc:C8 9 a b c=0):(sd x b=0∧Er x ⟨9,a,b,c⟩ 2)∨(sd x b∈lv x.S∧(∀v,¬Has x.T (sd x b) v)∧Er x ⟨9,a,b,c⟩ 9) ∨
  (sd x b∈lv x.S∧∃v,Has x.T (sd x b) v∧Dn x ⟨9,a,b,c⟩ (H0 x a.toNat v) (ser x v)):=by
 obtain⟨ha,hb⟩:=d3r hc;have hT:=hx.sh.hr;have hm:w9 x ⟨9,a,b,c⟩=_:=d3A hc;unfold a0L at hm;rw[a57 hx.sh,d4l] at hm;have hr:C7 (hO x) ⟨9,a,b,c⟩=_:=c29 (by omega) hc
 have hnm:a1y (hO x) ⟨9,a,b,c⟩=(U6 (hO x) b).bind λv2=>if (v2.2 != 0) then some (0,v2.2) else (b1W (hO x).T v2.1).bind λv3=>some (v3.1,v3.2):=rfl
 rw[b02 hx.sh hb,d4l] at hnm;by_cases h0:sd x b=0
 ·refine .inl ⟨h0,by decide,?_,?_⟩
  ·rw[hm];unfold asd;rw[if_pos h0,if_pos (by simp),d4l,a7v (by decide)]
  ·show C7 (hO x) ⟨9,a,b,c⟩=_;rw[hr,hnm];unfold asd;rw[if_pos h0,if_pos (by simp),d4l,c6o (by decide)]
 ·have has:asd x b=(sd x b,0):=by unfold asd;rw[if_neg h0]
  have hl:=(b3C hx.sh b).resolve_left h0;rw[has,if_neg (by simp)] at hm hnm
  dsimp only at hm hnm;have g2:b1W (hO x).T (sd x b)=(M0 x.T (sd x b)).bind λv=>some (v.1,v.2):=by
   unfold b1W;rw[show (hO x).T=x.T.map M1 from rfl,c6t hT]
  unfold b2H at hm;rw[g2] at hnm;right;by_cases hv:∃v,Has x.T (sd x b) v
  ·obtain⟨v,hv⟩:=hv;rw[c2F hT hv] at hm hnm;refine .inr ⟨hl,v,hv,a6q hx hS (by omega) hc ha (.inr (hx.sh.pr _ _ hv).2) ?_ hnm⟩
   rw[hm,d4l,d4l];dsimp only;rw[a9E hx hS ha (.inr (hx.sh.pr _ _ hv).2)];rfl
  ·have hv':∀v,¬Has x.T (sd x b) v:=λv q=>hv ⟨v,q⟩;rw[c3Y hT hv'] at hm hnm;refine .inl ⟨hl,hv',by decide,?_,?_⟩
   ·rw[hm,d4l,d4l];dsimp only;rw[c11 (by decide),d4l,d4l]
    exact a7v (e:=9) (by decide)
   ·show C7 (hO x) ⟨9,a,b,c⟩=_;rw[hr,hnm,d4l,d4l,d4l];exact c6o (e:=9) (by decide)
end
end Go.Sh
