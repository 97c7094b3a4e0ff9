/-
 More of the theory.
-/
import Derived.Test.YtjpgbnlcefhaiaaGreatW24bT
set_option linter.unusedVariables false
set_option linter.unusedSimpArgs false
set_option linter.unusedSectionVars false
namespace Go.Sh
theorem a5x(x:Hp)(h:Int):(A9 x h).Roots=x.Roots∧(A9 x h).a8=x.a8∧(A9 x h).T=x.T∧(A9 x h).Q=x.Q:=by
 rw[b1K];exact⟨rfl,rfl,rfl,rfl⟩
theorem a3b{x:Hp}(hR:SR x.S)(h:Int):SR (A9 x h).S:=(E4 hR h λc=>B9).sr
section
variable{x:Hp}(hx:L5 x)(hS:∀k∈lv x.S,(ob x.S k).Strong≤9223372036854775807)
include hx hS
theorem b0q{h:Int}(hh:h=0∨h∈lv x.S):h≤9223372036854775807:=by
 rcases hh with q | q
 ·omega
 ·have:=F7 hx.sh.sr q;omega
theorem c1r(k:Int){h:Int}(hh:h≤9223372036854775807):a0j x k h=some (if k<0∨5<k then (x,6) else if h=0∨h∈lv x.S then (E3 x k.toNat h,0) else (x,3)):=by
 have hR:=hx.sh.sr;have r6:=hx.sh.r6;unfold a0j;by_cases hk:k<0∨5<k
 ·rw[if_pos hk,if_pos (by rw[r6];simp;omega)]
 ·rw[if_neg hk,if_neg (by rw[r6];simp;omega),a2g hR hh,d3s]
  by_cases hn:h=0∨h∈lv x.S
  ·rw[if_pos hn,decide_eq_true hn,if_neg (by simp)]
   obtain⟨n,rfl⟩:∃n:Nat,k=n:=⟨k.toNat,by omega⟩
   have hn6:n<6:=by omega
   have hnl:n<x.Roots.length:=by omega
   have old:x.Roots[n]≤9223372036854775807:=b0q hx hS (hx.sh.rt _ (List.getElem_mem hnl));have e1:=a5x x h;have hn2:n<(A9 x h).Roots.length:=by rw[e1.1];exact hnl
   rw[o5 hnl,d3s];unfold D6 N3 K1;rw[a5v hR hh hS,d3s];dsimp only;rw[K6 (by omega) (by rw[e1.1];omega),d3s,o5 hn2,d3s,d3s]
   have hrel:=a2m (x:=wR (A9 x h) (x.Roots.set n h)) (a3b hR h) old;rw[Int.toNat_natCast,e1.1,show B1 ⟨(A9 x h).S,x.Roots.set n h,(A9 x h).a8,(A9 x h).T,(A9 x h).Q⟩ x.Roots[n]=_ from hrel];unfold E3;rw[List.getD_eq_getElem?_getD,List.getElem?_eq_getElem hnl];rfl
  ·rw[if_neg hn,decide_eq_false hn,if_pos (by simp)]
theorem b90(k:Int){h:Int}(hh:h≤9223372036854775807):V3 (hO x) k h=some (if k<0∨5<k then (hO x,6) else if h=0∨h∈lv x.S then (hO (E3 x k.toNat h),0) else (hO x,3)):=by
 have hR:=hx.sh.sr;have r6:=hx.sh.r6;unfold V3;by_cases hk:k<0∨5<k
 ·rw[if_pos hk,if_pos (by simp;omega)]
 ·rw[if_neg hk,if_neg (by simp;omega),b0t hR hh,d3s]
  by_cases hn:h=0∨h∈lv x.S
  ·rw[if_pos hn,decide_eq_true hn,if_neg (by simp)]
   obtain⟨n,rfl⟩:∃n:Nat,k=n:=⟨k.toNat,by omega⟩
   have hnl:n<x.Roots.length:=by omega
   have hnl':n<(hO x).Roots.length:=hnl;have old:x.Roots[n]≤9223372036854775807:=b0q hx hS (hx.sh.rt _ (List.getElem_mem hnl));have e1:=a5x x h;have r6':(hO x).Roots.length=6:=r6;rw[o5 hnl',d3s,a7L hR hh hS,d3s,K6 (by omega) (by rw[r6'];omega),d3s,o5 hnl',d3s]
   have hrel:=a3G (x:=wR (A9 x h) (x.Roots.set n h)) (a3b hR h) old;rw[Int.toNat_natCast];rw[show D8 ⟨(hO (A9 x h)).S,(hO x).Roots.set n h,(hO (A9 x h)).a8,(hO (A9 x h)).T,(hO (A9 x h)).Q⟩ (hO x).Roots[n]=_ from hrel];unfold E3;rw[List.getD_eq_getElem?_getD,List.getElem?_eq_getElem hnl];rfl
  ·rw[if_neg hn,decide_eq_false hn,if_pos (by simp)]
omit hx hS in
theorem d0I {l:List Int} {n:Nat} (hn:n<l.length):b1V l n=some (l[n],0)∧b3K l n=some (l[n],0):=by
 constructor
 ·unfold b1V a6F;rw[d3s,if_neg (by simp;omega),o5 hn,d3s]
 ·unfold b3K;rw[if_neg (by simp;omega),o5 hn,d3s]
omit hx hS in
theorem c7K {l:List Int} {k:Int} (hk:¬(0≤k∧k<l.length)):b1V l k=some (0,5)∧b3K l k=some (0,5):=by
 constructor
 ·unfold b1V a6F;rw[d3s,if_pos (by simp;omega)]
 ·unfold b3K;rw[if_pos (by simp;omega)]
theorem b1Z(h k:Int)(hh:h≤9223372036854775807):(∃e,e≠0∧a0b x.S h k=some (0,e)∧a3C (sO x.S) h k=some (0,e)) ∨
  (h∈lv x.S∧∃n:Nat,k=n∧∃hn:n<(ob x.S h).Fields.length,a0b x.S h k=some ((ob x.S h).Fields[n],0)∧a3C (sO x.S) h k=some ((ob x.S h).Fields[n],0)):=by
 have hR:=hx.sh.sr;obtain⟨e,h1,h2⟩:=Q1 (r7.2 hR) hh;have hg:F0 (sO x.S) h=some (oo (ob x.S h),e):=by
  rw[a5f x.S (by have:=hR.len;omega) hh,h1]
  rfl
 unfold a0b a3C;rw[h1,d3s,hg,d3s];by_cases q:h∈lv x.S
 ·have:=h2.2 q;subst this;rw[if_neg (by simp),if_neg (by simp),show (oo (ob x.S h),(0:Int)).1.Fields=(ob x.S h).Fields from rfl]
  by_cases hk:0≤k∧k<(ob x.S h).Fields.length
  ·right;obtain⟨n,rfl⟩:∃n:Nat,k=n:=⟨k.toNat,by omega⟩
   have hn:n<(ob x.S h).Fields.length:=by omega
   refine⟨q,n,rfl,hn,?_,?_⟩
   ·rw[(d0I hn).1];rfl
   ·rw[(d0I hn).2];rfl
  ·left;refine⟨5,by decide,?_,?_⟩
   ·rw[(c7K hk).1];rfl
   ·rw[(c7K hk).2];rfl
 ·left;have he:(e != 0)=true:=by simpa using λc=>q (h2.1 c)
  refine⟨e,by simpa using he,?_,?_⟩
  ·simp only[he,if_true]
  ·simp only[he,if_true]
theorem c4Q{s:a7}(hR:SR s){h:Int}(hh:h∈lv s){n:Nat}(hn:n<(ob s h).Fields.length)(v:Int) :
  a8B s h n v=some (seO s h (flg (ob s h) ((ob s h).Fields.set n v)),0)∧b6F (sO s) h n v=some (sO (seO s h (flg (ob s h) ((ob s h).Fields.set n v))),0):=by
 have ok:=I2 hR hh;have hf:=ok.fl;have hle:=F7 hR hh;have ho:OkO s (flg (ob s h) ((ob s h).Fields.set n v)):=⟨ok.s1,ok.s2,ok.st,ok.wk,ok.p1,ok.p2,by simpa using hf⟩
 have h1:=b0O (o:=flg (ob s h) ((ob s h).Fields.set n v)) hR hh rfl ho;have h2:=b0P (o:=flg (ob s h) ((ob s h).Fields.set n v)) hR hh rfl ho;constructor
 ·unfold a8B;rw[b3w (r7.2 hR) hh,d3s,if_neg (by simp)]
  unfold b4f a6F;dsimp only;rw[d3s,if_neg (by simp;omega),a7v (by omega) (by omega),d3s]
  have e:cpy (List.replicate (ob s h).Fields.length (0:Int)) (ob s h).Fields=some (ob s h).Fields:=by
   unfold cpy;rw[if_pos (by simp)]
   simp
  rw[e,d3s,o5 hn,d3s,d3s,if_neg (by simp),Int.toNat_natCast]
  dsimp only;rw[show I4 s h ⟨(ob s h).Serial,(ob s h).Strong,(ob s h).Weak,(ob s h).Prog,(ob s h).Started,(ob s h).Fields.set n v⟩=_ from h1];rfl
 ·unfold b6F;rw[a5f s (by have:=hR.len;omega) (by omega),b3w (r7.2 hR) hh,Option.map_some,d3s,if_neg (by simp)]
  unfold b8l;have hn':n<(oo (ob s h)).Fields.length:=hn;have hf':(oo (ob s h)).Fields.length≤4:=hf;dsimp only;rw[if_neg (by simp;omega),K6 (by omega) (by omega),d3s,o5 hn',d3s,d3s,if_neg (by simp),Int.toNat_natCast]
  dsimp only;rw[show M4 (sO s) h ⟨(oo (ob s h)).Serial,(oo (ob s h)).Strong,(oo (ob s h)).Weak,(oo (ob s h)).Prog,(oo (ob s h)).Started,(oo (ob s h)).Fields.set n v⟩=_ from h2];rfl
theorem c3I(h k v:Int)(hh:h≤9223372036854775807)(hv:v≤9223372036854775807) :
  (∃e,e≠0∧a2e x h k v=some (x,e)∧a5r (hO x) h k v=some (hO x,e)) ∨
  (h∈lv x.S∧(v=0∨v∈lv x.S)∧∃n:Nat,k=n∧n<(ob x.S h).Fields.length∧a2e x h k v=some (a00 x h n v,0)∧a5r (hO x) h k v=some (hO (a00 x h n v),0)):=by
 have hR:=hx.sh.sr;unfold a2e a5r;rcases b1Z hx hS h k hh with ⟨e,he,f1,f2⟩ | ⟨hl,n,rfl,hn,f1,f2⟩
 ·left;have he':(e != 0)=true:=by simpa using he
  refine⟨e,he,?_,?_⟩;·rw[f1,d3s,if_pos he']
  ·rw[show (hO x).S=sO x.S from rfl,f2,d3s,if_pos he']
 ·rw[f1,d3s,if_neg (by simp),show (hO x).S=sO x.S from rfl,f2,d3s,if_neg (by simp),a2g hR hv,d3s,b0t hR hv,d3s]
  by_cases hn2:v=0∨v∈lv x.S
  ·right;refine⟨hl,hn2,n,rfl,hn,?_⟩;rw[decide_eq_true hn2,if_neg (by simp),if_neg (by simp)]
   have kin:=E4 hR v (f:=S0) λc=>B9;have hR1:SR (A9 x v).S:=kin.sr;have hl1:h∈lv (A9 x v).S:=by rw[show lv (A9 x v).S=lv x.S from kin.lv];exact hl
   have hof:(ob (A9 x v).S h).Fields=(ob x.S h).Fields:=by
    obtain⟨m,e⟩:=kin.ob h hh;show (ob (stO x v S0).S h).Fields=_;rw[e]
   have hn1:n<(ob (A9 x v).S h).Fields.length:=by rw[hof];exact hn
   have old:(ob x.S h).Fields[n]≤9223372036854775807:=b0q hx hS (hx.sh.fl h hl _ (List.getElem_mem hn));have ok:=I2 hR1 hl1;have sr2:SR (seO (A9 x v).S h (flg (ob (A9 x v).S h) ((ob (A9 x v).S h).Fields.set n v))):=a0C (o:=flg (ob (A9 x v).S h) ((ob (A9 x v).S h).Fields.set n v)) hR1 hl1 rfl ⟨ok.s1,ok.s2,ok.st,ok.wk,ok.p1,ok.p2,by simpa using ok.fl⟩
   obtain⟨p1,p2⟩:=c4Q hx hS hR1 hl1 hn1 v;have hd:(ob x.S h).Fields.getD n 0=(ob x.S h).Fields[n]:=by
    rw[List.getD_eq_getElem?_getD,List.getElem?_eq_getElem hn];rfl
   constructor
   ·unfold G5 a0y;rw[a5v hR hv hS,d3s];dsimp only;rw[p1,d3s,d3s];have hrel:=a2m (x:=wS (A9 x v) (seO (A9 x v).S h (flg (ob (A9 x v).S h) ((ob (A9 x v).S h).Fields.set n v)))) sr2 old;rw[show B1 ⟨seO (A9 x v).S h (flg (ob (A9 x v).S h) ((ob (A9 x v).S h).Fields.set n v)),(A9 x v).Roots,(A9 x v).a8,(A9 x v).T,(A9 x v).Q⟩ (ob x.S h).Fields[n]=_ from hrel];unfold a00;rw[hd,hof];rfl
   ·rw[a7L hR hv hS,d3s,show (hO (A9 x v)).S=sO (A9 x v).S from rfl,p2,d3s];have hrel:=a3G (x:=wS (A9 x v) (seO (A9 x v).S h (flg (ob (A9 x v).S h) ((ob (A9 x v).S h).Fields.set n v)))) sr2 old;dsimp only;rw[show D8 ⟨sO (seO (A9 x v).S h (flg (ob (A9 x v).S h) ((ob (A9 x v).S h).Fields.set n v))),(hO (A9 x v)).Roots,(hO (A9 x v)).a8,(hO (A9 x v)).T,(hO (A9 x v)).Q⟩ (ob x.S h).Fields[n]=_ from hrel];unfold a00;rw[hd,hof];rfl
  ·left;refine⟨3,by decide,?_,?_⟩
   ·rw[decide_eq_false hn2,if_pos (by simp)]
   ·rw[decide_eq_false hn2,if_pos (by simp)]
theorem c61(k v:Int)(hk:k≤9223372036854775807)(hv:v≤9223372036854775807) :
  (∃e,e≠0∧a3y x k v=some (x,e)∧a7D (hO x) k v=some (hO x,e)) ∨
  (k∈lv x.S∧(v=0∨v∈lv x.S)∧∃r,R6 x.T k v=some r∧r.2.2=0∧a3y x k v=some (a5o x v r.1 r.2.1,0)∧a7D (hO x) k v=some (hO (a5o x v r.1 r.2.1),0)):=by
 have hR:=hx.sh.sr;unfold a3y a7D;by_cases k0:k=0
 ·left;subst k0;exact⟨2,by decide,by simp,by simp⟩
 ·rw[if_neg (by simpa using k0),if_neg (by simpa using k0),a2g hR hk,d3s,b2E hR hk,d3s,a2g hR hv,b0t hR hv]
  have hkk:(k=0∨k∈lv x.S)↔k∈lv x.S:=by simp[k0]
  by_cases hl:k∈lv x.S∧(v=0∨v∈lv x.S)
  ·obtain⟨hl,hn⟩:=hl;rw[decide_eq_true (hkk.2 hl),decide_eq_true hl,decide_eq_true hn];simp only[Bool.not_true,beq_self_eq_true,a0L,d3s,Bool.or_self,Bool.false_eq_true,if_false];obtain⟨r,r1,r2,r3,r4,r5⟩:=c2u hx.sh.hr k v;rw[r1,d3s,show (hO x).T=x.T.map J5 from rfl,r4,d3s];by_cases h0:r.2.2=0
   ·right;refine⟨hl,hn,r,rfl,h0,?_⟩;have e1:(r.2.2 != 0)=false:=by simpa using h0
    have old:r.2.1≤9223372036854775807:=by
     rcases r5 with ⟨_,rfl⟩ | ⟨_,_,⟨i,hi,rfl⟩ | ⟨_,rfl⟩⟩ | ⟨_,_,⟨i,hi,rfl⟩ | ⟨d,_,_,_,_,rfl⟩ | ⟨_,_,rfl⟩⟩;·simp
     ·exact b0q hx hS (.inr (hx.sh.pr k _ ⟨i,hi,rfl⟩).2)
     ·simp
     ·exact b0q hx hS (.inr (hx.sh.pr k _ ⟨i,hi,rfl⟩).2)
     ·simp
     ·simp
    constructor
    ·rw[e1];simp only[Bool.false_eq_true,if_false];unfold H6 U4;rw[a5v hR hv hS,d3s,d3s];dsimp only;have hrel:=a2m (x:=wT (A9 x v) r.1) (a3b hR v) old;rw[show B1 ⟨(A9 x v).S,(A9 x v).Roots,(A9 x v).a8,r.1,(A9 x v).Q⟩ r.2.1=_ from hrel];rfl
    ·dsimp only;rw[e1];simp only[Bool.false_eq_true,if_false];rw[a7L hR hv hS,d3s];have hrel:=a3G (x:=wT (A9 x v) r.1) (a3b hR v) old;rw[show D8 ⟨(hO (A9 x v)).S,(hO (A9 x v)).Roots,(hO (A9 x v)).a8,r.1.map J5,(hO (A9 x v)).Q⟩ r.2.1=_ from hrel];rfl
   ·left;have e1:(r.2.2 != 0)=true:=by simpa using h0
    refine⟨r.2.2,h0,by rw[if_pos e1],by dsimp only;rw[if_pos e1]⟩
  ·left;refine⟨3,by decide,?_,?_⟩
   ·by_cases hl2:k∈lv x.S
    ·have:¬(v=0∨v∈lv x.S):=λq=>hl ⟨hl2,q⟩;rw[decide_eq_true (hkk.2 hl2),decide_eq_false this];rfl
    ·rw[decide_eq_false λq=>hl2 (hkk.1 q)];rfl
   ·by_cases hl2:k∈lv x.S
    ·have:¬(v=0∨v∈lv x.S):=λq=>hl ⟨hl2,q⟩;rw[decide_eq_true hl2,decide_eq_false this];rfl
    ·rw[decide_eq_false hl2];rfl
end
theorem c0N{s:a7}(hR:SR s){h:Int}{i:Nat}(q:V6 s h i):L3 s.S h=some ((gvA s i).S,0):=by
 have hi:=q.1;have hc:=hR.cell i hi;have l9:=hR.l9;unfold L3 gvA;rw[a5Q hR q,d3s,if_neg (by simp),b7S hi,d3s]
 by_cases g:(ce s i).Gen=s.S.Last
 ·rw[if_pos (by simpa using g),if_pos g,a5I rfl hi hR.len]
  rfl
 ·rw[if_neg (by simpa using g),if_neg g,a5I rfl hi hR.len,B4 (by omega) (by omega)]
  rfl
theorem c7W{s:a7}{i:Nat}(hi:i<s.S.a8.length):ix (sO s).a8 (i:Int)=some (cO (ce s i)):=by
 rw[c1u,b7S hi];rfl
theorem c1v(s:a7)(i:Nat)(c:b7):sO (F2 s i c)=⟨(sO s).a8.set i (cO c),s.S.Last,s.Serial⟩:=by
 unfold sO F2;rw[List.map_set]
theorem b4e(t:o7)(p:E6)(hl:t.a8.length≤1000)(hp:p.a8.length=t.a8.length):a07 t p=some ⟨(List.range t.a8.length).map λk=>⟨(p.a8.getD k ⟨0,0,0⟩).State,(p.a8.getD k ⟨0,0,0⟩).Gen,(t.a8.getD k ⟨0,0,oo z0⟩).Val⟩,t.Last,t.Serial⟩:=by
 unfold a07;simp only[jn];rw[c36 (b:=80) t.a8.length (λk=>⟨(p.a8.getD k ⟨0,0,0⟩).State,(p.a8.getD k ⟨0,0,0⟩).Gen,(t.a8.getD k ⟨0,0,oo z0⟩).Val⟩) (by omega) (by omega) (λk acc hk=>?_) (λacc=>by simp)]
 ·rfl
 ·have hk2:k<p.a8.length:=by omega
  simp only[Int.ofNat_lt,hk,decide_true,if_true,o5 hk,o5 hk2,d3s];rw[List.getD_eq_getElem?_getD,List.getElem?_eq_getElem hk2,List.getD_eq_getElem?_getD,List.getElem?_eq_getElem hk];rfl
theorem c3Q{s:a7}(hR:SR s){h:Int}{i:Nat}(q:V6 s h i):b0A (sO s) h=some (sO (gvA s i)):=by
 have hi:=q.1;have hc:=hR.cell i hi;have l9:=hR.l9;have hlen:=hR.len;have hr:=q.rng hR;have hH:Hnd h:=((a9t hR).2 q).2.1;have hsl:(h-1) % 32=i:=((a9t hR).2 q).2.2.1;have J5:i<(pl (sO s)).a8.length:=by rw[a06,A7];exact hi
 have key:∀st g,(st:Int)=st→a07 (sO s) ⟨(pl (sO s)).a8.set i ⟨st,g,0⟩,(pl (sO s)).Last⟩=some ⟨(sO s).a8.set i ⟨st,g,oo (ce s i).Val⟩,s.S.Last,s.Serial⟩:=λst g _=>by
  rw[b4e _ _ (by rw[A7];omega) (by simp[a06])]
  congr 1;congr 1;refine List.ext_getElem (by simp) λk h1 h2=>?_
  have hk:k<s.S.a8.length:=by simpa[A7] using h1
  have hk2:k<(sO s).a8.length:=by rw[A7];exact hk
  have hk3:k<(pl (sO s)).a8.length:=by rw[a06];exact hk2
  simp only[List.getElem_map,List.getElem_range,List.getElem_set];have e1:(sO s).a8.getD k ⟨0,0,oo z0⟩=cO (ce s k):=by
   rw[List.getD_eq_getElem?_getD,List.getElem?_eq_getElem hk2,D3 hk];simp[sO]
  have e2:((pl (sO s)).a8.set i ⟨st,g,0⟩).getD k ⟨0,0,0⟩=if k=i then ⟨st,g,0⟩ else plc k (cO (ce s k)):=by
   rw[a5g J5];split;·rfl
   ·rw[List.getD_eq_getElem?_getD,List.getElem?_eq_getElem hk3,D3 hk];simp[pl,sO]
  rw[e1,e2];by_cases e:k=i
  ·subst e;rw[if_pos rfl,if_pos rfl];rfl
  ·rw[if_neg e,if_neg (Ne.symm e)];rw[D3 hk];simp[sO,plc,cO]
 have fin:∀st g,(a2Q ⟨(sO s).a8.set i ⟨st,g,oo (ce s i).Val⟩,s.S.Last,s.Serial⟩ (i:Int) ⟨0,0,0,0,false,[]⟩)=some (sO (F2 s i ⟨st,g,z0⟩)):=λst g=>by
  unfold a2Q;have hi2:i<((sO s).a8.set i ⟨st,g,oo (ce s i).Val⟩).length:=by simp[A7];exact hi
  rw[K6 (by omega) (by simp[A7];omega),d3s,o5 hi2,d3s,c1v]
  simp[cO,oo,List.set_set]
 unfold b0A b8j gvA;rw[a3p _ (by rw[A7];omega),d3s,b1g s (by omega),a5Q hR q,d3s,if_neg (by simp)]
 rw[b8c (by rw[A7];exact hi),d3s]
 have hgen:(plc i ((sO s).a8[i]'(by rw[A7];exact hi))).Gen=(ce s i).Gen:=by
  rw[D3 hi];simp[plc,sO,cO]
 have hlast:(pl (sO s)).Last=s.S.Last:=rfl;have w3:∀c:L2,a0O (pl (sO s)) (i:Int) c=some ⟨(pl (sO s)).a8.set i c,(pl (sO s)).Last⟩:=λc=>by
  unfold a0O;rw[K6 (by omega) (by rw[a06,A7];omega),d3s,o5 J5,d3s,Int.toNat_natCast]
 rw[hgen,hlast,a7y,if_pos hH,hsl];by_cases g:(ce s i).Gen=s.S.Last
 ·rw[if_pos (by simp[g]),if_pos g,w3,d3s,d3s,if_neg (by simp),key _ _ rfl,d3s,d3s,fin]
  rfl
 ·rw[if_neg (by simp;omega),if_neg g,w3,d3s,d3s,if_neg (by simp),key _ _ rfl,d3s,d3s,B4 (by omega) (by omega),fin]
  rfl
section
variable{x:Hp}(hR:SR x.S)
include hR
theorem b5h{h d:Int}(hh:h≤9223372036854775807)(hw:V6 x.S h (B5 h) → -1000≤(ce x.S (B5 h)).Val.Weak+d∧(ce x.S (B5 h)).Val.Weak+d≤1000):a1i x h d=some (mkd x h d):=by
 unfold a1i mkd;by_cases q:V6 x.S h (B5 h)
 ·have:=hw q;rw[if_pos q,a5Q hR q,d3s];simp only[beq_self_eq_true,if_true];rw[b7S q.1,d3s,B4 (by omega) (by omega),b6Y hR q,d3s]
  rfl
 ·have hno:∀i,¬V6 x.S h i:=λi hi=>q (by rw[hi.B5 hR];exact hi)
  rw[if_neg q,a9j hR hh hno,d3s];have:((if h=0 then 2 else 3:Int)==0)=false:=by simpa using a2G h
  simp only[this,Bool.false_eq_true,if_false]
theorem b8K{h:Int}(hh:h≤9223372036854775807)(hw:V6 x.S h (B5 h)→1≤(ce x.S (B5 h)).Val.Weak∧(ce x.S (B5 h)).Val.Weak≤1000):a2w x h=some (a7X x h):=by
 unfold a2w;rw[b5h hR hh (λq=>by have:=hw q;omega),d3s]
 unfold mkd a7X;by_cases q:V6 x.S h (B5 h)
 ·have hw:=hw q;rw[if_pos q,if_pos q];have sr1:=b3y hR q.1 q.2.1 (d:=-1) (by omega)
  have q1:V6 (mkA x.S (B5 h) (-1)) h (B5 h):=(b2x q.1 _).2 q;dsimp only;rw[a5Q sr1 q1,d3s,if_neg (by simp),b7S q1.1,d3s,a27 hR q.1 q.2.1,if_pos rfl]
  dsimp only;by_cases c:(ce x.S (B5 h)).State=2∧(ce x.S (B5 h)).Val.Weak=1
  ·rw[if_pos c,if_pos (by simp[c.1,c.2]),c0N sr1 q1,d3s]
   rfl
  ·rw[if_neg c,if_neg (by simp only[Bool.and_eq_true,beq_iff_eq];omega)]
 ·have hno:∀i,¬V6 x.S h i:=λi hi=>q (by rw[hi.B5 hR];exact hi)
  rw[if_neg q,if_neg q,a9j hR hh hno,d3s];have:((if h=0 then 2 else 3:Int) != 0)=true:=by simpa using a2G h
  simp only[this,if_true]
theorem c2C{h:Int}(hh:h≤9223372036854775807)(hw:V6 x.S h (B5 h)→1≤(ce x.S (B5 h)).Val.Weak∧(ce x.S (B5 h)).Val.Weak≤1000):a1j (hO x) h=some (hO (a7X x h)):=by
 have hl:=hR.len;unfold a1j;rw[show (hO x).S=sO x.S from rfl,a3p _ (by rw[A7];omega),d3s,b1g x.S hh]
 unfold a7X;by_cases q:V6 x.S h (B5 h)
 ·have hw:=hw q;have hr:=q.rng hR;rw[if_pos q,a5Q hR q,d3s,if_neg (by simp),c7W q.1,d3s]
  have sr1:=b3y hR q.1 q.2.1 (d:=-1) (by omega)
  have q1:V6 (mkA x.S (B5 h) (-1)) h (B5 h):=(b2x q.1 _).2 q;have hs:M4 (sO x.S) h (oo (wkg (ce x.S (B5 h)).Val ((ce x.S (B5 h)).Val.Weak + -1)))=some (sO (mkA x.S (B5 h) (-1)),0):=by
   rw[c5i x.S hl hh,b6Y hR q];rfl
  have hw64:p7 ((cO (ce x.S (B5 h))).Val.Weak-1)=(ce x.S (B5 h)).Val.Weak + -1:=by
   show p7 ((ce x.S (B5 h)).Val.Weak-1)=_;rw[B4 (by omega) (by omega)]
   omega
  rw[hw64];rw[show M4 (sO x.S) h ⟨(cO (ce x.S (B5 h))).Val.Serial,(cO (ce x.S (B5 h))).Val.Strong,(ce x.S (B5 h)).Val.Weak + -1,(cO (ce x.S (B5 h))).Val.Prog,(cO (ce x.S (B5 h))).Val.Started,(cO (ce x.S (B5 h))).Val.Fields⟩=_ from hs,d3s,c7W q1.1,d3s,a27 hR q.1 q.2.1,if_pos rfl];by_cases c:(ce x.S (B5 h)).State=2∧(ce x.S (B5 h)).Val.Weak=1
  ·rw[if_pos c,if_pos (by simp[cO,c.1,c.2]),c3Q sr1 q1,d3s]
   rfl
  ·rw[if_neg c,if_neg (by simp only[cO,Bool.and_eq_true,beq_iff_eq,decide_eq_true_eq];omega)]
   rfl
 ·have hno:∀i,¬V6 x.S h i:=λi hi=>q (by rw[hi.B5 hR];exact hi)
  rw[if_neg q,a9j hR hh hno,d3s];have:((if h=0 then 2 else 3:Int) != 0)=true:=by simpa using a2G h
  simp only[this,if_true]
end
theorem c5v{l:List e6}(hl:l.length≤1000){n:Nat}(hn:n<l.length)(h call:Int):b00 l n h call=some (l.set n (wcl h call),l[n].Target,0):=by
 unfold b00 a5H a0c;simp only[d3s];rw[if_neg (by simp;omega),a7v (by omega) (by omega),d3s]
 have e:cpy (List.replicate l.length (⟨0,false,0⟩:e6)) l=some l:=by
  unfold cpy;rw[if_pos (by simp)]
  simp
 rw[e,d3s,d3s,o5 hn,d3s,d3s,Int.toNat_natCast]
theorem c0i{l:List e6}(hl:l.length≤1000){n:Nat}(hn:n<l.length)(h call:Int):b6G (l.map wcR) n h call=some ((l.set n (wcl h call)).map wcR,l[n].Target,0):=by
 unfold b6G;have hn':n<(l.map wcR).length:=by simpa using hn
 rw[if_neg (by simp;omega),K6 (by omega) (by simp;omega),d3s,o5 hn',d3s,d3s,Int.toNat_natCast,List.map_set]
 simp[wcR]
theorem c9u(l:List e6)(h:Int):nmg l h≤l.length:=List.countP_le_length
theorem c7D{x:Hp}(hx:L5 x)(k h call:Int)(hh:h≤9223372036854775807)(hc : -1≤call∧call≤5) :
  (∃e,e≠0∧a0k x k h call=some (x,e)∧a3Z (hO x) k h call=some (hO x,e)) ∨
  ((h=0∨h∈lv x.S)∧∃n:Nat,k=n∧n<6∧wts x.Q n=false∧a0k x k h call=some (a15 x n h call,0)∧a3Z (hO x) k h call=some (hO (a15 x n h call),0)):=by
 have hR:=hx.sh.sr;have c6:=hx.sh.c6;have q30:=hx.sh.q30;unfold a0k a3Z;by_cases hk:k<0∨5<k
 ·left;have e1:((decide (k<0))||(decide (k≥(x.a8.length:Int))))=true:=by rw[c6];simp;omega
  have e2:((decide (k<0))||(decide (k > 5)))=true:=by simp;omega
  refine⟨7,by decide,?_,?_⟩
  ·rw[e1];rfl
  ·rw[e2];rfl
 ·obtain⟨n,rfl⟩:∃n:Nat,k=n:=⟨k.toNat,by omega⟩
  have hn6:n<6:=by omega
  have e1:((decide ((n:Int)<0))||(decide ((n:Int)≥(x.a8.length:Int))))=false:=by rw[c6];simp;omega
  have e2:((decide ((n:Int)<0))||(decide ((n:Int) > 5)))=false:=by simp;omega
  rw[e1,e2];simp only[beq_self_eq_true,a0L,Bool.false_or];have hwq:a4c x.Q n=some (wts x.Q n):=c7s (by omega)
  have hwr:a8o (hO x).Q n=some (wts x.Q n):=c7b (by omega)
  rw[hwq,d3s,hwr,d3s,a2g hR hh,d3s,b0t hR hh,d3s];by_cases hw:wts x.Q n=true
  ·left;rw[if_pos hw,if_pos hw];exact⟨7,by decide,rfl,rfl⟩
  ·have hw:wts x.Q n=false:=by simpa using hw
   rw[hw,if_neg (show ¬(false=true) by decide),if_neg (show ¬(false=true) by decide)]
   by_cases hl:h=0∨h∈lv x.S
   ·right;refine⟨hl,n,rfl,hn6,hw,?_⟩;have hnl:n<x.a8.length:=by omega
    rw[decide_eq_true hl,if_neg (by simp),if_neg (by simp),c5v (by omega) hnl,d3s,show (hO x).a8=x.a8.map wcR from rfl,c0i (by omega) hnl,d3s]
    have htg:tgt x n=x.a8[n].Target:=by
     unfold tgt;rw[List.getD_eq_getElem?_getD,List.getElem?_eq_getElem hnl];rfl
    have wkb:∀i,i<x.S.S.a8.length→Th (ce x.S i)→0≤(ce x.S i).Val.Weak∧(ce x.S i).Val.Weak≤6:=λi hi ht=>by
     have:=(hx.wk i hi ht).1;have:=c9u x.a8 (1+(i:Int)+32*(ce x.S i).Gen);omega
    have mk1:∃s2,mkd (wC x (x.a8.set n (wcl h call))) h 1=wS (wC x (x.a8.set n (wcl h call))) s2∧SR s2∧(∀k i,V6 s2 k i↔V6 x.S k i)∧(∀i,i<x.S.S.a8.length→Th (ce x.S i)→(ce x.S i).Val.Weak≤(ce s2 i).Val.Weak∧(ce s2 i).Val.Weak≤(ce x.S i).Val.Weak+1) ∧
      (h≠0→F0 (sO x.S) h=some (oo (ce x.S (B5 h)).Val,0)∧M4 (sO x.S) h (oo (wkg (ce x.S (B5 h)).Val ((ce x.S (B5 h)).Val.Weak+1)))=some (sO s2,0))∧(h=0→s2=x.S):=by
     unfold mkd;by_cases h0:h=0
     ·have hno:¬V6 x.S h (B5 h):=λq=>by have:=q.rng hR;omega
      rw[if_neg hno];exact⟨x.S,rfl,hR,λ_ _=>Iff.rfl,λi _ _=>by omega,λq=>absurd h0 q,λ_=>rfl⟩
     ·have hll:=hl.resolve_left h0;have hp:=x6 hR hll;have hb:=wkb _ hp.1 (.inl hp.2.1);rw[if_pos hp.d];have kn:=a6b hR hp.1 (.inl hp.2.1) (d:=1) (by omega)
      refine⟨_,rfl,kn.sr,kn.ad,λi hi ht=>?_,λ_=>⟨?_,?_⟩,λq=>absurd q h0⟩
      ·rw[a27 hR hp.1 (.inl hp.2.1)];split;·rename_i e;subst e;dsimp only;omega
       ·omega
      ·rw[a5f x.S (by have:=hR.len;omega) hh,c8J hR hp]
       rfl
      ·rw[c5i x.S hR.len hh,b6Y hR hp.d];rfl
    obtain⟨s2,m1,m2,m3,m4,m5,m6⟩:=mk1;have hold:tgt x n≤9223372036854775807:=by
     by_cases q:tgt x n=0
     ·omega
     ·obtain⟨p,hp⟩:=(hx.sh.cl n hnl).2.2.2.1 (by rw[←htg];exact q)
      have:=hp.rng hR;rw[htg];omega
    have hun:V6 s2 (tgt x n) (B5 (tgt x n))→1≤(ce s2 (B5 (tgt x n))).Val.Weak∧(ce s2 (B5 (tgt x n))).Val.Weak≤1000:=λq=>by
     have q':=(m3 _ _).1 q;have r:=q'.rng hR;have:=(hx.wk _ q'.1 q'.2.1).1;have hp:0<nmg x.a8 x.a8[n].Target:=b0v hnl (by rw[←htg];omega)
     rw[←htg,q'.2.2] at hp;have:=m4 _ q'.1 q'.2.1;have:=wkb _ q'.1 q'.2.1;omega
    have u1:=b8K (x:=wS (wC x (x.a8.set n (wcl h call))) s2) m2 hold hun;have u2:=c2C (x:=wS (wC x (x.a8.set n (wcl h call))) s2) m2 hold hun;have hwb:V6 x.S h (B5 h) → -1000≤(ce x.S (B5 h)).Val.Weak+1∧(ce x.S (B5 h)).Val.Weak+1≤1000:=λq=>by
     have:=wkb _ q.1 q.2.1;omega
    have mm:=b5h (x:=wC x (x.a8.set n (wcl h call))) (d:=1) hR hh hwb;constructor
    ·dsimp only;rw[show a1i ⟨x.S,x.Roots,x.a8.set n (wcl h call),x.T,x.Q⟩ h 1=_ from mm,d3s,m1,←htg,u1,d3s];unfold a15;rw[m1]
    ·unfold a15;rw[m1];dsimp only;by_cases h0:h=0
     ·rw[if_neg (by simpa using h0),←htg]
      rw[m6 h0] at u2 ⊢;rw[show a1j ⟨(hO x).S,(hO x).Roots,(x.a8.set n (wcl h call)).map wcR,(hO x).T,(hO x).Q⟩ (tgt x n)=_ from u2,d3s]
     ·obtain⟨g1,g2⟩:=m5 h0;have hp:=x6 hR (hl.resolve_left h0);have hb:=wkb _ hp.1 (.inl hp.2.1);rw[if_pos (by simpa using h0),show (hO x).S=sO x.S from rfl,g1,d3s]
      have e:p7 ((oo (ce x.S (B5 h)).Val).Weak+1)=(ce x.S (B5 h)).Val.Weak+1:=by
       show p7 ((ce x.S (B5 h)).Val.Weak+1)=_;rw[B4 (by omega) (by omega)]
      dsimp only;rw[e];rw[show M4 (sO x.S) h ⟨(oo (ce x.S (B5 h)).Val).Serial,(oo (ce x.S (B5 h)).Val).Strong,(ce x.S (B5 h)).Val.Weak+1,(oo (ce x.S (B5 h)).Val).Prog,(oo (ce x.S (B5 h)).Val).Started,(oo (ce x.S (B5 h)).Val).Fields⟩=_ from g2,d3s,←htg];dsimp only;rw[show a1j ⟨sO s2,(hO x).Roots,(x.a8.set n (wcl h call)).map wcR,(hO x).T,(hO x).Q⟩ (tgt x n)=_ from u2,d3s]
   ·left;rw[decide_eq_false hl];refine⟨3,by decide,?_,?_⟩ <;> rw[if_pos (by rfl)]
end Go.Sh
namespace Go.Sh
section
variable{x:Hp}(hx:L5 x)(hS:∀k∈lv x.S,(ob x.S k).Strong≤9223372036854775807)
include hx hS
end
end Go.Sh
namespace Go.Sh
theorem c0L{α:Type}{l:List α}{i:Nat}(h:i<l.length)(d:α):l.getD i d=l[i]:=by
 rw[List.getD_eq_getElem?_getD,List.getElem?_eq_getElem h];rfl
def TkS(a b:k9):Prop:=a.Kind=b.Kind∧a.At=b.At
instance(a b:k9):Decidable (TkS a b):=by unfold TkS;infer_instance
section
variable{x:Hp}(hR:SR x.S)
include hR
omit hR in
theorem c3E:c7I x.S x.T (otr x)↔a1c x []:=by
 constructor
 ·intro h k hk hlt;have:=h k hk hlt;unfold rst inr at this;rw[if_pos hk] at this;rw[O3];unfold nms;omega
 ·intro h k hk hlt;have:=h k hk hlt;rw[O3] at this;unfold nms at this;unfold rst inr;rw[if_pos hk];omega
end
end Go.Sh
namespace Go.Sh
section
variable{x:Hp}(hx:L5 x)(hB:HB x)
include hx hB
end
end Go.Sh
namespace Go.Sh
def SL(x:Hp):Prop:=∀k∈lv x.S,(ob x.S k).Strong≤9223372036854775807
theorem SB.sl{x:Hp}(hR:SR x.S)(h:SB x.S):SL x:=λk hk=>c2A hR h k hk
theorem c7U{x:Hp}(hx:L5 x)(hS:SL x):HB x:=by
 have hR:=hx.sh.sr;have bd:∀v,v=0∨v∈lv x.S→v≤9223372036854775807:=λv q=>by
  rcases q with q | q
  ·omega
  ·have:=F7 hR q;omega
 refine⟨d1F.2 λi hi=>?_,d0W.2 λi hi v hv=>?_,λv hv=>bd v (hx.sh.rt v hv),λc hc=>?_,λp hp=>?_,λt ht=>?_⟩
 ·by_cases t:Th (ce x.S i)
  ·rcases t with t | t
   ·have q:At x.S (1+(i:Int)+32*(ce x.S i).Gen) i:=⟨hi,t,rfl⟩;have:=hS _ ((a3g hR).2 ⟨i,q⟩);rwa [N2 hR q] at this
   ·have:=((hx.wk i hi (.inr t)).2 t).2.2;omega
  ·have:=(hR.no i hi t).2.1;simp only[oo] at this;omega
 ·by_cases t:Th (ce x.S i)
  ·rcases t with t | t
   ·have q:At x.S (1+(i:Int)+32*(ce x.S i).Gen) i:=⟨hi,t,rfl⟩;have hm:=(a3g hR).2 ⟨i,q⟩;exact bd v (hx.sh.fl _ hm v (by rw[N2 hR q];exact hv))
   ·rw[((hx.wk i hi (.inr t)).2 t).2.1] at hv;cases hv
  ·have:=(hR.no i hi t).2.2.2.2.2;simp only[oo] at this;rw[List.eq_nil_of_length_eq_zero this] at hv;cases hv
 ·obtain⟨i,hi,rfl⟩:=List.getElem_of_mem hc;by_cases e:x.a8[i].Target=0
  ·omega
  ·obtain⟨p,hp⟩:=(hx.sh.cl i hi).2.2.2.1 e;have:=hp.rng hR;omega
 ·obtain⟨i,hi,rfl⟩:=List.getElem_of_mem hp;have e:pt x.T i=x.T[i]:=by
   unfold pt;rw[List.getD_eq_getElem?_getD,List.getElem?_eq_getElem hi];rfl
  by_cases s1:(pt x.T i).State=1
  ·obtain⟨a,b⟩:=hx.sh.pr (pt x.T i).Key (pt x.T i).Val ⟨i,⟨hi,s1,rfl⟩,rfl⟩;rw[e] at a b;exact⟨bd _ (.inr a),bd _ (.inr b)⟩
  ·obtain⟨a,b⟩:=(hx.sh.hr.st i hi).2 s1;rw[e] at a b;omega
 ·obtain⟨_,_,q | q⟩:=hx.sh.tk t ht;·exact bd _ (.inr q.2.1)
  ·omega
theorem c6v(c:Int):S0 c≤12:=by unfold S0;split <;> (try split) <;> omega
theorem c6h{c:Int}(h:c≤9223372036854775807):a5d c≤9223372036854775807:=by unfold a5d;split <;> (try split) <;> omega
theorem SL.of{x y:Hp}(h:SL x)(hl:lv y.S=lv x.S)(hs:∀k∈lv x.S,(ob y.S k).Strong=(ob x.S k).Strong):SL y:=λk hk=>by
 rw[hl] at hk;rw[hs k hk];exact h k hk
theorem SL.st{x:Hp}(h:SL x)(hR:SR x.S)(v:Int){f:Int→Int}(hf:∀c,0≤c→0≤f c)(hb:∀c,c≤9223372036854775807→f c≤9223372036854775807):SL (stO x v f):=λk hk=>by
 rw[(E4 hR v hf).lv] at hk;rw[b1Q hR v hf hk];split;·exact hb _ (h k hk)
 ·exact h k hk
theorem SL.A9{x:Hp}(h:SL x)(hR:SR x.S)(v:Int):SL (A9 x v):=h.st hR v (λc=>B9) λc _=>by have:=c6v c;omega
theorem SL.rls{x:Hp}(h:SL x)(hR:SR x.S)(v:Int):SL (O5 x v):=h.st hR v (λc=>L8) λc hc=>c6h hc
theorem b9Y{x:Hp}(hR:SR x.S)(v:Int):SR (O5 x v).S:=(E4 hR v λc=>L8).sr
theorem a36{x:Hp}(hR:SR x.S)(h:SL x)(r:Nat)(v:Int):SL (E3 x r v):=by
 unfold E3;exact SL.rls (x:=wR (A9 x v) (x.Roots.set r v)) (h.A9 hR v) (a3b hR v) _
theorem c1Y{x:Hp}(hR:SR x.S)(hS:SL x){h:Int}(hh:h∈lv x.S)(k:Nat)(v:Int):SL (a00 x h k v):=by
 have kin:=E4 hR v (f:=S0) λc=>B9;have hR1:SR (A9 x v).S:=kin.sr;have hl1:h∈lv (A9 x v).S:=by rw[show lv (A9 x v).S=lv x.S from kin.lv];exact hh
 have hof:(ob (A9 x v).S h).Fields=(ob x.S h).Fields:=by
  obtain⟨m,e⟩:=kin.ob h (by have:=F7 hR hh;omega)
  show (ob (stO x v S0).S h).Fields=_;rw[e]
 have ok:=I2 hR1 hl1;have ho:OkO (A9 x v).S (flg (ob (A9 x v).S h) ((ob x.S h).Fields.set k v)):=⟨ok.s1,ok.s2,ok.st,ok.wk,ok.p1,ok.p2,by have:=ok.fl;rw[hof] at this;simpa using this⟩
 have sr2:=a0C (o:=flg (ob (A9 x v).S h) ((ob x.S h).Fields.set k v)) hR1 hl1 rfl ho;unfold a00;refine SL.rls (x:=wS (A9 x v) (seO (A9 x v).S h (flg (ob (A9 x v).S h) ((ob x.S h).Fields.set k v)))) ?_ sr2 _;refine (hS.A9 hR v).of (a3c hR1 hl1 rfl ho) λj hj=>?_;dsimp only;rw[a2o (o:=flg (ob (A9 x v).S h) ((ob x.S h).Fields.set k v)) hR1 hl1 rfl ho (by have:=F7 hR1 hj;omega)]
 split;·rename_i e;rw[e]
 ·rfl
theorem c4I{x:Hp}(hR:SR x.S)(hS:SL x)(v:Int)(t:Tb)(old:Int):SL (a5o x v t old):=by
 unfold a5o;exact SL.rls (x:=wT (A9 x v) t) (hS.A9 hR v) (a3b hR v) _
theorem c9r{x:Hp}(hR:SR x.S)(hS:SL x)(h:Int){d:Int}(hd:V6 x.S h (B5 h)→0≤(ce x.S (B5 h)).Val.Weak+d):SL (mkd x h d):=by
 unfold mkd;split
 ·rename_i q;exact hS.of (a6b hR q.1 q.2.1 (hd q)).lv λk hk=>a6c hR q.1 q.2.1 (hd q) hk
 ·exact hS
theorem c1H{x:Hp}(hR:SR x.S)(hS:SL x)(h:Int)(hd:V6 x.S h (B5 h)→1≤(ce x.S (B5 h)).Val.Weak):SL (a7X x h):=by
 unfold a7X;split
 ·rename_i q;have hd:=hd q;have kn:=a6b (d:=-1) hR q.1 q.2.1 (by omega)
  have s1:SL (wS x (mkA x.S (B5 h) (-1))):=hS.of kn.lv λk hk=>a6c hR q.1 q.2.1 (by omega) hk
  split
  ·rename_i c;have hi1:B5 h<(mkA x.S (B5 h) (-1)).S.a8.length:=by rw[kn.len];exact q.1
   have hce:ce (mkA x.S (B5 h) (-1)) (B5 h)=⟨(ce x.S (B5 h)).State,(ce x.S (B5 h)).Gen,wkg (ce x.S (B5 h)).Val ((ce x.S (B5 h)).Val.Weak + -1)⟩:=by
    rw[a27 hR q.1 q.2.1,if_pos rfl]
   have h2:(ce (mkA x.S (B5 h) (-1)) (B5 h)).State=2:=by rw[hce];exact c.1
   exact s1.of (b6c kn.sr hi1 h2) λk hk=>by
    dsimp only;rw[b6d kn.sr hi1 h2 hk]
  ·exact s1
 ·exact hS
theorem c5t{x:Hp}(hx:L5 x)(hS:SL x){n:Nat}(hn:n<6)(h call:Int):SL (a15 x n h call):=by
 have hR:=hx.sh.sr;have hnl:n<x.a8.length:=by have:=hx.sh.c6;omega
 have ok:∀k i,V6 x.S k i→0≤(ce x.S i).Val.Weak:=λk i q=>(hR.ok i q.1 q.2.1).wk;have tw:∀i,V6 x.S (tgt x n) i→1≤(ce x.S i).Val.Weak:=λi q=>by
  have htg:tgt x n=x.a8[n].Target:=by
   unfold tgt;rw[List.getD_eq_getElem?_getD,List.getElem?_eq_getElem hnl];rfl
  have r:=q.rng hR;have p:=b0v hnl (by rw[←htg];omega)
  rw[←htg,q.2.2] at p;have:=(hx.wk i q.1 q.2.1).1;omega
 unfold a15;have s1:SL (mkd (wC x (x.a8.set n (wcl h call))) h 1):=c9r (x:=wC x (x.a8.set n (wcl h call))) hR hS h λq=>by
  have:=ok _ _ q;dsimp only;omega
 by_cases q:V6 x.S h (B5 h)
 ·have e:mkd (wC x (x.a8.set n (wcl h call))) h 1=wS (wC x (x.a8.set n (wcl h call))) (mkA x.S (B5 h) 1):=by
   unfold mkd;rw[if_pos q]
  have hd:=ok _ _ q;have kn:=a6b (d:=1) hR q.1 q.2.1 (by omega)
  rw[e] at s1 ⊢;refine c1H kn.sr s1 _ λq2=>?_;dsimp only at q2 ⊢;have q3:=(kn.ad _ _).1 q2;have:=tw _ q3;rw[a27 hR q.1 q.2.1];split
  ·rename_i e2;rw[e2] at this;show 1≤(ce x.S (B5 h)).Val.Weak+1;omega
  ·exact this
 ·have e:mkd (wC x (x.a8.set n (wcl h call))) h 1=wC x (x.a8.set n (wcl h call)):=by
   unfold mkd;rw[if_neg q]
  rw[e] at s1 ⊢;exact c1H (x:=wC x (x.a8.set n (wcl h call))) hR s1 _ λq2=>tw _ q2
section
variable{x:Hp}(hx:L5 x)(hS:SL x)
include hx hS
end
end Go.Sh
namespace Go.Sh
end Go.Sh
namespace Go.Sh
end Go.Sh
namespace Go.Sh
def c7J(x:Hp):Prop:=Sm x.S∧x.Roots.length≤20∧x.a8.length≤20∧x.T.length≤20∧x.Q.L.length≤60
instance(x:Hp):Decidable (c7J x):=by unfold c7J;infer_instance
end Go.Sh
namespace Go.Sh
def b6h:Hp:=⟨⟨⟨[],0⟩,0⟩,[],[],[],⟨[],0⟩⟩
theorem b39(x:Hp)(h:Int)(f:Int→Int):(stO x h f).Roots=x.Roots∧(stO x h f).a8=x.a8∧(stO x h f).T=x.T∧(stO x h f).Q=x.Q:=by
 unfold stO;split <;> exact⟨rfl,rfl,rfl,rfl⟩
theorem a35(x:Hp)(r:Nat)(h:Int):(E3 x r h).Roots=x.Roots.set r h∧(E3 x r h).a8=x.a8∧(E3 x r h).T=x.T∧(E3 x r h).Q=x.Q:=by
 obtain⟨a,b,c,d⟩:=b39 (wR (A9 x h) (x.Roots.set r h)) (x.Roots.getD r 0) a5d;obtain⟨a',b',c',d'⟩:=b39 x h S0;exact⟨a,b.trans b',c.trans c',d.trans d'⟩
section
variable{x:Hp}(hB:HB x)
include hB
end
end Go.Sh
namespace Go.Sh
abbrev ded(o:m7):m7:=⟨o.Serial,0,o.Weak,o.Prog,o.Started,[]⟩
def gnC(s:a7)(i:Nat):b7:=
 if (ce s i).Val.Weak=0 then (if (ce s i).Gen=s.S.Last then ⟨3,(ce s i).Gen,z0⟩ else ⟨0,(ce s i).Gen+1,z0⟩) else ⟨2,(ce s i).Gen,ded (ce s i).Val⟩
def gnA(s:a7)(d:Int):a7:=F2 s (B5 d) (gnC s (B5 d))
def gnL(s:a7)(ds:List Int):a7:=ds.foldl gnA s
theorem c86(s:a7)(i:Nat):(gnC s i).State≠1:=by
 unfold gnC;split;·split <;> simp
 ·simp
theorem b9N{s:a7}(hR:SR s){a b:Int}(ha:a∈lv s)(hb:b∈lv s)(h:a≠b):B5 a≠B5 b:=λe=>by
 have h1:=x6 hR ha;have h2:=x6 hR hb;rw[e] at h1;exact h (h1.2.2.trans h2.2.2.symm)
section
variable{s:a7}(hR:SR s){d:Int}(hd:d∈lv s)
include hR hd
theorem b9x:SR (gnA s d):=by
 have q:=x6 hR hd;have hc:=hR.cell _ q.1;have ho:=hR.ok _ q.1 (.inl q.2.1);have no:c1J (oo z0):=⟨rfl,rfl,rfl,rfl,rfl,rfl⟩;unfold gnA gnC;split
 ·split;·exact hR.F2 q.1 ⟨by simp,by simp,hc.2.2.1,hc.2.2.2⟩ (λ_=>no) (λq=>absurd q (by unfold Th;simp))
  ·refine hR.F2 q.1 ⟨by simp,by simp,?_,?_⟩ (λ_=>no) (λq=>absurd q (by unfold Th;simp))
   ·show 0≤(ce s (B5 d)).Gen+1;omega
   ·show (ce s (B5 d)).Gen+1≤s.S.Last;omega
 ·exact hR.F2 q.1 ⟨by simp,by simp,hc.2.2.1,hc.2.2.2⟩ (λq=>absurd (.inr rfl) q) (λ_=>⟨⟨ho.s1,ho.s2,Int.le_refl _,ho.wk,ho.p1,ho.p2,Nat.zero_le _⟩,.inl q.2.1,rfl⟩)
theorem c3R(j:Nat):ce (gnA s d) j=if j=B5 d then gnC s (B5 d) else ce s j:=I8 (x6 hR hd).1 _ j
theorem c84:lv (gnA s d)=(lv s).filter λh=>decide (h≠d):=by
 have hS:=b9x hR hd;unfold gnA at hS ⊢;have hc:=c86 s (B5 d);rw[c0Y hR (x6 hR hd).1 hc hS];refine List.filter_congr λh hh=>decide_eq_decide.2 ⟨λq e=>q (by rw[e]),λq=>b9N hR hh hd q⟩
theorem c85{k:Int}(hk:k∈lv s)(hne:k≠d):ob (gnA s d) k=ob s k:=by
 have hS:=b9x hR hd;unfold gnA at hS ⊢;exact c03 hR (x6 hR hd).1 hS hk (b9N hR hk hd hne)
end
structure Gn (s s':a7) (ds:List Int):Prop where
 sr:SR s'
 len:s'.S.a8.length=s.S.a8.length
 last:s'.S.Last=s.S.Last
 V4:s'.Serial=s.Serial
 lv:lv s'=(lv s).filter λh=>decide (h∉ds)
 ob:∀k∈Sh.lv s,k∉ds→ob s' k=ob s k
 ce:∀j,ce s' j=if j∈ds.map B5 then gnC s j else ce s j
theorem a1y:∀(ds:List Int) {s:a7} (hR:SR s),ds.Nodup→(∀d∈ds,d∈lv s)→Gn s (gnL s ds) ds
 | [],s,hR,_,_=>⟨hR,rfl,rfl,rfl,(List.filter_eq_self.2 (λa _=>by simp)).symm,λ_ _ _=>rfl,λj=>by simp[gnL]⟩
 | d::ds,s,hR,hn,hm=>by
  rw[List.nodup_cons] at hn;have hd:=hm d (List.mem_cons_self ..);have hlv:=c84 hR hd;have hm':∀e∈ds,e∈lv (gnA s d):=λe he=>by
   rw[hlv,List.mem_filter,decide_eq_true_iff];exact⟨hm e (List.mem_cons_of_mem _ he),λq=>hn.1 (q▸he)⟩
  have ih:=a1y ds (b9x hR hd) hn.2 hm';refine⟨ih.sr,ih.len.trans (V5 ..),ih.last,ih.V4,?_,λk hk hne=>?_,λj=>?_⟩
  ·show lv (gnL (gnA s d) ds)=_;rw[ih.lv,hlv,List.filter_filter];refine List.filter_congr λh hh=>?_;rw[Bool.eq_iff_iff];simp only[Bool.and_eq_true,decide_eq_true_iff,List.mem_cons,not_or];exact⟨λq=>⟨q.2,q.1⟩,λq=>⟨q.2,q.1⟩⟩
  ·show ob (gnL (gnA s d) ds) k=_;rw[List.mem_cons,not_or] at hne;rw[ih.ob k (by rw[hlv,List.mem_filter,decide_eq_true_iff];exact⟨hk,hne.1⟩) hne.2,c85 hR hd hk hne.1]
  ·show ce (gnL (gnA s d) ds) j=_;have hg:∀e∈ds,B5 e≠B5 d:=λe he=>b9N hR (hm e (List.mem_cons_of_mem _ he)) hd λq=>hn.1 (q▸he);rw[ih.ce];by_cases h1:j∈ds.map B5
   ·obtain⟨e,he,rfl⟩:=List.mem_map.1 h1;rw[if_pos h1,if_pos (by rw[List.map_cons];exact List.mem_cons_of_mem _ h1)]
    unfold gnC;rw[c3R hR hd,if_neg (hg e he)];rfl
   ·rw[if_neg h1,c3R hR hd,List.map_cons];by_cases h2:j=B5 d
    ·subst h2;rw[if_pos rfl,if_pos (List.mem_cons_self ..)]
    ·rw[if_neg h2,if_neg];rw[List.mem_cons];exact λq=>q.elim h2 h1
theorem b5B{α:Type}(p:α→Bool)(f:α→Nat):∀l:List α,(l.map f).sum=((l.filter p).map f).sum+((l.filter λx => !p x).map f).sum
 | []=>rfl
 | x::l=>by
  rw[List.map_cons,List.sum_cons,b5B p f l,List.filter_cons,List.filter_cons];cases p x <;> simp <;> omega
theorem b8I(f:Int→List Int)(y:Int):∀l:List Int,X9 (l.flatMap f) y=(l.map λx=>X9 (f x) y).sum
 | []=>O3 y
 | x::l=>by rw[List.flatMap_cons,I5,b8I f y l,List.map_cons,List.sum_cons]
theorem Gn.inn{s s':a7}{ds:List Int}(hR:SR s)(hn:ds.Nodup)(hm:∀d∈ds,d∈Sh.lv s)(g:Gn s s' ds)(y:Int):inn s' y+X9 (ds.flatMap (outs s)) y=inn s y:=by
 unfold Sh.inn;rw[g.lv,b5B (λh=>decide (h∉ds)) (λx=>X9 (outs s x) y) (Sh.lv s),b8I];have h1:((Sh.lv s).filter λh=>decide (h∉ds)).map (λx=>X9 (outs s' x) y)=((Sh.lv s).filter λh=>decide (h∉ds)).map λx=>X9 (outs s x) y:=List.map_congr_left λx hx=>by
  rw[List.mem_filter,decide_eq_true_iff] at hx;unfold Sh.outs;rw[g.ob x hx.1 hx.2]
 have h2:((Sh.lv s).filter λx => !decide (x∉ds)).Perm ds:=by
  rw[List.perm_ext_iff_of_nodup ((b0r (r7.2 hR)).filter _) hn];intro a;rw[List.mem_filter];simp only[decide_not,Bool.not_not,decide_eq_true_iff];exact⟨λq=>q.2,λq=>⟨hm a q,q⟩⟩
 rw[h1,(h2.map λx=>X9 (outs s x) y).sum_nat]
theorem b75{L:List k9}(hd:L.Pairwise λa b=>¬(a.Kind=b.Kind∧a.At=b.At))(k:Int):((L.filter (·.Kind==k)).map (·.At)).Nodup:=by
 unfold List.Nodup;rw[List.pairwise_map];refine (hd.filter _).imp_of_mem λ{a b} ha hb h e=>?_;rw[List.mem_filter,beq_iff_eq] at ha hb;exact h ⟨ha.2.trans hb.2.symm,e⟩
theorem b4a{L:List k9}{m:List Int}(hd:L.Pairwise λa b=>¬(a.Kind=b.Kind∧a.At=b.At))(h:∀t∈L,(t.Kind=1∧t.At∈m)∨(t.Kind=2∧0≤t.At∧t.At≤5)):L.length≤m.length+6:=by
 have h1:L.length=(L.filter (·.Kind==1)).length+(L.filter (·.Kind==2)).length:=by
  rw[a93 (λt:k9=>t.Kind==1) L];congr 2;refine List.filter_congr λt ht=>?_;rcases h t ht with q | q
  ·simp[q.1]
  ·simp[q.1]
 have h2:=a3X (b75 hd 1) (m:=m) λa ha=>by
  obtain⟨t,ht,rfl⟩:=List.mem_map.1 ha;rw[List.mem_filter,beq_iff_eq] at ht;rcases h t ht.1 with q | q
  ·exact q.2
  ·omega
 have h3:=a3X (b75 hd 2) (m:=[0,1,2,3,4,5]) λa ha=>by
  obtain⟨t,ht,rfl⟩:=List.mem_map.1 ha;rw[List.mem_filter,beq_iff_eq] at ht;rcases h t ht.1 with q | q
  ·omega
  ·simp only[List.mem_cons,List.not_mem_nil,or_false];omega
 rw[List.length_map] at h2 h3;simp only[List.length_cons,List.length_nil] at h3;omega
theorem a4P{q:TQ}{w:Int}:wts q w=true↔∃t∈q.L,t.Kind=2∧t.At=w:=by
 unfold wts;rw[List.any_eq_true];simp
theorem b0u{q:TQ}{h:Int}:h∈b4F q↔∃t∈q.L,t.Kind=1∧t.At=h:=by
 unfold b4F;rw[List.mem_map];simp only[List.mem_filter,beq_iff_eq];exact⟨λ⟨t,⟨a,b⟩,c⟩=>⟨t,a,b,c⟩,λ⟨t,a,b,c⟩=>⟨t,⟨a,b⟩,c⟩⟩
abbrev cz:e6:=⟨0,false,0⟩
def a3l(ds:List Int)(c:e6):Bool:=c.Intact&&c.Target != 0&&decide (c.Target∈ds)
def a7e(ds:List Int)(c:e6):e6:=if a3l ds c then ⟨c.Target,false,c.Call⟩ else c
def clr(l:List e6)(ds:List Int):List e6:=l.map (a7e ds)
def cls(l:List e6)(ds:List Int):List Nat:=(List.range l.length).filter λw=>a3l ds (l.getD w cz)&&decide (0≤(l.getD w cz).Call)
def clt(l:List e6)(ds:List Int):List k9:=(cls l ds).map λ(w:Nat)=>⟨2,(w:Int),(l.getD w cz).Call⟩
theorem b5P(ds:List Int)(c:e6):(a7e ds c).Target=c.Target∧(a7e ds c).Call=c.Call∧((a7e ds c).Intact=true↔c.Intact=true∧a3l ds c=false):=by
 unfold a7e;cases h:a3l ds c
 ·rw[if_neg (by simp)]
  simp
 ·rw[if_pos rfl];simp
theorem c6I(l:List e6)(ds:List Int)(h:Int):nmg (clr l ds) h=nmg l h:=by
 unfold nmg clr;rw[List.countP_map];congr 1;funext c
 simp only[Function.comp_apply,(b5P ds c).1]
theorem a3n{l:List e6}{ds:List Int}{t:k9}:t∈clt l ds↔∃w,∃hw:w<l.length,t=⟨2,(w:Int),l[w].Call⟩∧a3l ds l[w]=true∧0≤l[w].Call:=by
 unfold clt cls;rw[List.mem_map];constructor
 ·rintro⟨w,hw,rfl⟩;rw[List.mem_filter,List.mem_range] at hw;obtain⟨h1,h2⟩:=hw;have e:l.getD w cz=l[w]:=by rw[List.getD_eq_getElem?_getD,List.getElem?_eq_getElem h1];rfl
  rw[e] at h2 ⊢;rw[Bool.and_eq_true,decide_eq_true_iff] at h2;exact⟨w,h1,rfl,h2.1,h2.2⟩
 ·rintro⟨w,hw,rfl,h2,h3⟩;have e:l.getD w cz=l[w]:=by rw[List.getD_eq_getElem?_getD,List.getElem?_eq_getElem hw];rfl
  refine⟨w,?_,by rw[e]⟩
  rw[List.mem_filter,List.mem_range,e,Bool.and_eq_true,decide_eq_true_iff];exact⟨hw,h2,h3⟩
theorem b40(l:List e6)(ds:List Int):(clt l ds).Pairwise λa b=>¬(a.Kind=b.Kind∧a.At=b.At):=by
 unfold clt cls;rw[List.pairwise_map];refine (List.Pairwise.filter _ (List.nodup_range (n:=l.length))).imp λ{a b} h=>?_;rintro⟨_,e⟩;dsimp only at e;omega
end Go.Sh
namespace Go.Sh
def a4f(x:Hp)(ds:List Int)(t:Tb):Hp:=⟨gnL x.S ds,x.Roots,clr x.a8 ds,t,⟨x.Q.L++clt x.a8 ds,x.Q.Cap⟩⟩
theorem b3o(q:TQ)(l:List k9)(c:Int)(h:∀t∈l,t.Kind≠1):b4F ⟨q.L++l,c⟩=b4F q:=by
 unfold b4F;dsimp only;rw[List.filter_append];have:l.filter (λt=>t.Kind==1) = []:=by
  rw[List.filter_eq_nil_iff];intro t ht;simpa using h t ht
 rw[this,List.append_nil]
theorem c1P{x:Hp}(hx:L5 x){ds:List Int}(hn:ds.Nodup)(hm:∀d∈ds,d∈lv x.S)
  (ho:∀d∈ds,d∉otr x)(hf:∀h∈lv x.S,h∉ds→∀v∈(ob x.S h).Fields,v∉ds)(hp:∀k v,Has x.T k v→k∉ds→v∉ds)
  {t:Tb}{vals:List Int}(ht:HR t)(h1:∀k v,Has t k v↔k∉ds∧Has x.T k v)(h2:∀y,own t y+X9 vals y=own x.T y) :
  HpS (a4f x ds t)∧Wk (a4f x ds t)∧a1c (a4f x ds t) (ds.flatMap (outs x.S)++vals):=by
 have hS:=hx.sh;have hR:=hS.sr;have g:=a1y ds hR hn hm;have hlv:∀h,h∈lv (gnL x.S ds)↔h∈lv x.S∧h∉ds:=λh=>by rw[g.lv,List.mem_filter,decide_eq_true_iff]
 have hlen:(lv x.S).length≤24:=E1 (r7.2 hR);have hcl:∀w (hw:w<x.a8.length),a3l ds x.a8[w]=true→x.a8[w].Intact=true:=λw hw q=>by
  unfold a3l at q;rw[Bool.and_eq_true,Bool.and_eq_true] at q;exact q.1.1
 have htd:(x.Q.L++clt x.a8 ds).Pairwise λa b=>¬(a.Kind=b.Kind∧a.At=b.At):=by
  rw[List.pairwise_append];refine⟨hS.td,b40 ..,λa ha b hb q=>?_⟩;obtain⟨w,hw,rfl,hh,_⟩:=a3n.1 hb;have:=((hS.cl w hw).2.2.2.2 (hcl w hw hh)).2;rw[Bool.eq_false_iff] at this;exact this (a4P.2 ⟨a,ha,q.1,q.2⟩)
 have htk:∀t∈x.Q.L++clt x.a8 ds,0≤t.Prog∧t.Prog≤5∧((t.Kind=1∧t.At∈lv (gnL x.S ds)∧(ob (gnL x.S ds) t.At).Started=true)∨(t.Kind=2∧0≤t.At∧t.At≤5)):=λt htt=>by
  rcases List.mem_append.1 htt with q | q
  ·obtain⟨a,b,c⟩:=hS.tk t q;refine⟨a,b,?_⟩;rcases c with ⟨c1,c2,c3⟩ | c
   ·have hnd:t.At∉ds:=λhd=>ho _ hd (List.mem_append.2 (.inr (b0u.2 ⟨t,q,c1,rfl⟩)));exact .inl ⟨c1,(hlv _).2 ⟨c2,hnd⟩,by rw[g.ob _ c2 hnd];exact c3⟩
   ·exact .inr c
  ·obtain⟨w,hw,rfl,hh,hc⟩:=a3n.1 q;have c6:=hS.c6;have:=(hS.cl w hw).2.1;exact⟨hc,this,.inr ⟨rfl,by dsimp only;omega,by dsimp only;omega⟩⟩
 have hq30:(x.Q.L++clt x.a8 ds).length≤30:=by
  have:=b4a (m:=lv x.S) htd λt htt=>by
   rcases (htk t htt).2.2 with q | q
   ·exact .inl ⟨q.1,((hlv _).1 q.2.1).1⟩
   ·exact .inr q
  omega
 have hwts:∀i:Nat,wts x.Q i=false→(∀hi:i<x.a8.length,a3l ds x.a8[i]=false)→wts ⟨x.Q.L++clt x.a8 ds,x.Q.Cap⟩ i=false:=λi q1 q2=>by
  rw[Bool.eq_false_iff] at q1 ⊢;intro q;obtain⟨t,ht,a,b⟩:=a4P.1 q;rcases List.mem_append.1 ht with c | c
  ·exact q1 (a4P.2 ⟨t,c,a,b⟩)
  ·obtain⟨w,hw,rfl,hh,_⟩:=a3n.1 c;dsimp only at b;have:w=i:=by omega
   subst this;rw[q2 hw] at hh;cases hh
 refine⟨⟨g.sr,ht,hS.r6,?_,hS.cap,hq30,htk,htd,λh hh=>?_,λh hh v hv=>?_,λk v hkv=>?_,λi hi=>?_⟩,λi hi hti=>?_,λh hh hlt=>?_⟩
 ·unfold a4f clr;rw[List.length_map];exact hS.c6
 ·rcases hS.rt h hh with q | q
  ·exact .inl q
  ·have h0:h≠0:=λe=>a8M hR (e▸q);exact .inr ((hlv h).2 ⟨q,λhd=>ho h hd (List.mem_append.2 (.inl (a6f.2 ⟨hh,h0⟩)))⟩)
 ·obtain⟨a,b⟩:=(hlv h).1 hh;have hv':v∈(ob x.S h).Fields:=by
   have e:=g.ob h a b;unfold a4f at hv;rwa [e] at hv
  rcases hS.fl h a v hv' with q | q
  ·exact .inl q
  ·exact .inr ((hlv v).2 ⟨q,hf h a b v hv'⟩)
 ·obtain⟨a,b⟩:=(h1 k v).1 hkv;obtain⟨c,d⟩:=hS.pr k v b;exact⟨(hlv k).2 ⟨c,a⟩,(hlv v).2 ⟨d,hp k v b a⟩⟩
 ·have hi':i<x.a8.length:=by
   unfold a4f clr at hi;simpa using hi
  have e:(a4f x ds t).a8[i]=a7e ds x.a8[i]:=List.getElem_map _;obtain⟨a1,a2,a3,a4,a5⟩:=hS.cl i hi';obtain⟨b1,b2,b3⟩:=b5P ds x.a8[i];rw[e,b1,b2];refine⟨a1,a2,λq=>?_,λq=>?_,λq=>?_⟩
  ·rw[Bool.eq_false_iff];intro q2;rw[a3 q] at b3;exact absurd (b3.1 q2).1 (by decide)
  ·obtain⟨p,hp1,hp2,hp3⟩:=a4 q;refine⟨p,by show p<(gnL x.S ds).S.a8.length;rw[g.len];exact hp1,?_⟩
   show Th (ce (gnL x.S ds) p)∧_=1+(p:Int)+32*(ce (gnL x.S ds) p).Gen;rw[g.ce];split
   ·have hw:=(hx.wk p hp1 hp2).1;have:=b0v hi' q;rw[hp3] at this;unfold gnC;rw[if_neg (by omega)]
    exact⟨.inr rfl,hp3⟩
   ·exact⟨hp2,hp3⟩
  ·obtain⟨c1,c2⟩:=b3.1 q;obtain⟨d1,d2⟩:=a5 c1;have h0:x.a8[i].Target≠0:=λe=>a8M hR (e▸d1);refine⟨(hlv _).2 ⟨d1,λhd=>?_⟩,hwts i d2 λ_=>c2⟩;have:a3l ds x.a8[i]=true:=by
    unfold a3l;simp[c1,h0,hd]
   rw[this] at c2;cases c2
 ·have hi':i<x.S.S.a8.length:=by
   have:=g.len;have hi:i<(gnL x.S ds).S.a8.length:=hi;omega
  show (ce (gnL x.S ds) i).Val.Weak=(nmg (clr x.a8 ds) (1+(i:Int)+32*(ce (gnL x.S ds) i).Gen):Int)∧((ce (gnL x.S ds) i).State=2→_);have hti':Th (ce (gnL x.S ds) i):=hti;show _∧((ce (gnL x.S ds) i).State=2→1≤(ce (gnL x.S ds) i).Val.Weak∧(ce (gnL x.S ds) i).Val.Fields = []∧(ce (gnL x.S ds) i).Val.Strong=0);rw[c6I];rw[g.ce] at hti' ⊢;split
  ·rename_i q;rw[if_pos q] at hti';obtain⟨d,hd,rfl⟩:=List.mem_map.1 q;have hp:=x6 hR (hm d hd);have hw:=(hx.wk _ hi' (.inl hp.2.1)).1;unfold gnC at hti' ⊢;split at hti'
   ·exfalso;unfold Th at hti';split at hti' <;> simp at hti'
   ·rename_i q2;rw[if_neg q2];have:=(hR.ok _ hi' (.inl hp.2.1)).wk;exact⟨hw,λ_=>⟨by dsimp only;omega,rfl,rfl⟩⟩
  ·rename_i q;rw[if_neg q] at hti';exact hx.wk i hi' hti'
 ·obtain⟨a,b⟩:=(hlv h).1 hh;have e:=g.ob h a b;have e':ob (a4f x ds t).S h=ob x.S h:=e;rw[e'] at hlt ⊢;have hf:=hx.fair h a hlt;rw[O3] at hf;rw[hf];have i1:=g.inn hR hn hm h;have i2:=h2 h;have i3:b4F ⟨x.Q.L++clt x.a8 ds,x.Q.Cap⟩=b4F x.Q:=b3o _ _ _ λt ht=>by
   obtain⟨w,_,rfl,_⟩:=a3n.1 ht;simp
  unfold nms otr a4f;dsimp only;rw[i3,I5 (ds.flatMap (outs x.S)),I5];omega
theorem b3Y:∀(l:List Int) {x:Hp},HpS x→Wk x→a1c x l→L5 (l.foldl O5 x)
 | [],x,h1,h2,h3=>⟨h1,h2,h3⟩
 | v::l,x,h1,h2,h3=>b3Y l (h1.st v λc=>L8) (h2.st h1.sr v λc=>L8) (b0K h1.sr h3)
abbrev srt(o:m7):m7:=⟨o.Serial,o.Strong,o.Weak,o.Prog,true,o.Fields⟩
abbrev qtk(x:Hp)(h:Int):k9:=⟨1,h,(ob x.S h).Prog⟩
noncomputable def quH(x:Hp)(h:Int):Hp:=A9 ⟨seO x.S h (srt (ob x.S h)),x.Roots,x.a8,x.T,⟨x.Q.L ++ [qtk x h],x.Q.Cap⟩⟩ h
theorem b1v{x:Hp}(hx:L5 x){h:Int}(hh:h∈lv x.S)(hp:0≤(ob x.S h).Prog)(hs:(ob x.S h).Started=false):L5 (quH x h):=by
 have hS:=hx.sh;have hR:=hS.sr;have oko:=I2 hR hh;have ho:OkO x.S (srt (ob x.S h)):=⟨oko.s1,oko.s2,oko.st,oko.wk,oko.p1,oko.p2,oko.fl⟩;have r1:=a0C (o:=srt (ob x.S h)) hR hh rfl ho;have l1:=a3c (o:=srt (ob x.S h)) hR hh rfl ho;have o1:∀j,j∈lv x.S→ob (seO x.S h (srt (ob x.S h))) j=if j=h then srt (ob x.S h) else ob x.S j:=λj hj=>by
  have:=F7 hR hj;exact a2o (o:=srt (ob x.S h)) hR hh rfl ho (by omega)
 have hlen:(lv x.S).length≤24:=E1 (r7.2 hR);have s1:HpS (wS x (seO x.S h (srt (ob x.S h)))):=hS.of r1 l1 (λk i q=>(b97 (o:=srt (ob x.S h)) hR hh rfl ho).2 q) (λk hk q=>by
  rw[o1 k hk];split;·rfl
  ·exact q) λk hk v hv=>by
  rw[o1 k hk] at hv;split at hv;·rename_i e;subst e;exact hS.fl k hk v hv
  ·exact hS.fl k hk v hv
 have w1:Wk (wS x (seO x.S h (srt (ob x.S h)))):=λi hi ht=>by
  have J5:=x6 hR hh;have hc:=b6X (o:=srt (ob x.S h)) hR hh rfl ho i;dsimp only at hi ht ⊢;rw[hc] at ht ⊢;have hi':i<x.S.S.a8.length:=by unfold seO at hi;rwa [K7] at hi
  split at ht
  ·rename_i e;subst e;rw[if_pos rfl];dsimp only;have:=hx.wk _ hi' (.inl J5.2.1);rw[N2 hR J5];exact⟨this.1,λq=>absurd q (by rw[J5.2.1];decide)⟩
  ·rename_i e;rw[if_neg e];exact hx.wk i hi' ht
 have htd:(x.Q.L ++ [qtk x h]).Pairwise λa b=>¬(a.Kind=b.Kind∧a.At=b.At):=by
  rw[List.pairwise_append];refine⟨hS.td,by simp,λa ha b hb q=>?_⟩
  rw[List.mem_singleton] at hb;subst hb;dsimp only at q;rcases (hS.tk a ha).2.2 with c | c
  ·rw[q.2,hs] at c;exact absurd c.2.2 (by decide)
  ·omega
 have htk:∀t∈x.Q.L ++ [qtk x h],0≤t.Prog∧t.Prog≤5∧((t.Kind=1∧t.At∈lv (seO x.S h (srt (ob x.S h)))∧(ob (seO x.S h (srt (ob x.S h))) t.At).Started=true)∨(t.Kind=2∧0≤t.At∧t.At≤5)):=λt ht=>by
  rcases List.mem_append.1 ht with q | q
  ·exact s1.tk t q
  ·rw[List.mem_singleton] at q;subst q;refine⟨hp,oko.p2,.inl ⟨rfl,by rw[l1];exact hh,?_⟩⟩
   dsimp only;rw[o1 h hh,if_pos rfl]
 have hq30:(x.Q.L ++ [qtk x h]).length≤30:=by
  have:=b4a (m:=lv x.S) htd λt ht=>by
   rcases (htk t ht).2.2 with q | q
   ·exact .inl ⟨q.1,by rw[←l1];exact q.2.1⟩
   ·exact .inr q
  omega
 have s2:HpS ⟨seO x.S h (srt (ob x.S h)),x.Roots,x.a8,x.T,⟨x.Q.L ++ [qtk x h],x.Q.Cap⟩⟩:=by
  refine⟨s1.sr,s1.hr,s1.r6,s1.c6,s1.cap,hq30,htk,htd,s1.rt,s1.fl,s1.pr,λi hi=>?_⟩;obtain⟨a,b,c,d,e⟩:=s1.cl i hi;refine⟨a,b,c,d,λq=>⟨(e q).1,?_⟩⟩;have:=(e q).2;rw[Bool.eq_false_iff] at this ⊢;intro q2;obtain⟨t,ht,k1,k2⟩:=a4P.1 q2;rcases List.mem_append.1 ht with q3 | q3
  ·exact this (a4P.2 ⟨t,q3,k1,k2⟩)
  ·rw[List.mem_singleton] at q3;subst q3;dsimp only at k1;omega
 have w2:Wk ⟨seO x.S h (srt (ob x.S h)),x.Roots,x.a8,x.T,⟨x.Q.L ++ [qtk x h],x.Q.Cap⟩⟩:=w1;refine⟨s2.st h λc=>B9,w2.st s2.sr h λc=>B9,λk hk hlt=>?_⟩;have hk':k∈lv x.S:=by
  have:lv (quH x h).S=lv x.S:=(E4 s2.sr h λc=>B9).lv.trans l1;rw[←this];exact hk
 have hst:(ob (quH x h).S k).Strong=if k=h then S0 (ob x.S k).Strong else (ob x.S k).Strong:=by
  have:=b1Q (x:=⟨seO x.S h (srt (ob x.S h)),x.Roots,x.a8,x.T,⟨x.Q.L ++ [qtk x h],x.Q.Cap⟩⟩) s2.sr h (f:=S0) (λc=>B9) (k:=k) (by rw[←l1] at hk';exact hk')
  refine Eq.trans this ?_;dsimp only;rw[o1 k hk'];by_cases e:k=h
  ·subst e;rw[if_pos rfl,if_pos rfl,if_pos rfl]
  ·rw[if_neg e,if_neg e,if_neg e]
 have hnm:nms (quH x h) k=nms x k+if k=h then 1 else 0:=by
  have:=b2S (x:=⟨seO x.S h (srt (ob x.S h)),x.Roots,x.a8,x.T,⟨x.Q.L ++ [qtk x h],x.Q.Cap⟩⟩) s2.sr h (f:=S0) (λc=>B9) k;refine Eq.trans this ?_;have hi:=c0R (o:=srt (ob x.S h)) hR hh rfl ho k;dsimp only at hi;have h0:k≠0:=λe=>a8M hR (e▸hk');unfold nms otr b4F;dsimp only;rw[List.filter_append,List.map_append,I5,I5,I5];have:X9 (List.map (·.At) (List.filter (λt:k9=>t.Kind==1) [qtk x h])) k=if k=h then 1 else 0:=by
   show X9 [h] k=_;rw[E7,O3];by_cases e:k=h
   ·rw[if_pos ⟨e.symm,h0⟩,if_pos e]
   ·rw[if_neg (λq=>e q.1.symm),if_neg e]
  rw[this];omega
 rw[hst] at hlt ⊢;rw[hnm,O3];have hpos:=(I2 hR hk').st;by_cases e:k=h
 ·rw[if_pos e] at hlt ⊢;rw[if_pos e];have:=hx.fair k hk' (by unfold S0 at hlt;split at hlt <;> omega)
  rw[O3] at this;unfold S0 at hlt ⊢;split at hlt;·omega
  ·rename_i q;rw[if_neg q,if_neg (by omega)]
   omega
 ·rw[if_neg e] at hlt ⊢;rw[if_neg e];have:=hx.fair k hk' hlt;rw[O3] at this;exact this
end Go.Sh
namespace Go.Sh
noncomputable def zr(x:Hp):List Int:=(lv x.S).filter λh=>(ob x.S h).Strong==0
theorem a1b{x:Hp}{h:Int}:h∈zr x↔h∈lv x.S∧(ob x.S h).Strong=0:=by
 unfold zr;rw[List.mem_filter,beq_iff_eq]
theorem b7g{x:Hp}(hx:L5 x){z:Int}(hz:z∈zr x):nms x z=0:=by
 obtain⟨a,b⟩:=a1b.1 hz;have:=hx.fair z a (by omega)
 rw[O3] at this;omega
theorem b8J{l:List Int}{h:Int}(h0:h≠0)(e:X9 l h=0):h∉l:=λq=>by
 have:=a1S.2 ⟨h0,q⟩;omega
theorem c34{α:Type}(f:α→Nat):∀ {l:List α} {a:α},a∈l→f a≤(l.map f).sum
 | b::l,a,h=>by
  rw[List.map_cons,List.sum_cons];rcases List.mem_cons.1 h with e | e
  ·subst e;omega
  ·have:=c34 f e;omega
theorem b6j{s:a7}{a y:Int}(ha:a∈lv s):X9 (outs s a) y≤inn s y:=c34 (λx=>X9 (outs s x) y) ha
theorem b6x{t:Tb}{k v:Int}(h:Has t k v)(h0:v≠0):0<own t v:=List.countP_pos_iff.2 ⟨⟨k,v⟩,a3o.2 h,by simp[h0]⟩
def wot(t:Tb)(ks:List Int):Tb × List Int:=(V7 t ks).getD (t,[])
theorem a4e{t:Tb}(hT:HR t)(ks:List Int)(hks:ks.length≤1000):V7 t ks=some (wot t ks)∧HR (wot t ks).1∧(wot t ks).2.length≤ks.length∧a4F (t.map J5) ks=some ((wot t ks).1.map J5,(wot t ks).2) ∧
  (∀k v,Has (wot t ks).1 k v↔k∉ks∧Has t k v)∧∀y,own (wot t ks).1 y+X9 (wot t ks).2 y=own t y:=by
 obtain⟨a,had,h1,h2,h3,h4,h5,h6,h7,h8,h9⟩:=b8S hT ks hks;have:wot t ks=(a,had):=by unfold wot;rw[h1];rfl
 rw[this];exact⟨h1,h2,h4,h5,h6,h9⟩
noncomputable def buH(x:Hp)(ds:List Int):Hp:=(ds.flatMap (outs x.S)++(wot x.T ds).2).foldl O5 (a4f x ds (wot x.T ds).1)
theorem a33:∀(l:List Int) {x:Hp},SR x.S→Kin x.S (l.foldl O5 x).S∧l.foldl O5 x=wS x (l.foldl O5 x).S
 | [],x,h=>⟨Kin.refl h,rfl⟩
 | v::l,x,h=>by
  have k1:=E4 h v (f:=a5d) λc=>L8;obtain⟨k2,e⟩:=a33 l (x:=O5 x v) k1.sr;refine⟨k1.trans k2,?_⟩;show l.foldl O5 (O5 x v)=wS x (l.foldl O5 (O5 x v)).S;rw[e,c96 x v]
theorem b4X{x:Hp}(hx:L5 x){ds:List Int}(hn:ds.Nodup)(hm:∀d∈ds,d∈lv x.S)
  (ho:∀d∈ds,d∉otr x)(hf:∀h∈lv x.S,h∉ds→∀v∈(ob x.S h).Fields,v∉ds)(hp:∀k v,Has x.T k v→k∉ds→v∉ds):L5 (buH x ds):=by
 have hl:ds.length≤24:=Nat.le_trans (a3X hn hm) (E1 (r7.2 hx.sh.sr));obtain⟨_,w1,_,_,w2,w3⟩:=a4e hx.sh.hr ds (by omega)
 obtain⟨a,b,c⟩:=c1P hx hn hm ho hf hp w1 w2 w3;exact b3Y _ a b c
theorem b9c{x:Hp}(hR:SR x.S){ds:List Int}(hn:ds.Nodup)(hm:∀d∈ds,d∈lv x.S):lv (buH x ds).S=(lv x.S).filter λh=>decide (h∉ds):=by
 have g:=a1y ds hR hn hm;exact (a33 (ds.flatMap (outs x.S)++(wot x.T ds).2) (x:=a4f x ds (wot x.T ds).1) g.sr).1.lv.trans g.lv
theorem b9d{x:Hp}(hR:SR x.S){ds:List Int}(hn:ds.Nodup)(hm:∀d∈ds,d∈lv x.S){k:Int}(hk:k∈lv x.S)(hd:k∉ds):∃n,ob (buH x ds).S k=stg (ob x.S k) n:=by
 have g:=a1y ds hR hn hm;have hr:=F7 hR hk;obtain⟨n,e⟩:=(a33 (ds.flatMap (outs x.S)++(wot x.T ds).2) (x:=a4f x ds (wot x.T ds).1) g.sr).1.ob k (by omega)
 refine⟨n,?_⟩;have e':ob (buH x ds).S k=_:=e;have g':ob (a4f x ds (wot x.T ds).1).S k=ob x.S k:=g.ob k hk hd;rw[e',g']
theorem a9W{x:Hp}(hR:SR x.S){ds:List Int}(hn:ds.Nodup)(hm:∀d∈ds,d∈lv x.S):(buH x ds).Roots=x.Roots∧(buH x ds).a8=clr x.a8 ds∧(buH x ds).T=(wot x.T ds).1∧(buH x ds).Q=⟨x.Q.L++clt x.a8 ds,x.Q.Cap⟩:=by
 have g:=a1y ds hR hn hm;have e:=(a33 (ds.flatMap (outs x.S)++(wot x.T ds).2) (x:=a4f x ds (wot x.T ds).1) g.sr).2;have e':buH x ds=wS (a4f x ds (wot x.T ds).1) (buH x ds).S:=e;rw[e'];exact⟨rfl,rfl,rfl,rfl⟩
theorem b4p{x:Hp}(hx:L5 x){z:Int}(hz:z∈zr x):L5 (buH x [z]):=by
 obtain⟨a,b⟩:=a1b.1 hz;have h0:z≠0:=λe=>a8M hx.sh.sr (e▸a);have hn:=b7g hx hz;unfold nms at hn;refine b4X hx (by simp) (by simpa using a) (λd hd=>?_) (λh hh hne v hv q=>?_) (λk v hkv _ q=>?_)
 ·rw[List.mem_singleton] at hd;subst hd;exact b8J h0 (by omega)
 ·rw[List.mem_singleton] at q;subst q;have:=b6j (y:=v) hh;have h1:=a1S.2 ⟨h0,show v∈outs x.S h from a6f.2 ⟨hv,h0⟩⟩;omega
 ·rw[List.mem_singleton] at q;subst q;have:=b6x hkv h0;omega
def due(o:m7):Bool:=decide (0≤o.Prog) && !o.Started
noncomputable def stp(x:Hp):Hp:=match zr x with
 | []=>x
 | z::_=>if due (ob x.S z) then quH x z else buH x [z]
noncomputable def stN:Nat→Hp→Hp
 | 0,x=>x
 | n+1,x=>stN n (stp x)
theorem a1R(n:Nat)(x:Hp):stN (n+1) x=stp (stN n x):=by
 induction n generalizing x with
 | zero=>rfl
 | succ n ih=>exact ih (stp x)
theorem a8C{x:Hp}(h:zr x = []):stp x=x:=by unfold stp;rw[h]
theorem a4a{x:Hp}{z:Int}{l:List Int}(h:zr x=z::l):stp x=if due (ob x.S z) then quH x z else buH x [z]:=by unfold stp;rw[h]
theorem c2z{x:Hp}(hx:L5 x):L5 (stp x):=by
 cases h:zr x with
 | nil=>rw[a8C h];exact hx
 | cons z l=>
  have hz:z∈zr x:=by rw[h];exact List.mem_cons_self ..
  rw[a4a h];split
  ·rename_i q;unfold due at q;rw[Bool.and_eq_true,decide_eq_true_iff,Bool.not_eq_true'] at q;exact b1v hx (a1b.1 hz).1 q.1 q.2
  ·exact b4p hx hz
theorem a0q{x:Hp}(hx:L5 x)(n:Nat):L5 (stN n x):=by
 induction n with
 | zero=>exact hx
 | succ n ih=>rw[a1R];exact c2z ih
section
variable{x:Hp}(hR:SR x.S){h:Int}(hh:h∈lv x.S)
include hR hh
theorem a6l:Kin (seO x.S h (srt (ob x.S h))) (quH x h).S∧(quH x h).Roots=x.Roots∧(quH x h).a8=x.a8∧(quH x h).T=x.T∧(quH x h).Q=⟨x.Q.L ++ [qtk x h],x.Q.Cap⟩:=by
 have oko:=I2 hR hh;have r1:=a0C (o:=srt (ob x.S h)) hR hh rfl ⟨oko.s1,oko.s2,oko.st,oko.wk,oko.p1,oko.p2,oko.fl⟩;refine⟨E4 (x:=⟨seO x.S h (srt (ob x.S h)),x.Roots,x.a8,x.T,⟨x.Q.L ++ [qtk x h],x.Q.Cap⟩⟩) r1 h λc=>B9,?_⟩;have e:quH x h=wS ⟨seO x.S h (srt (ob x.S h)),x.Roots,x.a8,x.T,⟨x.Q.L ++ [qtk x h],x.Q.Cap⟩⟩ (quH x h).S:=b1K _ h;rw[e];exact⟨rfl,rfl,rfl,rfl⟩
theorem b6B:lv (quH x h).S=lv x.S:=by
 have oko:=I2 hR hh;exact (a6l hR hh).1.lv.trans (a3c (o:=srt (ob x.S h)) hR hh rfl ⟨oko.s1,oko.s2,oko.st,oko.wk,oko.p1,oko.p2,oko.fl⟩)
theorem b3H{k:Int}(hk:k∈lv x.S):∃n,ob (quH x h).S k=stg (if k=h then srt (ob x.S h) else ob x.S k) n:=by
 have oko:=I2 hR hh;have hr:=F7 hR hk;obtain⟨n,e⟩:=(a6l hR hh).1.ob k (by omega)
 refine⟨n,?_⟩;rw[e,a2o (o:=srt (ob x.S h)) hR hh rfl ⟨oko.s1,oko.s2,oko.st,oko.wk,oko.p1,oko.p2,oko.fl⟩ (by omega)]
end
noncomputable def mu(x:Hp):Nat:=(lv x.S).length+((lv x.S).filter λh => !(ob x.S h).Started).length
theorem d1f{x:Hp}(hR:SR x.S):mu x≤48:=by
 have h1:(lv x.S).length≤24:=E1 (r7.2 hR);have h2:((lv x.S).filter λh => !(ob x.S h).Started).length≤(lv x.S).length:=List.length_filter_le ..;unfold mu;omega
theorem d0j{x:Hp}(hx:L5 x)(h:zr x ≠ []):mu (stp x)<mu x:=by
 cases hz:zr x with
 | nil=>exact absurd hz h
 | cons z l=>
  have hzm:z∈zr x:=by rw[hz];exact List.mem_cons_self ..
  have hzl:=(a1b.1 hzm).1;have hR:=hx.sh.sr;rw[a4a hz];split
  ·rename_i q;unfold due at q;rw[Bool.and_eq_true,decide_eq_true_iff,Bool.not_eq_true'] at q;unfold mu;rw[b6B hR hzl];have:=filter_lt (p:=λh => !(ob (quH x z).S h).Started) (q:=λh => !(ob x.S h).Started) (l:=lv x.S) (λk hk hp=>by
    obtain⟨n,e⟩:=b3H hR hzl hk;rw[e] at hp;split at hp;·exact absurd hp (by simp)
    ·exact hp) z hzl (by rw[q.2];rfl) (by
    obtain⟨n,e⟩:=b3H hR hzl hzl;rw[e,if_pos rfl];rfl)
   omega
  ·unfold mu;have hn:([z]:List Int).Nodup:=by simp
   have hm:∀d ∈ [z],d∈lv x.S:=by simpa using hzl
   rw[b9c hR hn hm,List.filter_filter];have h1:((lv x.S).filter λh=>decide (h ∉ [z])).length<((lv x.S).filter λ_=>true).length:=filter_lt (λ_ _ _=>rfl) z hzl rfl (by simp)
   rw[List.filter_eq_self.2 (λ_ _=>rfl)] at h1;have h2:((lv x.S).filter λa=>(!(ob (buH x [z]).S a).Started)&&decide (a ∉ [z])).length≤((lv x.S).filter λh => !(ob x.S h).Started).length:=by
    rw[←List.countP_eq_length_filter,←List.countP_eq_length_filter];refine List.countP_mono_left λa ha hp=>?_;rw[Bool.and_eq_true,decide_eq_true_iff] at hp;obtain⟨n,e⟩:=b9d hR hn hm ha hp.2;rw[e] at hp;exact hp.1
   omega
noncomputable def a1p(x:Hp):Hp:=stN 100 x
theorem b1N{x:Hp}(hx:L5 x):∃n,n≤48∧zr (stN n x) = []∧(∀j,j<n→zr (stN j x) ≠ [])∧a1p x=stN n x:=by
 have key:∀m,(∃n,n≤m∧zr (stN n x) = [])∨mu (stN m x)+m≤mu x:=by
  intro m;induction m with
  | zero=>exact .inr (Nat.le_refl _)
  | succ m ih=>
   rcases ih with ⟨n,h1,h2⟩ | ih;·exact .inl ⟨n,by omega,h2⟩
   ·by_cases q:zr (stN m x) = []
    ·exact .inl ⟨m,by omega,q⟩
    ·have:=d0j (a0q hx m) q;rw[←a1R] at this;exact .inr (by omega)
 have h48:=d1f hx.sh.sr;have hex:∃n,n≤48∧zr (stN n x) = []:=by
  rcases key 49 with ⟨n,h1,h2⟩ | h
  ·rcases Nat.lt_or_ge n 49 with q | q
   ·exact⟨n,by omega,h2⟩
   ·rcases key 48 with h | h
    ·exact h
    ·have:mu (stN 48 x)=0:=by omega
     refine⟨48,Nat.le_refl _,?_⟩;have hl:(lv (stN 48 x).S).length=0:=by unfold mu at this;omega
     unfold zr;rw[List.eq_nil_of_length_eq_zero hl];rfl
  ·omega
 obtain⟨n,⟨hn,hz⟩,hmin⟩:=a0Z hex;refine⟨n,hn,hz,λj hj q=>?_,?_⟩
 ·have:=hmin j ⟨by omega,q⟩
  omega
 ·have:∀k,stN (n+k) x=stN n x:=λk=>by
   induction k with
   | zero=>rfl
   | succ k ih=>rw[show n+(k+1)=(n+k)+1 by omega,a1R,ih,a8C hz]
  have h100:=this (100-n);rw[show n+(100-n)=100 by omega] at h100
  exact h100
theorem a2p{x:Hp}(hx:L5 x):L5 (a1p x):=a0q hx 100
theorem b5y{x:Hp}(hx:L5 x):zr (a1p x) = []:=by
 obtain⟨n,_,h,_,e⟩:=b1N hx;rw[e];exact h
theorem b8A{x:Hp}(h:zr x = []):a1p x=x:=by
 have:∀n,stN n x=x:=λn=>by
  induction n with
  | zero=>rfl
  | succ n ih=>rw[a1R,ih,a8C h]
 exact this 100
end Go.Sh
namespace Go.Sh
section
variable{x:Hp}(hR:SR x.S)
include hR
theorem a1E{h:Int}(hh:h∈lv x.S):h≤9223372036854775807:=by have:=F7 hR hh;omega
theorem b1k{h:Int}(hh:h∈lv x.S):u9 x.S h=some (ob x.S h,0):=by
 obtain⟨e,h1,h2⟩:=Q1 (r7.2 hR) (a1E hR hh);rw[h1,h2.2 hh]
theorem b0b{h:Int}(hh:h∈lv x.S):F0 (sO x.S) h=some (oo (ob x.S h),0):=by
 have:=hR.len;rw[a5f x.S (by omega) (a1E hR hh),b1k hR hh]
 rfl
theorem zero_eq:a1m x=some (zr x):=by
 have h24:(lv x.S).length≤24:=E1 (r7.2 hR);unfold a1m;simp only[jn];rw[a1D (r7.2 hR),d3s];rw[E5 (lv x.S) (λb h=>if (ob x.S h).Strong==0 then b ++ [h] else b) id (λk b=>b.length≤k) (by omega) (Nat.le_refl _) (λk hk b hb=>?_) (λb hb=>by simp)]
 ·rw[foldl_filter];rfl
 ·simp only[Int.ofNat_lt,hk,decide_true,if_true,o5 hk,d3s,b1k hR (List.getElem_mem hk)];by_cases c:((ob x.S (lv x.S)[k]).Strong==0)=true
  ·rw[if_pos c,if_pos c,y5 (by omega) (by simp;omega),d3s,l6]
   exact⟨rfl,by simp;omega⟩
  ·rw[if_neg c,if_neg c,l6];exact⟨rfl,by omega⟩
theorem c5C:b0F (hO x)=some (zr x):=by
 have h24:(lv x.S).length≤24:=E1 (r7.2 hR);unfold b0F;simp only[jn];rw[show (hO x).S=sO x.S from rfl,a7t (r7.2 hR),d3s];rw[E5 (lv x.S) (λb h=>if (ob x.S h).Strong==0 then b ++ [h] else b) id (λk b=>b.length≤k) (by omega) (Nat.le_refl _) (λk hk b hb=>?_) (λb hb=>by simp)]
 ·rw[foldl_filter];rfl
 ·simp only[Int.ofNat_lt,hk,decide_true,if_true,o5 hk,d3s,b0b hR (List.getElem_mem hk)];by_cases c:((ob x.S (lv x.S)[k]).Strong==0)=true
  ·rw[show ((oo (ob x.S (lv x.S)[k])).Strong==0)=true from c,if_pos rfl,if_pos c,y5 (by omega) (by simp;omega),d3s,l6]
   exact⟨rfl,by simp;omega⟩
  ·rw[if_neg (show ¬((oo (ob x.S (lv x.S)[k])).Strong==0)=true from c),if_neg c,l6];exact⟨rfl,by omega⟩
end
noncomputable def quD(x:Hp)(h:Int):Hp:=if h∈lv x.S∧due (ob x.S h)=true then quH x h else x
theorem b61{s:a7}(hR:SR s){h:Int}(hl:h∈lv s):OkO s (srt (ob s h)):=by
 have oko:=I2 hR hl;exact⟨oko.s1,oko.s2,oko.st,oko.wk,oko.p1,oko.p2,oko.fl⟩
theorem c08(o:m7):K0 o=some (due o):=by
 unfold K0 due;congr 1
section
variable{x:Hp}(hx:L5 x)(hS:SL x){h:Int}(hh:h≤9223372036854775807)
include hx hS hh
theorem b3I(hl:h∈lv x.S)(hd:due (ob x.S h)=true):x.Q.L.length<30:=by
 have hb:0≤(ob x.S h).Prog∧(ob x.S h).Started=false:=by
  unfold due at hd;rw[Bool.and_eq_true,decide_eq_true_iff,Bool.not_eq_true'] at hd;exact hd
 have:=(b1v hx hl hb.1 hb.2).sh.q30;rw[(a6l hx.sh.sr hl).2.2.2.2] at this;simp at this;omega
theorem b5q:Q4 x h=some (quD x h):=by
 have hR:=hx.sh.sr;have cap:=hx.sh.cap;obtain⟨e,h1,h2⟩:=Q1 (r7.2 hR) hh;unfold Q4 quD;rw[h1,d3s];by_cases hl:h∈lv x.S
 ·have e0:e=0:=h2.2 hl;subst e0;have e1:(((0:Int) != 0)==false)=true:=rfl;simp only[e1,a0L,c08,d3s];cases hd:due (ob x.S h);·rw[if_pos (by simp),if_neg (by simp)]
  ·rw[if_neg (by simp),if_pos ⟨hl,rfl⟩]
   have hr:=b3I hx hS hh hl hd;have hok:=b61 hR hl;have l1:=a3c (o:=srt (ob x.S h)) hR hl rfl hok;have r1:=a0C (o:=srt (ob x.S h)) hR hl rfl hok;rw[b0O (o:=srt (ob x.S h)) hR hl rfl hok,d3s,c8e _ (by omega),d3s]
   have et:tad x.Q ⟨1,h,(ob x.S h).Prog⟩=(⟨x.Q.L ++ [qtk x h],x.Q.Cap⟩,0):=by
    unfold tad;rw[if_neg (by omega)]
   rw[et];dsimp only;rw[a5v r1 hh (λk hk=>?_),d3s];·rfl
   ·dsimp only at hk ⊢;rw[l1] at hk;rw[a2o (o:=srt (ob x.S h)) hR hl rfl hok (a1E hR hk)];split;·exact hS h hl
    ·exact hS k hk
 ·have e0:e≠0:=λq=>hl (h2.1 q);have e1:(e != 0)=true:=by simpa using e0
  rw[e1];simp only[show ((true==false)=true)=False by simp,u6,if_false,d3s,Bool.true_or,if_true]
  rw[if_neg (λq=>hl q.1)]
theorem c3w:a8p (hO x) h=some (decide (h∈lv x.S)&&due (ob x.S h)):=by
 have hR:=hx.sh.sr;have hlen:=hR.len;obtain⟨e,h1,h2⟩:=Q1 (r7.2 hR) hh;unfold a8p;rw[show (hO x).S=sO x.S from rfl,a5f x.S (by omega) hh,h1,Option.map_some,d3s,b2E hR hh,d3s]
 unfold due oo;rw[Bool.and_assoc]
theorem b8i:a30 (hO x) h=some (hO (quD x h)):=by
 have hR:=hx.sh.sr;have cap:=hx.sh.cap;unfold a30 quD;rw[c3w hx hS hh,d3s];by_cases hl:h∈lv x.S
 ·rw[decide_eq_true hl,Bool.true_and];cases hd:due (ob x.S h);·rw[if_pos (by simp),if_neg (by simp)]
  ·rw[if_neg (by simp),if_pos ⟨hl,rfl⟩]
   have hr:=b3I hx hS hh hl hd;have hok:=b61 hR hl;have l1:=a3c (o:=srt (ob x.S h)) hR hl rfl hok;have r1:=a0C (o:=srt (ob x.S h)) hR hl rfl hok;rw[show (hO x).S=sO x.S from rfl,b0b hR hl,d3s];have es:M4 (sO x.S) h (oo (srt (ob x.S h)))=some (sO (seO x.S h (srt (ob x.S h))),0):=b0P hR hl rfl hok;have es':M4 (sO x.S) h ⟨(oo (ob x.S h)).Serial,(oo (ob x.S h)).Strong,(oo (ob x.S h)).Weak,(oo (ob x.S h)).Prog,true,(oo (ob x.S h)).Fields⟩=some (sO (seO x.S h (srt (ob x.S h))),0):=es;rw[es',d3s];have ea:a6o (hO x).Q ⟨1,h,(oo (ob x.S h)).Prog⟩=some (tqR ⟨x.Q.L ++ [qtk x h],x.Q.Cap⟩,0):=by
    have:=c8a (q:=x.Q) (qtk x h) (by omega)
    have et:tad x.Q (qtk x h)=(⟨x.Q.L ++ [qtk x h],x.Q.Cap⟩,0):=by
     unfold tad;rw[if_neg (by omega)]
    rw[et] at this;exact this
   rw[ea,d3s];have er:=a7L (x:=⟨seO x.S h (srt (ob x.S h)),x.Roots,x.a8,x.T,⟨x.Q.L ++ [qtk x h],x.Q.Cap⟩⟩) r1 hh (λk hk=>by
    dsimp only at hk ⊢;rw[l1] at hk;rw[a2o (o:=srt (ob x.S h)) hR hl rfl hok (a1E hR hk)];split;·exact hS h hl
    ·exact hS k hk)
   have er':a08 ⟨sO (seO x.S h (srt (ob x.S h))),(hO x).Roots,(hO x).a8,(hO x).T,tqR ⟨x.Q.L ++ [qtk x h],x.Q.Cap⟩⟩ h=_:=er;dsimp only;rw[er',d3s];rfl
 ·rw[decide_eq_false hl,Bool.false_and];rw[if_pos (by simp),if_neg (λq=>hl q.1)]
end
noncomputable def lvo(x:Hp)(l:List Int):List Int:=l.foldl (λb h=>if h∈lv x.S∧h∉b then b ++ [h] else b) []
theorem b70{x:Hp}{z:Int}(hz:z∈lv x.S):lvo x [z] = [z]:=by
 unfold lvo;simp[hz]
section
variable{x:Hp}(hR:SR x.S)
include hR
theorem b0p(l:List Int)(hl:l.length≤1000)(hb:∀h∈l,h≤9223372036854775807):T4 x l=some (lvo x l):=by
 unfold T4;simp only[jn];have key:=E5 (f:=λ((s20,s21,s22):Int × (List (Int × Bool)) × (List Int))=>
   if (decide (s20<(l.length:Int))) then
     (ix l s20).bind λv32=>
     (u9 x.S v32).bind λv33=>
     if ((v33.2==0)==true) then
      if (!((A1 s21 v32).getD (false:Bool))) then
       (app 8 s22 [v32]).bind λv34=>
       some (Sum.inl (p7 (s20+1),(o6 s21 v32 true),v34))
      else
      some (.inl (p7 (s20+1),s21,s22))
     else
     some (.inl (p7 (s20+1),s21,s22))
   else
   some (.inr s22)) l (λ(b:List (Int × Bool) × List Int) h=>if h∈lv x.S∧h∉b.2 then (o6 b.1 h true,b.2 ++ [h]) else b) (λb=>b.2) (λk b=>b.2.length≤k∧∀d,(A1 b.1 d).getD false=decide (d∈b.2)) (b0:=([],[])) (by omega) ⟨Nat.le_refl _,λd=>by simp[A1]⟩ (λk hk b hb2=>?_) (λb hb2=>by simp)
 ·rw[key,d3s];congr 1;have:∀(l:List Int) (m:List (Int × Bool)) (b:List Int),(l.foldl (λ(b:List (Int × Bool) × List Int) h=>if h∈lv x.S∧h∉b.2 then (o6 b.1 h true,b.2 ++ [h]) else b) (m,b)).2=l.foldl (λb h=>if h∈lv x.S∧h∉b then b ++ [h] else b) b:=λl=>by
   induction l with
   | nil=>intro m b;rfl
   | cons h l ih=>
    intro m b;rw[List.foldl_cons,List.foldl_cons];by_cases c:h∈lv x.S∧h∉b
    ·rw[if_pos c,if_pos c,ih]
    ·rw[if_neg c,if_neg c,ih]
  exact this l [] []
 ·obtain⟨hb1,hb3⟩:=hb2;obtain⟨e,h1,h2⟩:=Q1 (r7.2 hR) (hb _ (List.getElem_mem hk));simp only[Int.ofNat_lt,hk,decide_true,if_true,o5 hk,d3s,h1,hb3];by_cases hl:l[k]∈lv x.S
  ·have e0:e=0:=h2.2 hl;subst e0;by_cases hm:l[k]∈b.2
   ·rw[if_pos (by rfl),if_neg (by simp[hm]),if_neg (λq=>q.2 hm),l6]
    exact⟨rfl,by omega,hb3⟩
   ·rw[if_pos (by rfl),if_pos (by simp[hm]),if_pos ⟨hl,hm⟩,y5 (by omega) (by simp;omega),d3s,l6]
    refine⟨rfl,by simp;omega,λd=>?_⟩
    rw[a8g];by_cases q:d=l[k]
    ·rw[if_pos q];simp[q]
    ·rw[if_neg q,hb3];simp[q]
  ·have e0:e≠0:=λq=>hl (h2.1 q);rw[if_neg (by simp[e0]),if_neg (λq=>hl q.1),l6]
   exact⟨rfl,by omega,hb3⟩
theorem c3x(l:List Int)(hl:l.length≤1000)(hb:∀h∈l,h≤9223372036854775807):b0G (hO x) l=some (lvo x l):=by
 unfold b0G;simp only[jn];rw[E5 l (λb h=>if h∈lv x.S∧h∉b then b ++ [h] else b) id (λk b=>b.length≤k) (by omega) (Nat.le_refl _) (λk hk b hb2=>?_) (λb hb=>by simp)]
 ·rfl
 ·simp only[Int.ofNat_lt,hk,decide_true,if_true,o5 hk,d3s,b2E hR (hb _ (List.getElem_mem hk))];by_cases hl:l[k]∈lv x.S
  ·have h0:l[k]≠0:=λe=>a8M hR (e▸hl);rw[decide_eq_true hl];simp only[beq_self_eq_true,a0L,b0d b _ (by omega:b.length≤1000000),d3s,Bool.true_and]
   by_cases hm:l[k]∈b
   ·rw[if_neg (by simp[hm,h0]),if_neg (λq=>q.2 hm),l6]
    exact⟨rfl,by omega⟩
   ·rw[if_pos (by simp[hm]),if_pos ⟨hl,hm⟩,y5 (by omega) (by simp;omega),d3s,l6]
    exact⟨rfl,by simp;omega⟩
  ·rw[decide_eq_false hl];simp only[show ((false==true)=true)=False by simp,u6,if_false,d3s,Bool.false_and]
   rw[if_neg (by simp),if_neg (λq=>hl q.1),l6]
   exact⟨rfl,by omega⟩
end
end Go.Sh
namespace Go.Sh
theorem b3k{α β:Type}(p:α→Bool)(f:α→β):∀(xs:List α) (acc:List β),xs.foldl (λb x=>if p x then b ++ [f x] else b) acc=acc++(xs.filter p).map f
 | [],acc=>by simp
 | x::xs,acc=>by
  rw[List.foldl_cons,b3k p f xs];by_cases h:p x=true
  ·simp[h]
  ·simp[h]
theorem a0U{α:Type}{l:List α}{i:Nat}(h:i<l.length)(d:α):l.getD i d=l[i]:=by
 rw[List.getD_eq_getElem?_getD,List.getElem?_eq_getElem h];rfl
theorem c1Q(c:e6)(ds:List Int)(hl:ds.length≤1000):a0s c ds=some (a3l ds c):=by
 unfold a0s a3l;rw[contains_eq _ _ (by omega)]
 cases (c.Intact&&c.Target != 0);·rfl
 ·simp[u6]
def pks(l:List e6)(ds:List Int):List Nat:=(List.range l.length).filter λw=>a3l ds (l.getD w cz)
theorem c9K{l:List e6}{ds:List Int}{w:Nat}(h:w∈pks l ds):w<l.length:=by
 unfold pks at h;rw[List.mem_filter,List.mem_range] at h;exact h.1
theorem c62(l:List e6)(ds:List Int):(pks l ds).length≤l.length:=by
 unfold pks;exact Nat.le_trans (List.length_filter_le ..) (by simp)
theorem c9L(l:List e6)(ds:List Int):(pks l ds).Nodup:=List.Pairwise.filter _ List.nodup_range
theorem c6e(l:List e6)(ds:List Int):cls l ds=(pks l ds).filter λw=>decide (0≤(l.getD w cz).Call):=by
 unfold cls pks;rw[List.filter_filter];refine List.filter_congr λw _=>?_;rw[Bool.and_comm]
def a6a(l:List Nat):List Int:=l.map λ(n:Nat)=>(n:Int)
theorem b6k{l:List Nat}{k:Nat}(h:k<l.length):ix (a6a l) (k:Int)=some ((l[k]:Nat):Int):=by
 unfold a6a;rw[a0V,o5 h];rfl
theorem a5k(l:List Nat):(a6a l).length=l.length:=List.length_map ..
theorem c2i(l:List e6)(ds:List Int)(hl:l.length≤1000)(hd:ds.length≤1000):H8 l ds=some (a6a (pks l ds)):=by
 unfold H8;simp only[jn];have hr:(List.range l.length).length=l.length:=by simp
 have key:=E5 (List.range l.length) (λ(b:List Int) (w:Nat)=>if a3l ds (l.getD w cz) then b ++ [(w:Int)] else b) id (λk b=>b.length≤k) (b0:=[]) (f:=λ((s17,s18):Int × (List Int))=>
   if (decide (s17<(l.length:Int))) then
     (ix l s17).bind λv26=>
     (a0s v26 ds).bind λv27=>
     if v27 then
      (app 8 s18 [s17]).bind λv28=>
      some (Sum.inl (p7 (s17+1),v28))
     else
     some (.inl (p7 (s17+1),s18))
   else
   some (.inr s18)) (by omega) (Nat.le_refl _) (λk hk b hb=>?_) (λb hb=>by simp)
 ·rw[key,b3k];rfl
 ·rw[hr] at hk;simp only[Int.ofNat_lt,hk,decide_true,if_true,o5 hk,d3s,c1Q _ _ hd,List.getElem_range,a0U hk];by_cases c:a3l ds l[k]=true
  ·rw[if_pos c,if_pos c,y5 (by omega) (by simp;omega),d3s,l6]
   exact⟨rfl,by simp;omega⟩
  ·rw[if_neg c,if_neg c,l6];exact⟨rfl,by omega⟩
theorem c1T(l:List e6)(hl:l.length≤1000):a0c l=some l:=by
 unfold a0c;rw[a7v (by omega) (by omega),d3s]
 unfold cpy;rw[if_pos (by simp),d3s]
 simp
def a9Y(l:List e6)(K:List Nat):List e6:=(List.range l.length).map λi=>if i∈K then ⟨(l.getD i cz).Target,false,(l.getD i cz).Call⟩ else l.getD i cz
theorem a5b(l:List e6)(K:List Nat):(a9Y l K).length=l.length:=by simp[a9Y]
theorem a9Z{l:List e6}{K:List Nat}{i:Nat}(h:i<(a9Y l K).length):(a9Y l K)[i]=if i∈K then ⟨(l.getD i cz).Target,false,(l.getD i cz).Call⟩ else l.getD i cz:=by simp[a9Y]
theorem c3n(l:List e6):a9Y l []=l:=by
 refine List.ext_getElem (a5b ..) λi h1 h2=>?_;rw[a9Z,if_neg (by simp),a0U h2]
theorem c1S{l:List e6}{K:List Nat}{w:Nat}(hw:w<l.length):a9Y l (K ++ [w])=(a9Y l K).set w ⟨(l.getD w cz).Target,false,(l.getD w cz).Call⟩:=by
 refine List.ext_getElem (by rw[List.length_set,a5b,a5b]) λi h1 h2=>?_
 rw[a9Z,List.getElem_set];by_cases e:w=i
 ·subst e;rw[if_pos rfl,if_pos (by simp)]
 ·rw[if_neg e,a9Z];by_cases q:i∈K
  ·rw[if_pos (List.mem_append_left _ q),if_pos q]
  ·rw[if_neg,if_neg q];rw[List.mem_append,List.mem_singleton];exact λq2=>q2.elim q λq3=>e q3.symm
theorem c3m(l:List e6)(ds:List Int):a9Y l (pks l ds)=clr l ds:=by
 refine List.ext_getElem (by rw[a5b];simp[clr]) λi h1 h2=>?_
 have hi:i<l.length:=by rw[a5b] at h1;exact h1
 have ec:(clr l ds)[i]=a7e ds l[i]:=List.getElem_map _;rw[a9Z,ec,a0U hi];unfold a7e;by_cases c:a3l ds l[i]=true
 ·rw[if_pos c,if_pos];unfold pks;rw[List.mem_filter,List.mem_range,a0U hi];exact⟨hi,c⟩
 ·rw[if_neg c,if_neg];unfold pks;rw[List.mem_filter,List.mem_range,a0U hi];exact λq=>c q.2
theorem K8{α:Type}{l:List α}{k:Nat}(h:k<l.length):l.take (k+1)=l.take k ++ [l[k]]:=List.take_succ_eq_append_getElem h
theorem c3l(l:List e6)(ds:List Int)(hl:l.length≤1000)(hd:ds.length≤1000):a4d l ds=some (clr l ds,a6a (cls l ds)):=by
 unfold a4d;rw[c2i l ds hl hd,d3s,c1T l hl,d3s];simp only[jn,a5k];have hp:=c62 l ds;refine M1 (pks l ds).length (λk (b:List e6 × List Int)=>b.1=a9Y l ((pks l ds).take k)∧b.2=a6a (((pks l ds).take k).filter λw=>decide (0≤(l.getD w cz).Call))) (by omega) ⟨by simp[c3n],by simp[a6a]⟩ ?_ ?_
 ·rintro k ⟨b1,b2⟩ hk ⟨rfl,rfl⟩;left;have hw:=c9K (List.getElem_mem hk);have hnm:(pks l ds)[k]∉(pks l ds).take k:=λq=>by
   have hn:=c9L l ds;rw[←List.take_append_drop k (pks l ds),List.nodup_append] at hn;exact hn.2.2 _ q (pks l ds)[k] (by rw[List.drop_eq_getElem_cons hk];exact List.mem_cons_self ..) rfl
  have h1:(pks l ds)[k]<(a9Y l ((pks l ds).take k)).length:=by rw[a5b];exact hw
  have e1:ix (a9Y l ((pks l ds).take k)) (((pks l ds)[k]:Nat):Int)=some (l.getD (pks l ds)[k] cz):=by rw[o5 h1,a9Z,if_neg hnm]
  have h2:(pks l ds)[k]<((a9Y l ((pks l ds).take k)).set (pks l ds)[k] ⟨(l.getD (pks l ds)[k] cz).Target,false,(l.getD (pks l ds)[k] cz).Call⟩).length:=by rw[List.length_set];exact h1
  have e2:ix ((a9Y l ((pks l ds).take k)).set (pks l ds)[k] ⟨(l.getD (pks l ds)[k] cz).Target,false,(l.getD (pks l ds)[k] cz).Call⟩) (((pks l ds)[k]:Nat):Int)=some ⟨(l.getD (pks l ds)[k] cz).Target,false,(l.getD (pks l ds)[k] cz).Call⟩:=by rw[o5 h2,List.getElem_set_self]
  dsimp only;simp only[Int.ofNat_lt,hk,decide_true,if_true,b6k hk,d3s,e1,Int.toNat_natCast,e2];have hle:(a6a (((pks l ds).take k).filter λw=>decide (0≤(l.getD w cz).Call))).length≤1000:=by
   rw[a5k];exact Nat.le_trans (List.length_filter_le ..) (by simp;omega)
  rw[K8 hk,c1S hw,List.filter_append];by_cases c:0≤(l.getD (pks l ds)[k] cz).Call
  ·rw[if_pos (decide_eq_true c),y5 (by omega) (by simp only[List.length_cons,List.length_nil];omega),d3s,l6]
   refine⟨_,rfl,rfl,?_⟩;rw[List.filter_cons,if_pos (decide_eq_true c)];simp[a6a]
  ·rw[if_neg (λq=>c (of_decide_eq_true q)),l6];refine⟨_,rfl,rfl,?_⟩;rw[List.filter_cons,if_neg (λq=>c (of_decide_eq_true q))];simp[a6a]
 ·rintro⟨b1,b2⟩ ⟨rfl,rfl⟩;refine⟨_,if_neg (by simp),?_⟩
  dsimp only;rw[List.take_length,c3m,←c6e]
theorem d0Y(c:e6)(ds:List Int)(hd:ds.length≤1000):((u6 ((wcR c).Intact==true) 0 (a3D ds (wcR c).Target)).bind λv=>some ((wcR c).Intact&&decide (v > 0)))=some (a3l ds c):=by
 unfold a3l wcR;dsimp only;cases hI:c.Intact;·rfl
 ·simp only[beq_self_eq_true,a0L];rw[a9L _ _ (by omega),d3s]
  congr 1;rw[Bool.true_and,Bool.true_and,Bool.eq_iff_iff];simp only[decide_eq_true_iff,Bool.and_eq_true,bne_iff_ne];have:=a1S (l:=ds) (h:=c.Target);constructor
  ·intro q;exact this.1 (by omega)
  ·intro q;have:=this.2 q;omega
theorem c6d(l:List e6)(ds:List Int)(hl:l.length≤1000)(hd:ds.length≤1000):b1z (l.map wcR) ds=some ((clr l ds).map wcR,a6a (cls l ds)):=by
 unfold b1z;simp only[jn,List.length_map];refine M1 l.length (λk (b:List F4 × List Int)=>b.1=((clr l ds).take k).map wcR∧b.2=a6a ((List.range k).filter λw=>a3l ds (l.getD w cz)&&decide (0≤(l.getD w cz).Call))) (by omega) ⟨by simp,by simp[a6a]⟩ ?_ ?_
 ·rintro k ⟨b1,b2⟩ hk ⟨rfl,rfl⟩;left;have hk2:k<(clr l ds).length:=by simp[clr];exact hk
  have e1:ix (l.map wcR) (k:Int)=some (wcR l[k]):=by rw[a0V,o5 hk];rfl
  have hle:(a6a ((List.range k).filter λw=>a3l ds (l.getD w cz)&&decide (0≤(l.getD w cz).Call))).length≤1000:=by
   rw[a5k];exact Nat.le_trans (List.length_filter_le ..) (by simp;omega)
  dsimp only;simp only[Int.ofNat_lt,hk,decide_true,if_true,e1,d3s];obtain⟨v,hv,hv2⟩:=a8X (d0Y l[k] ds hd);rw[hv,d3s];have hv2:=Option.some.inj hv2;rw[hv2,K8 hk2,List.map_append,List.range_succ,List.filter_append];have ec:(clr l ds)[k]=a7e ds l[k]:=List.getElem_map _;have lc:(List.map wcR (List.take k (clr l ds))).length≤1000:=by simp[clr];omega
  rw[ec];unfold a7e;by_cases c:a3l ds l[k]=true
  ·rw[if_pos c,if_pos c];by_cases c2:0≤l[k].Call
   ·rw[if_pos (by simpa[wcR] using c2),y5 (by omega) (by simp only[List.length_cons,List.length_nil];omega),d3s,y5 (by omega) (by simp only[List.length_cons,List.length_nil];omega),d3s,l6]
    refine⟨_,rfl,rfl,?_⟩;simp only[List.filter_cons,List.filter_nil,a0U hk,c,c2,decide_true,Bool.and_self,if_true];simp[a6a]
   ·rw[if_neg (by simpa[wcR] using c2),y5 (by omega) (by simp only[List.length_cons,List.length_nil];omega),d3s,l6]
    refine⟨_,rfl,rfl,?_⟩;simp only[List.filter_cons,List.filter_nil,a0U hk,c,c2,decide_false,Bool.and_false,Bool.false_eq_true,if_false,List.append_nil]
  ·rw[if_neg c,if_neg c,y5 (by omega) (by simp only[List.length_cons,List.length_nil];omega),d3s,l6]
   refine⟨_,rfl,rfl,?_⟩;have c:a3l ds l[k]=false:=by simpa using c
   simp only[List.filter_cons,List.filter_nil,a0U hk,c,Bool.false_and,Bool.false_eq_true,if_false,List.append_nil]
 ·rintro⟨b1,b2⟩ ⟨rfl,rfl⟩;refine⟨_,if_neg (by simp),?_⟩
  dsimp only;rw[List.take_of_length_le (by simp[clr])]
  rfl
end Go.Sh
namespace Go.Sh
def clH(x:Hp)(ds:List Int):Hp:=⟨x.S,x.Roots,clr x.a8 ds,x.T,⟨x.Q.L++clt x.a8 ds,x.Q.Cap⟩⟩
theorem a2s(l:List e6)(ds:List Int):(clt l ds).length=(cls l ds).length:=List.length_map ..
theorem c3o{l:List e6}{ds:List Int}{w:Nat}(h:w∈cls l ds):w<l.length:=by
 unfold cls at h;rw[List.mem_filter,List.mem_range] at h;exact h.1
theorem c3p{l:List e6}{ds:List Int}{k:Nat}(h:k<(clt l ds).length):(clt l ds)[k]=⟨2,(((cls l ds)[k]'(by rw[←a2s];exact h):Nat):Int),(l.getD ((cls l ds)[k]'(by rw[←a2s];exact h)) cz).Call⟩:=List.getElem_map _
theorem b7A{l:List e6}{ds:List Int}{w:Nat}(h:w<l.length):ix (clr l ds) (w:Int)=some (a7e ds l[w]):=by
 unfold clr;rw[a0V,o5 h];rfl
section
variable{x:Hp}{ds:List Int}(hc:x.a8.length≤6)(hd:ds.length≤1000)(hq:(x.Q.L++clt x.a8 ds).length≤30)(hcap:x.Q.Cap=30)
include hc hd hq hcap
theorem b4V{k:Nat}(hk:k<(clt x.a8 ds).length):tad ⟨x.Q.L++(clt x.a8 ds).take k,x.Q.Cap⟩ (clt x.a8 ds)[k]=(⟨x.Q.L++(clt x.a8 ds).take (k+1),x.Q.Cap⟩,0):=by
 rw[List.length_append] at hq;unfold tad;rw[if_neg (by dsimp only;rw[List.length_append,List.length_take,hcap];omega),K8 hk,List.append_assoc]
theorem b9f:a1P x ds=some (clH x ds):=by
 unfold a1P;rw[c3l _ _ (by omega) hd,d3s]
 dsimp only;simp only[jn,a5k];have hq2:=hq;rw[List.length_append] at hq2;refine M1 (cls x.a8 ds).length (λk (q:TQ)=>q=⟨x.Q.L++(clt x.a8 ds).take k,x.Q.Cap⟩) (by rw[←a2s];omega) (by simp) ?_ ?_
 ·rintro k q hk rfl;left;have hw:=c3o (List.getElem_mem hk);have hk2:k<(clt x.a8 ds).length:=by rw[a2s];exact hk
  simp only[Int.ofNat_lt,hk,decide_true,if_true,b6k hk,d3s,b7A hw];have et:(⟨2,(((cls x.a8 ds)[k]:Nat):Int),(a7e ds x.a8[(cls x.a8 ds)[k]]).Call⟩:k9)=(clt x.a8 ds)[k]:=by
   rw[c3p,(b5P ds _).2.1,a0U hw]
  rw[et,c8e _ (by dsimp only;rw[List.length_append,List.length_take];omega),b4V hc hd hq hcap hk2,d3s,l6 (by rw[←a2s] at hk;omega)]
  exact⟨_,rfl,rfl⟩
 ·rintro q rfl;refine⟨_,if_neg (by simp),?_⟩
  rw[←a2s,List.take_length];rfl
theorem c8F{K:C9→Option g6}:((lp (S:=Int × C9) (E:=C9) (λ((s68,s69):Int × C9)=>
   if (decide (s68<((a6a (cls x.a8 ds)).length:Int))) then
    (ix (a6a (cls x.a8 ds)) s68).bind λv72=>
    (ix ((clr x.a8 ds).map wcR) v72).bind λv73=>
    (a6o s69 (⟨2,v72,v73.Call⟩:P4)).bind λv74=>
    some (.inl (p7 (s68+1),v74.1))
   else
   some (.inr s69)) (0,tqR x.Q)).bind K)=K (tqR (clH x ds).Q):=by
 have hq2:=hq;rw[List.length_append] at hq2;have key:=a26 (f:=λ((s68,s69):Int × C9)=>
   if (decide (s68<((a6a (cls x.a8 ds)).length:Int))) then
    (ix (a6a (cls x.a8 ds)) s68).bind λv72=>
    (ix ((clr x.a8 ds).map wcR) v72).bind λv73=>
    (a6o s69 (⟨2,v72,v73.Call⟩:P4)).bind λv74=>
    some (Sum.inl (p7 (s68+1),v74.1))
   else
   some (.inr s69)) (t0:=tqR x.Q) (cls x.a8 ds).length (λk (q:C9)=>q=tqR ⟨x.Q.L++(clt x.a8 ds).take k,x.Q.Cap⟩) (λq=>q=tqR (clH x ds).Q) (by rw[←a2s];omega) (by simp) ?_ ?_
 ·obtain⟨e,h1,h2⟩:=key;rw[h1,d3s,h2]
 ·rintro k q hk rfl;left;have hw:=c3o (List.getElem_mem hk);have hk2:k<(clt x.a8 ds).length:=by rw[a2s];exact hk
  have ei:ix ((clr x.a8 ds).map wcR) (((cls x.a8 ds)[k]:Nat):Int)=some (wcR (a7e ds x.a8[(cls x.a8 ds)[k]])):=by rw[a0V,b7A hw];rfl
  simp only[a5k,Int.ofNat_lt,hk,decide_true,if_true,b6k hk,d3s,ei];have et:(⟨2,(((cls x.a8 ds)[k]:Nat):Int),(wcR (a7e ds x.a8[(cls x.a8 ds)[k]])).Call⟩:P4)=tkR (clt x.a8 ds)[k]:=by
   rw[c3p,a0U hw];show (⟨2,_,(a7e ds x.a8[(cls x.a8 ds)[k]]).Call⟩:P4)=_;rw[(b5P ds _).2.1];rfl
  rw[et,c8a _ (by dsimp only;rw[List.length_append,List.length_take];omega),b4V hc hd hq hcap hk2,d3s,l6 (by rw[←a2s] at hk;omega)]
  exact⟨_,rfl,rfl⟩
 ·rintro q rfl;refine⟨_,if_neg (by rw[a5k];simp),?_⟩
  rw[←a2s,List.take_length];rfl
end
theorem b1M(s:a7)(i:Nat)(c d:b7):F2 (F2 s i c) i d=F2 s i d:=by
 unfold F2;dsimp only;rw[List.set_set]
section
variable{s:a7}(hR:SR s){d:Int}(hd:d∈lv s)
include hR hd
def k1(s:a7)(d:Int):a7:=F2 s (B5 d) ⟨1,(ce s (B5 d)).Gen,ded (ob s d)⟩
def k2(s:a7)(d:Int):a7:=F2 s (B5 d) ⟨2,(ce s (B5 d)).Gen,ded (ob s d)⟩
theorem b5W:OkO s (ded (ob s d)):=by
 have ho:=I2 hR hd;exact⟨ho.s1,ho.s2,Int.le_refl _,ho.wk,ho.p1,ho.p2,Nat.zero_le _⟩
theorem b9B:seO s d (ded (ob s d))=k1 s d:=by
 have q:=x6 hR hd;unfold seO a1J k1 F2;rw[q.2.1]
theorem c7Y:At (k1 s d) d (B5 d):=by
 have q:=x6 hR hd;refine⟨by unfold k1;rw[V5];exact q.1,?_,?_⟩
 ·unfold k1;rw[I8 q.1,if_pos rfl]
 ·unfold k1;rw[I8 q.1,if_pos rfl];exact q.2.2
theorem c7Z:SR (k1 s d):=by rw[←b9B hR hd];exact a0C (o:=ded (ob s d)) hR hd rfl (b5W hR hd)
theorem c72:SR (k2 s d):=by
 have q:=x6 hR hd;have hc:=hR.cell _ q.1;unfold k2;refine hR.F2 q.1 ⟨by simp,by simp,hc.2.2.1,hc.2.2.2⟩ (λq=>absurd (.inr rfl) q) (λ_=>⟨b5W hR hd,.inl q.2.1,?_⟩)
 show (ob s d).Serial=_;rw[N2 hR q]
theorem c70:V6 (k2 s d) d (B5 d):=by
 have q:=x6 hR hd;refine⟨by unfold k2;rw[V5];exact q.1,?_,?_⟩
 ·unfold k2;rw[I8 q.1,if_pos rfl];exact .inr rfl
 ·unfold k2;rw[I8 q.1,if_pos rfl];exact q.2.2
theorem c6y:R1 (k1 s d).S d=some ((k2 s d).S,0):=by
 have q:=x6 hR hd;have hR1:=c7Z hR hd;have q1:=c7Y hR hd;have hr:=F7 hR hd;have hlen:=hR1.len;have hH:Hnd d:=((a9t hR1).2 q1.d).2.1;have hsl:(d-1) % 32=(B5 d:Nat):=((a9t hR1).2 q1.d).2.2.1;have hg:(d-1) / 32=(ce s (B5 d)).Gen:=by
  have:=q.2.2;have h24:=hR.len;have:=q.1;omega
 unfold R1 C1;rw[a5Q hR1 q1.d,d3s,if_neg (by simp),b7S q1.1,d3s,q1.2.1,if_neg (by simp),d3s,if_neg (by simp),a3S (by omega),d3s,if_pos hH,hsl,a4Y (by omega),d3s,if_pos hH,hg,a5I rfl q1.1 hlen,d3s]
 have e:(ce (k1 s d) (B5 d)).Val=ded (ob s d):=by unfold k1;rw[I8 q.1,if_pos rfl]
 rw[e];congr 2;show (F2 (k1 s d) (B5 d) _).S=(k2 s d).S;unfold k1 k2;rw[b1M]
theorem c7T(hw:(ob s d).Weak=0):gvA (k2 s d) (B5 d)=gnA s d:=by
 have q:=x6 hR hd;have e:ce (k2 s d) (B5 d)=⟨2,(ce s (B5 d)).Gen,ded (ob s d)⟩:=by unfold k2;rw[I8 q.1,if_pos rfl]
 unfold gvA gnA gnC;rw[e];rw[N2 hR q] at hw;rw[if_pos hw];unfold k2;rw[b1M];rfl
theorem c71(hw:(ob s d).Weak≠0):k2 s d=gnA s d:=by
 have q:=x6 hR hd;unfold k2 gnA gnC;rw[N2 hR q] at hw ⊢;rw[if_neg hw]
end
theorem c19{x:Hp}(hR:SR x.S){d:Int}(hd:d∈lv x.S):W3 x d=some (wS x (gnA x.S d)):=by
 unfold W3;rw[b1k hR hd,d3s];have e1:I4 x.S d (⟨(ob x.S d).Serial,0,(ob x.S d).Weak,(ob x.S d).Prog,(ob x.S d).Started,[]⟩:m7)=some (k1 x.S d,0):=by
  rw[←b9B hR hd];exact b0O (o:=ded (ob x.S d)) hR hd rfl (b5W hR hd)
 rw[e1,d3s,c6y hR hd,d3s];by_cases hw:(ob x.S d).Weak=0
 ·rw[if_pos (by simpa using hw),c0N (c72 hR hd) (c70 hR hd),d3s,c7T hR hd hw]
  rfl
 ·rw[if_neg (by simpa using hw)]
  show some (wS x (k2 x.S d))=_;rw[c71 hR hd hw]
theorem c9k{s:a7}(hR:SR s){d:Int}(hd:d∈lv s):b3L (sO (k1 s d)) d=some (sO (k2 s d)):=by
 have q:=x6 hR hd;have hR1:=c7Z hR hd;have q1:=c7Y hR hd;have hlen:=hR1.len;have hr:=F7 hR hd;have hi:=q1.1;have hi2:B5 d<(sO (k1 s d)).a8.length:=by rw[A7];exact hi
 have J5:B5 d<(pl (sO (k1 s d))).a8.length:=by rw[a06];exact hi2
 have hlen2:(sO (k1 s d)).a8.length≤24:=by rw[A7];exact hlen
 unfold b3L b8k b2K;rw[a3p _ (by omega),d3s,b1g (k1 s d) (by omega),a5Q hR1 q1.d,d3s,if_neg (by simp),b8c hi2,d3s]
 have hst:(plc (B5 d) (sO (k1 s d)).a8[B5 d]).State=1:=by
  have:=q1.2.1;rw[D3 hi] at this;simpa[plc,sO,cO] using this
 have hgen:(plc (B5 d) (sO (k1 s d)).a8[B5 d]).Gen=(ce s (B5 d)).Gen:=by
  have:(ce (k1 s d) (B5 d)).Gen=(ce s (B5 d)).Gen:=by unfold k1;rw[I8 q.1,if_pos rfl]
  rw[D3 hi] at this;simpa[plc,sO,cO] using this
 rw[hst,if_neg (by simp),d3s,if_neg (by simp),d3s]
 dsimp only;rw[b8c hi2,d3s];have w3:∀c:L2,a0O (pl (sO (k1 s d))) ((B5 d:Nat):Int) c=some ⟨(pl (sO (k1 s d))).a8.set (B5 d) c,(pl (sO (k1 s d))).Last⟩:=λc=>by
  unfold a0O;rw[K6 (by omega) (by rw[a06];omega),d3s,o5 J5,d3s,Int.toNat_natCast]
 rw[w3,d3s,d3s,b4e _ _ (by omega) (by simp[a06]),d3s,hgen]
 unfold k2;rw[←b1M s (B5 d) ⟨1,(ce s (B5 d)).Gen,ded (ob s d)⟩,c1v];show some _=some (⟨(sO (k1 s d)).a8.set (B5 d) _,_,_⟩:o7);congr 1;congr 1;refine List.ext_getElem (by simp) λk h1 h2=>?_
 have hk:k<(k1 s d).S.a8.length:=by simpa[A7] using h1
 have hk2:k<(sO (k1 s d)).a8.length:=by rw[A7];exact hk
 have hk3:k<(pl (sO (k1 s d))).a8.length:=by rw[a06];exact hk2
 simp only[List.getElem_map,List.getElem_range,List.getElem_set];rw[a5g J5,a0U hk2,a0U hk3];by_cases e:k=B5 d
 ·subst e;rw[if_pos rfl,if_pos rfl];have e2:(sO (k1 s d)).a8[B5 d].Val=oo (ded (ob s d)):=by
   have:(ce (k1 s d) (B5 d)).Val=ded (ob s d):=by unfold k1;rw[I8 q.1,if_pos rfl]
   rw[←this,D3 hi];simp[sO,cO]
  rw[e2];rfl
 ·rw[if_neg e,if_neg (Ne.symm e)];simp[sO,pl,plc,cO]
theorem c87{x:Hp}(hR:SR x.S){d:Int}(hd:d∈lv x.S):a7F (hO x) d=some (hO (wS x (gnA x.S d))):=by
 unfold a7F;rw[show (hO x).S=sO x.S from rfl,b0b hR hd,d3s];have e1:M4 (sO x.S) d (⟨(oo (ob x.S d)).Serial,0,(oo (ob x.S d)).Weak,(oo (ob x.S d)).Prog,(oo (ob x.S d)).Started,[]⟩:M3)=some (sO (k1 x.S d),0):=by
  rw[←b9B hR hd];exact b0P (o:=ded (ob x.S d)) hR hd rfl (b5W hR hd)
 rw[e1,d3s,c9k hR hd,d3s];by_cases hw:(ob x.S d).Weak=0
 ·rw[if_pos (by simpa[oo] using hw),c3Q (c72 hR hd) (c70 hR hd),d3s,c7T hR hd hw]
  rfl
 ·rw[if_neg (by simpa[oo] using hw)]
  show some (hO (wS x (k2 x.S d)))=_;rw[c71 hR hd hw]
end Go.Sh
namespace Go.Sh
theorem c1o:∀(l:List Int) {x:Hp},SR x.S→SR (l.foldl O5 x).S
 | [],x,h=>h
 | v::l,x,h=>c1o l (x:=O5 x v) (b9Y h v)
theorem b6P:∀(l:List Int) {x:Hp},SR x.S→SL x→SL (l.foldl O5 x)
 | [],x,_,h=>h
 | v::l,x,hR,h=>b6P l (x:=O5 x v) (b9Y hR v) (h.rls hR v)
theorem c2l(l:List Int){k:Nat}(hk:k<l.length)(x:Hp):(l.take (k+1)).foldl O5 x=O5 ((l.take k).foldl O5 x) l[k]:=by
 rw[K8 hk,List.foldl_append];rfl
theorem b6M{y:Hp}(hR:SR y.S)(l:List Int)(hl:l.length≤1000000)(hb:∀v∈l,v≤9223372036854775807){K:Hp→Option Hp}:((lp (S:=Int × b6) (E:=b6) (λ((s35,s36):Int × b6)=>
     if (decide (s35<(l.length:Int))) then
      (ix l s35).bind λv39=>
      (B1 s36 v39).bind λv40=>
      some (.inl (p7 (s35+1),v40))
     else
     some (.inr s36)) (0,y)).bind K)=K (l.foldl O5 y):=by
 have key:=E5 l O5 id (λk z=>SR z.S) (b0:=y) (f:=λ((s35,s36):Int × b6)=>
     if (decide (s35<(l.length:Int))) then
      (ix l s35).bind λv39=>
      (B1 s36 v39).bind λv40=>
      some (Sum.inl (p7 (s35+1),v40))
     else
     some (.inr s36)) (by omega) hR (λk hk z hz=>?_) (λz hz=>by simp)
 ·rw[key,d3s];rfl
 ·simp only[Int.ofNat_lt,hk,decide_true,if_true,o5 hk,d3s,a2m hz (hb _ (List.getElem_mem hk))];rw[l6];exact⟨rfl,b9Y hz _⟩
theorem b3W{y:Hp}(hR:SR y.S)(l:List Int)(hl:l.length≤1000000)(hb:∀v∈l,v≤9223372036854775807){K:g6→Option g6}:((lp (S:=Int × g6) (E:=g6) (λ((s45,s46):Int × g6)=>
      if (decide (s45<(l.length:Int))) then
       (ix l s45).bind λv49=>
       (D8 s46 v49).bind λv50=>
       some (.inl (p7 (s45+1),v50))
      else
      some (.inr s46)) (0,hO y)).bind K)=K (hO (l.foldl O5 y)):=by
 have key:=a26 (f:=λ((s45,s46):Int × g6)=>
      if (decide (s45<(l.length:Int))) then
       (ix l s45).bind λv49=>
       (D8 s46 v49).bind λv50=>
       some (Sum.inl (p7 (s45+1),v50))
      else
      some (.inr s46)) (t0:=hO y) l.length (λk z=>z=hO ((l.take k).foldl O5 y)) (λz=>z=hO (l.foldl O5 y)) (by omega) rfl ?_ ?_
 ·obtain⟨e,h1,h2⟩:=key;rw[h1,d3s,h2]
 ·rintro k z hk rfl;left;have hz:=c1o (l.take k) hR;simp only[Int.ofNat_lt,hk,decide_true,if_true,o5 hk,d3s,a3G hz (hb _ (List.getElem_mem hk))];rw[l6,←c2l l hk];exact⟨_,rfl,rfl⟩
 ·rintro z rfl;exact⟨_,if_neg (by simp),by rw[List.take_length]⟩
theorem b7M(s:a7)(ds:List Int){k:Nat}(hk:k<ds.length):gnL s (ds.take (k+1))=gnA (gnL s (ds.take k)) ds[k]:=by
 unfold gnL;rw[K8 hk,List.foldl_append];rfl
section
variable{y:Hp}(hR:SR y.S){ds:List Int}(hn:ds.Nodup)(hm:∀d∈ds,d∈lv y.S)
include hR hn hm
theorem b3t{k:Nat}(hk:k<ds.length):SR (gnL y.S (ds.take k))∧ds[k]∈lv (gnL y.S (ds.take k)):=by
 have g:=a1y (ds.take k) hR ((List.take_sublist k ds).nodup hn) λd hd=>hm d (List.mem_of_mem_take hd);refine⟨g.sr,?_⟩;rw[g.lv,List.mem_filter,decide_eq_true_iff];refine⟨hm _ (List.getElem_mem hk),λq=>?_⟩;rw[←List.take_append_drop k ds,List.nodup_append] at hn;exact hn.2.2 _ q ds[k] (by rw[List.drop_eq_getElem_cons hk];exact List.mem_cons_self ..) rfl
theorem c18(hl:ds.length≤1000){K:Hp→Option Hp}:((lp (S:=Int × b6) (E:=b6) (λ((s42,s43):Int × b6)=>
    if (decide (s42<(ds.length:Int))) then
     (ix ds s42).bind λv46=>
     (W3 s43 v46).bind λv47=>
     some (.inl (p7 (s42+1),v47))
    else
    some (.inr s43)) (0,y)).bind K)=K (wS y (gnL y.S ds)):=by
 have key:=a26 (f:=λ((s42,s43):Int × b6)=>
    if (decide (s42<(ds.length:Int))) then
     (ix ds s42).bind λv46=>
     (W3 s43 v46).bind λv47=>
     some (Sum.inl (p7 (s42+1),v47))
    else
    some (.inr s43)) (t0:=y) ds.length (λk z=>z=wS y (gnL y.S (ds.take k))) (λz=>z=wS y (gnL y.S ds)) (by omega) rfl ?_ ?_
 ·obtain⟨e,h1,h2⟩:=key;rw[h1,d3s,h2]
 ·rintro k z hk rfl;left;obtain⟨h1,h2⟩:=b3t hR hn hm hk;simp only[Int.ofNat_lt,hk,decide_true,if_true,o5 hk,d3s,c19 (x:=wS y (gnL y.S (ds.take k))) h1 h2];rw[l6,b7M _ _ hk];exact⟨_,rfl,rfl⟩
 ·rintro z rfl;exact⟨_,if_neg (by simp),by rw[List.take_length]⟩
theorem b7V(hl:ds.length≤1000){K:g6→Option g6}:((lp (S:=Int × g6) (E:=g6) (λ((s52,s53):Int × g6)=>
     if (decide (s52<(ds.length:Int))) then
      (ix ds s52).bind λv56=>
      (a7F s53 v56).bind λv57=>
      some (.inl (p7 (s52+1),v57))
     else
     some (.inr s53)) (0,hO y)).bind K)=K (hO (wS y (gnL y.S ds))):=by
 have key:=a26 (f:=λ((s52,s53):Int × g6)=>
     if (decide (s52<(ds.length:Int))) then
      (ix ds s52).bind λv56=>
      (a7F s53 v56).bind λv57=>
      some (Sum.inl (p7 (s52+1),v57))
     else
     some (.inr s53)) (t0:=hO y) ds.length (λk z=>z=hO (wS y (gnL y.S (ds.take k)))) (λz=>z=hO (wS y (gnL y.S ds))) (by omega) rfl ?_ ?_
 ·obtain⟨e,h1,h2⟩:=key;rw[h1,d3s,h2]
 ·rintro k z hk rfl;left;obtain⟨h1,h2⟩:=b3t hR hn hm hk;simp only[Int.ofNat_lt,hk,decide_true,if_true,o5 hk,d3s,c87 (x:=wS y (gnL y.S (ds.take k))) h1 h2];rw[l6,b7M _ _ hk];exact⟨_,rfl,rfl⟩
 ·rintro z rfl;exact⟨_,if_neg (by simp),by rw[List.take_length]⟩
end
section
variable{x:Hp}(hx:L5 x){ds:List Int}(hn:ds.Nodup)(hm:∀d∈ds,d∈lv x.S)
include hx hn hm
theorem b5Y:ds.length≤24:=Nat.le_trans (a3X hn hm) (E1 (r7.2 hx.sh.sr))
theorem b54{d:Int}(hd:d∈lv x.S):(ob x.S d).Fields.length≤4:=(I2 hx.sh.sr hd).fl
theorem b6u{d:Int}(hd:d∈lv x.S):(outs x.S d).length≤4:=Nat.le_trans (c4m _) (b54 hx hn hm hd)
theorem a8c:∀(l:List Int),(∀d∈l,d∈lv x.S)→(l.flatMap (outs x.S)).length≤4*l.length
 | [],_=>by simp
 | d::l,h=>by
  rw[List.flatMap_cons,List.length_append,List.length_cons];have:=a8c l λe he=>h e (List.mem_cons_of_mem _ he);have:=b6u hx hn hm (h d (List.mem_cons_self ..));omega
theorem c06:∀v∈ds.flatMap (outs x.S)++(wot x.T ds).2,v≤9223372036854775807:=λv hv=>by
 rcases List.mem_append.1 hv with q | q
 ·obtain⟨d,hd,q⟩:=List.mem_flatMap.1 q;obtain⟨q,_⟩:=a6f.1 q;rcases hx.sh.fl d (hm d hd) v q with e | e
  ·omega
  ·exact a1E hx.sh.sr e
 ·by_cases h0:v=0
  ·omega
  ·have hl:=b5Y hx hn hm;have h3:=(a4e hx.sh.hr ds (by omega)).2.2.2.2.2 v
   have h4:=a1S.2 ⟨h0,q⟩;have h5:0<own x.T v:=by omega
   obtain⟨p,hp,hq⟩:=List.countP_pos_iff.1 h5;have hq:(v != 0&&p.Val==v)=true:=hq;rw[Bool.and_eq_true,beq_iff_eq] at hq;have:=(hx.sh.pr _ _ (a3o.1 hp)).2;rw[hq.2] at this;exact a1E hx.sh.sr this
theorem b79:(ds.flatMap (outs x.S)++(wot x.T ds).2).length≤200:=by
 have hl:=b5Y hx hn hm;have h1:=a8c hx hn hm ds hm;have h2:=(a4e hx.sh.hr ds (by omega)).2.2.1
 rw[List.length_append];omega
theorem c0C(hq:(x.Q.L++clt x.a8 ds).length≤30){l:List Int}(h1:T4 x l=some ds):Z8 x l=some (buH x ds):=by
 have hl:=b5Y hx hn hm;have hR:=hx.sh.sr;obtain⟨w1,w2,w3,w4,w5,w6⟩:=a4e hx.sh.hr ds (by omega)
 have ol:=b79 hx hn hm;have fl:=a8c hx hn hm ds hm;unfold Z8;rw[h1,d3s,b9f (by have:=hx.sh.c6;omega) (by omega) hq hx.sh.cap,d3s]
 simp only[jn];have key:=E5 ds (λb d=>b++outs x.S d) id (λk b=>b.length≤4*k) (b0:=[]) (f:=λ((s49,s50):Int × (List Int))=>
   if (decide (s49<(ds.length:Int))) then
    (ix ds s49).bind λv53=>
    (u9 (clH x ds).S v53).bind λv54=>
    (a3J v54.1.Fields).bind λv55=>
    (app 8 s50 v55).bind λv56=>
    some (Sum.inl (p7 (s49+1),v56))
   else
   some (.inr s50)) (by omega) (by simp) (λk hk b hb=>?_) (λb hb=>by simp)
 ·rw[key,d3s,a2c,List.nil_append];dsimp only[id];rw[show (clH x ds).T=x.T from rfl,w1,d3s];have ol2:=ol;rw[List.length_append] at ol2;rw[y5 (by omega) (by omega),d3s]
  have k1:=c18 (y:=⟨(clH x ds).S,(clH x ds).Roots,(clH x ds).a8,(wot x.T ds).1,(clH x ds).Q⟩) hR hn hm (by omega) (K:=λe=>(lp (S:=Int × b6) (E:=b6) (λ((s35,s36):Int × b6)=>
     if (decide (s35<((ds.flatMap (outs x.S)++(wot x.T ds).2).length:Int))) then
      (ix (ds.flatMap (outs x.S)++(wot x.T ds).2) s35).bind λv39=>
      (B1 s36 v39).bind λv40=>
      some (.inl (p7 (s35+1),v40))
     else
     some (.inr s36)) (0,e)).bind λe34=>some e34)
  refine Eq.trans k1 ?_;have g:=a1y ds hR hn hm;have k2:=b6M (y:=wS (⟨(clH x ds).S,(clH x ds).Roots,(clH x ds).a8,(wot x.T ds).1,(clH x ds).Q⟩:Hp) (gnL x.S ds)) g.sr _ (by omega) (c06 hx hn hm) (K:=λe34=>some e34)
  refine Eq.trans k2 ?_;rfl
 ·have hd:=hm _ (List.getElem_mem hk);have f4:=b54 hx hn hm hd;have o4:=b6u hx hn hm hd;simp only[Int.ofNat_lt,hk,decide_true,if_true,o5 hk,d3s,show (clH x ds).S=x.S from rfl,b1k hR hd,b74 _ (by omega:(ob x.S ds[k]).Fields.length≤1000000)]
  have e:nz (ob x.S ds[k]).Fields=outs x.S ds[k]:=rfl;rw[e,y5 (by omega) (by omega),d3s,l6]
  exact⟨rfl,by rw[List.length_append];omega⟩
theorem b4Y(hq:(x.Q.L++clt x.a8 ds).length≤30){l:List Int}(h1:b0G (hO x) l=some ds):a7E (hO x) l=some (hO (buH x ds)):=by
 have hl:=b5Y hx hn hm;have hR:=hx.sh.sr;obtain⟨w1,w2,w3,w4,w5,w6⟩:=a4e hx.sh.hr ds (by omega)
 have ol:=b79 hx hn hm;have fl:=a8c hx hn hm ds hm;have c6:=hx.sh.c6;unfold a7E;rw[h1,d3s,show (hO x).a8=x.a8.map wcR from rfl,c6d _ _ (by omega) (by omega),d3s]
 simp only[jn];rw[show (hO x).Q=tqR x.Q from rfl,c8F (by omega) (by omega) hq hx.sh.cap]
 have key:=E5 ds (λb d=>b++outs x.S d) id (λk b=>b.length≤4*k) (b0:=[]) (f:=λ((s59,s60):Int × (List Int))=>
    if (decide (s59<(ds.length:Int))) then
     (ix ds s59).bind λv63=>
     (F0 (hO x).S v63).bind λv64=>
     (a3B v64.1.Fields).bind λv65=>
     (app 8 s60 v65).bind λv66=>
     some (Sum.inl (p7 (s59+1),v66))
    else
    some (.inr s60)) (by omega) (by simp) (λk hk b hb=>?_) (λb hb=>by simp)
 ·rw[key,d3s,a2c,List.nil_append];dsimp only[id];rw[show (hO x).T=x.T.map J5 from rfl,w4,d3s];dsimp only;have ol2:=ol;rw[List.length_append] at ol2;rw[y5 (by omega) (by omega),d3s]
  have k1:=b7V (y:=⟨(clH x ds).S,(clH x ds).Roots,(clH x ds).a8,(wot x.T ds).1,(clH x ds).Q⟩) hR hn hm (by omega) (K:=λe=>(lp (S:=Int × g6) (E:=g6) (λ((s45,s46):Int × g6)=>
      if (decide (s45<((ds.flatMap (outs x.S)++(wot x.T ds).2).length:Int))) then
       (ix (ds.flatMap (outs x.S)++(wot x.T ds).2) s45).bind λv49=>
       (D8 s46 v49).bind λv50=>
       some (.inl (p7 (s45+1),v50))
      else
      some (.inr s46)) (0,e)).bind λe44=>some e44)
  refine Eq.trans k1 ?_;have g:=a1y ds hR hn hm;have k2:=b3W (y:=wS (⟨(clH x ds).S,(clH x ds).Roots,(clH x ds).a8,(wot x.T ds).1,(clH x ds).Q⟩:Hp) (gnL x.S ds)) g.sr _ (by omega) (c06 hx hn hm) (K:=λe44=>some e44)
  refine Eq.trans k2 ?_;rfl
 ·have hd:=hm _ (List.getElem_mem hk);have f4:=b54 hx hn hm hd;have o4:=b6u hx hn hm hd;simp only[Int.ofNat_lt,hk,decide_true,if_true,o5 hk,d3s,show (hO x).S=sO x.S from rfl,b0b hR hd];have e:a3B (oo (ob x.S ds[k])).Fields=some (outs x.S ds[k]):=b3A _ (by show (ob x.S ds[k]).Fields.length≤_;omega)
  rw[e,d3s,y5 (by omega) (by omega),d3s,l6]
  exact⟨rfl,by rw[List.length_append];omega⟩
end
end Go.Sh
namespace Go.Sh
theorem c6b{x:Hp}(hR:SR x.S)(hS:SL x){ds:List Int}(hn:ds.Nodup)(hm:∀d∈ds,d∈lv x.S)(t:Tb):SL (a4f x ds t):=λk hk=>by
 have g:=a1y ds hR hn hm;have hk:k∈lv (gnL x.S ds):=hk;rw[g.lv,List.mem_filter,decide_eq_true_iff] at hk;have e:ob (a4f x ds t).S k=ob x.S k:=g.ob k hk.1 hk.2;rw[e];exact hS k hk.1
theorem c3g{x:Hp}(hR:SR x.S)(hS:SL x){ds:List Int}(hn:ds.Nodup)(hm:∀d∈ds,d∈lv x.S):SL (buH x ds):=
 b6P _ (x:=a4f x ds (wot x.T ds).1) (a1y ds hR hn hm).sr (c6b hR hS hn hm _)
theorem c4S{x:Hp}(hR:SR x.S)(hS:SL x){h:Int}(hh:h∈lv x.S):SL (quH x h):=by
 have hok:=b61 hR hh;have r1:=a0C (o:=srt (ob x.S h)) hR hh rfl hok;refine SL.A9 (x:=⟨seO x.S h (srt (ob x.S h)),x.Roots,x.a8,x.T,⟨x.Q.L ++ [qtk x h],x.Q.Cap⟩⟩) (λk hk=>?_) r1 h;dsimp only at hk ⊢;rw[a3c (o:=srt (ob x.S h)) hR hh rfl hok] at hk;rw[a2o (o:=srt (ob x.S h)) hR hh rfl hok (a1E hR hk)];split;·exact hS h hh
 ·exact hS k hk
theorem d0k{x:Hp}(hx:L5 x)(hS:SL x):SL (stp x):=by
 cases h:zr x with
 | nil=>rw[a8C h];exact hS
 | cons z l=>
  have hz:=(a1b.1 (show z∈zr x by rw[h];exact List.mem_cons_self ..)).1
  rw[a4a h];split;·exact c4S hx.sh.sr hS hz
  ·exact c3g hx.sh.sr hS (by simp) (by simpa using hz)
theorem b62{x:Hp}(hx:L5 x)(hS:SL x)(n:Nat):SL (stN n x):=by
 induction n with
 | zero=>exact hS
 | succ n ih=>rw[a1R];exact d0k (a0q hx n) ih
theorem c1z{x:Hp}(hx:L5 x)(hS:SL x):SL (a1p x):=b62 hx hS 100
section
variable{x:Hp}(hx:L5 x)(hS:SL x)
include hx hS
theorem b5D{z:Int}(hz:z∈zr x):(x.Q.L++clt x.a8 [z]).length≤30:=by
 have h1:=(b4p hx hz).sh.q30;have hzl:=(a1b.1 hz).1;rw[(a9W hx.sh.sr (ds:=[z]) (by simp) (by simpa using hzl)).2.2.2] at h1
 exact h1
theorem c2o(h:zr x = []):((a1m x).bind λv4=>
  if ((v4.length:Int)==0) then
   some (Sum.inr x)
  else
  (ix v4 0).bind λv5=>
  (u9 x.S v5).bind λv6=>
  (K0 v6.1).bind λv7=>
  if v7 then
   (Q4 x v5).bind λv8=>
   some (.inl v8)
  else
  (cut v4 0 1).bind λv9=>
  (Z8 x v9).bind λv10=>
  some (Sum.inl (α:=Hp) (β:=Hp) v10))=some (.inr x):=by
 rw[zero_eq hx.sh.sr,d3s,h];rfl
theorem d0N(z:Int)(l:List Int):cut (z::l) 0 1=some [z]:=by
 unfold cut;rw[if_pos (by simp;omega)]
 simp
theorem b91(h:zr x ≠ []):((a1m x).bind λv4=>
  if ((v4.length:Int)==0) then
   some (Sum.inr x)
  else
  (ix v4 0).bind λv5=>
  (u9 x.S v5).bind λv6=>
  (K0 v6.1).bind λv7=>
  if v7 then
   (Q4 x v5).bind λv8=>
   some (.inl v8)
  else
  (cut v4 0 1).bind λv9=>
  (Z8 x v9).bind λv10=>
  some (Sum.inl (α:=Hp) (β:=Hp) v10))=some (.inl (stp x)):=by
 cases hz:zr x with
 | nil=>exact absurd hz h
 | cons z l=>
  have hzm:z∈zr x:=by rw[hz];exact List.mem_cons_self ..
  have hzl:=(a1b.1 hzm).1;have hR:=hx.sh.sr;rw[zero_eq hR,d3s,hz,if_neg (by simp;omega),show ix (z::l) 0=some z from rfl,d3s,b1k hR hzl,d3s,c08,d3s,a4a hz]
  by_cases hd:due (ob x.S z)=true
  ·rw[if_pos hd,if_pos hd,b5q hx hS (a1E hR hzl),d3s];unfold quD;rw[if_pos ⟨hzl,hd⟩]
  ·rw[if_neg hd,if_neg hd,d0N hx hS,d3s,c0C hx (ds:=[z]) (by simp) (by simpa using hzl) (b5D hx hS hzm) (by rw[b0p hR [z] (by simp) (by simpa using a1E hR hzl),b70 hzl]),d3s]
theorem a3H:M7 x=some (a1p x):=by
 obtain⟨n,hn,h1,h2,h3⟩:=b1N hx;unfold M7;refine S9 (λj=>stN j x) rfl n (λ_=>True) (by omega) trivial (λk hk _=>.inl ⟨?_,trivial⟩) (λ_=>⟨stN n x,?_,by rw[h3]⟩)
 ·have:=b91 (a0q hx k) (b62 hx hS k) (h2 k hk);rw[←a1R] at this;exact this
 ·exact c2o (a0q hx n) (b62 hx hS n) h1
theorem c7i{k:Nat}(hk:k<100)(h:zr x ≠ []){E:Type}{e:E}:((b0F (hO x)).bind λv35=>
     if ((v35.length:Int)==0) then
      some (Sum.inr e)
     else
     (ix v35 0).bind λv36=>
     (a8p (hO x) v36).bind λv37=>
     if v37 then
      (a30 (hO x) v36).bind λv38=>
      some (.inl (p7 ((k:Int)+1),v38))
     else
     (cut v35 0 1).bind λv39=>
     (a7E (hO x) v39).bind λv40=>
     some (Sum.inl (p7 ((k:Int)+1),v40)))=some (.inl (((k+1:Nat):Int),hO (stp x))):=by
 cases hz:zr x with
 | nil=>exact absurd hz h
 | cons z l=>
  have hzm:z∈zr x:=by rw[hz];exact List.mem_cons_self ..
  have hzl:=(a1b.1 hzm).1;have hR:=hx.sh.sr;rw[c5C hR,d3s,hz,if_neg (by simp;omega),show ix (z::l) 0=some z from rfl,d3s,c3w hx hS (a1E hR hzl),d3s,decide_eq_true hzl,Bool.true_and,a4a hz,l6]
  by_cases hd:due (ob x.S z)=true
  ·rw[if_pos hd,if_pos hd,b8i hx hS (a1E hR hzl),d3s];unfold quD;rw[if_pos ⟨hzl,hd⟩]
  ·rw[if_neg hd,if_neg hd,d0N hx hS,d3s,b4Y hx (ds:=[z]) (by simp) (by simpa using hzl) (b5D hx hS hzm) (by rw[c3x hR [z] (by simp) (by simpa using a1E hR hzl),b70 hzl]),d3s]
theorem a5A:N8 (hO x)=some (hO (a1p x)):=by
 obtain⟨n,hn,h1,h2,h3⟩:=b1N hx;unfold N8;simp only[jn];refine S9 (λj=>((j:Int),hO (stN j x))) (by rfl) n (λ_=>True) (by omega) trivial (λk hk _=>.inl ⟨?_,trivial⟩) (λ_=>⟨.inl (hO (stN n x)),?_,by rw[h3]⟩)
 ·dsimp only;rw[if_pos (by simp;omega)]
  have:=c7i (a0q hx k) (b62 hx hS k) (k:=k) (by omega) (h2 k hk) (e:=(Sum.inl (hO (stN k x)):g6 ⊕ g6))
  rw[←a1R] at this;exact this
 ·dsimp only;rw[if_pos (by simp;omega),c5C (a0q hx n).sh.sr,d3s,h1]
  rfl
end
end Go.Sh
namespace Go.Sh
def K3(n l m e:Int):Int:=if n<l∨n > m then e else 0
def a0t(a b c:Int):Int:=if a≠0 then a else if b≠0 then b else c
def z7(k a b c:Int):Int:=
 if k=1 then a0t (K3 a 0 5 6) (K3 b 0 4 1) (K3 c (-1) 5 13)
 else if k=2∨k=9∨k=10 then a0t (K3 a 0 5 6) (K3 b 0 5 6) 0
 else if k=3 then K3 a 0 5 6
 else if k=4 then a0t (K3 a 0 5 6) (K3 b 0 5 6) (K3 c 0 3 5)
 else if k=5 then a0t (K3 a 0 5 6) (K3 b 0 3 5) (K3 c (-1) 5 6)
 else if k=6 then a0t (K3 a 0 5 7) (K3 b (-1) 5 6) (K3 c (-1) 5 13)
 else if k=7 then a0t (K3 a 0 5 6) (K3 b 0 5 7) 0
 else if k=8 then a0t (K3 a 0 5 6) (K3 b (-1) 5 6) 0
 else if k=11 then 0
 else if k=12 then K3 a 0 200 12
 else 14
def b6K:g8:=⟨some 114,0,5,6⟩
def c7c:g8:=⟨some 115,0,5,6⟩
def d1g:g8:=⟨some 115,-1,5,6⟩
def d1o:g8:=⟨some 117,-1,5,13⟩
def b1Y:List (Int × List g8):=[(1,[b6K,⟨some 115,0,4,1⟩,d1o]),(2,[b6K,c7c]),(3,[b6K]),(4,[b6K,c7c,⟨some 117,0,3,5⟩]),
 (5,[b6K,⟨some 115,0,3,5⟩,⟨some 117,-1,5,6⟩]),(6,[⟨some 114,0,5,7⟩,d1g,d1o]),(7,[b6K,⟨some 115,0,5,7⟩]),(8,[b6K,d1g]),(9,[b6K,c7c]),(10,[b6K,c7c]),(11,[]),(12,[⟨some 114,0,200,12⟩])]
theorem b9g:a5U=some b1Y:=by kernel_rfl
def a2N(o:g9)(d:g8):Int:=if d.part=some 114 then o.A else if d.part=some 115 then o.B else o.C
def a8W(o:g9)(d:g8):Bool:=decide (a2N o d<d.least)||decide (a2N o d > d.most)
def a97(o:g9):List g8→Int ⊕ Unit
 | []=>.inr ()
 | d::ds=>if a8W o d then .inl d.e else a97 o ds
theorem b7J(o:g9)(d:g8)(ds:List g8):a97 o (d::ds)=if a8W o d then .inl d.e else a97 o ds:=rfl
def c0o(d:g8):Prop:=d.part=some 114∨d.part=some 115∨d.part=some 117
theorem c9O(o:g9){d:g8}(h:c0o d):a99 d.part o=some (a2N o d):=by
 unfold a2N;rcases h with h | h | h
 ·rw[h];rfl
 ·rw[h];rfl
 ·rw[h];rfl
theorem c9o(o:g9)(ds:List g8)(hl:ds.length≤10)(hp:∀d∈ds,c0o d):lp (S:=Int) (E:=Int ⊕ Unit) (λ(s11:Int)=>
   if (decide (s11<(ds.length:Int))) then
    (ix ds s11).bind λv13=>
    (a99 v13.part o).bind λv14=>
    if ((decide (v14<v13.least))||(decide (v14 > v13.most))) then
     some (.inr (.inl v13.e))
    else
    some (.inl (p7 (s11+1)))
   else
   some (.inr (.inr ()))) 0=some (a97 o ds):=by
 refine a4J (b7Z ds.length (λk=>a97 o ds=a97 o (ds.drop k)) (λe=>e=a97 o ds) (by omega) rfl (λk hk hP=>?_) (λhP=>?_))
 ·rw[if_pos (by simpa using hk),o5 hk,d3s,c9O o (hp _ (List.getElem_mem hk)),d3s]
  rw[List.drop_eq_getElem_cons hk,b7J] at hP;by_cases c:a8W o ds[k]=true
  ·rw[if_pos (show ((decide (a2N o ds[k]<ds[k].least))||(decide (a2N o ds[k] > ds[k].most)))=true from c)];rw[if_pos c] at hP;exact .inr ⟨_,rfl,hP.symm⟩
  ·rw[if_neg (show ¬((decide (a2N o ds[k]<ds[k].least))||(decide (a2N o ds[k] > ds[k].most)))=true from c),l6];rw[if_neg c] at hP;exact .inl ⟨rfl,hP⟩
 ·rw[List.drop_length] at hP;exact⟨_,if_neg (by simp),hP.symm⟩
theorem c6i:∀p∈b1Y,p.2.length≤10∧∀d∈p.2,c0o d:=by
 have:b1Y.all (λp=>decide (p.2.length≤10)&&p.2.all λd=>(d.part==some 114)||(d.part==some 115)||(d.part==some 117))=true:=by kernel_rfl
 intro p hp;have:=List.all_eq_true.1 this p hp;rw[Bool.and_eq_true,decide_eq_true_iff,List.all_eq_true] at this;refine⟨this.1,λd hd=>?_⟩;have:=this.2 d hd;simp only[Bool.or_eq_true,beq_iff_eq] at this;unfold c0o;rcases this with (h | h) | h
 ·exact .inl h
 ·exact .inr (.inl h)
 ·exact .inr (.inr h)
theorem c0Z{m:List (Int × List g8)}{k:Int}{v:List g8}(h:A1 m k=some v):(k,v)∈m:=by
 induction m with
 | nil=>cases h
 | cons p m ih=>
  unfold A1 at h;split at h
  ·rename_i c;have:k=p.1:=by simpa using c
   cases h;subst this;exact List.mem_cons_self ..
  ·exact List.mem_cons_of_mem _ (ih h)
def b0X(o:g9)(ds:List g8):Int:=match a97 o ds with
 | .inl e=>e
 | .inr _=>0
theorem c7C(o:g9):b0X o []=0:=rfl
theorem b0Y(o:g9)(d:g8)(ds:List g8):b0X o (d::ds)=if a8W o d then d.e else b0X o ds:=by
 unfold b0X;rw[b7J];cases a8W o d <;> rfl
theorem b6i(o:g9)(d:g8):K3 (a2N o d) d.least d.most d.e=if a8W o d then d.e else 0:=by
 unfold K3 a8W;by_cases h:a2N o d<d.least∨a2N o d > d.most
 ·rw[if_pos h,if_pos (by simpa using h)]
 ·rw[if_neg h,if_neg (by simpa using h)]
theorem c7A(o:g9)(d:g8):b0X o [d]=K3 (a2N o d) d.least d.most d.e:=by rw[b0Y,c7C,b6i]
theorem c5s(o:g9)(d e:g8)(h1:d.e≠0):b0X o [d,e]=a0t (K3 (a2N o d) d.least d.most d.e) (K3 (a2N o e) e.least e.most e.e) 0:=by
 rw[b0Y,c7A,b6i o d];unfold a0t;cases a8W o d
 ·simp only[Bool.false_eq_true,if_false,ne_eq,not_true_eq_false];split;·rfl
  ·rename_i h;simpa using h
 ·simp[h1]
theorem c7B(o:g9)(d e f:g8)(h1:d.e≠0)(h2:e.e≠0):b0X o [d,e,f]=a0t (K3 (a2N o d) d.least d.most d.e) (K3 (a2N o e) e.least e.most e.e) (K3 (a2N o f) f.least f.most f.e):=by
 rw[b0Y,b0Y,c7A,b6i o d,b6i o e];unfold a0t;cases a8W o d <;> cases a8W o e <;> simp[h1,h2]
theorem c33(o:g9):(match A1 b1Y o.Kind with
  | none=>14
  | some ds=>b0X o ds)=z7 o.Kind o.A o.B o.C:=by
 obtain⟨k,a,b,c⟩:=o;dsimp only;by_cases h:1≤k∧k≤12
 ·have:k=1∨k=2∨k=3∨k=4∨k=5∨k=6∨k=7∨k=8∨k=9∨k=10∨k=11∨k=12:=by omega
  rcases this with rfl | rfl | rfl | rfl | rfl | rfl | rfl | rfl | rfl | rfl | rfl | rfl
  ·exact c7B _ _ _ _ (by decide) (by decide)
  ·exact c5s _ _ _ (by decide)
  ·exact c7A _ _
  ·exact c7B _ _ _ _ (by decide) (by decide)
  ·exact c7B _ _ _ _ (by decide) (by decide)
  ·exact c7B _ _ _ _ (by decide) (by decide)
  ·exact c5s _ _ _ (by decide)
  ·exact c5s _ _ _ (by decide)
  ·exact c5s _ _ _ (by decide)
  ·exact c5s _ _ _ (by decide)
  ·rfl
  ·exact c7A _ _
 ·have e:A1 b1Y k=none:=by
   cases hm:A1 b1Y k with
   | none=>rfl
   | some v=>
    have:=c0Z hm;simp only[b1Y,List.mem_cons,Prod.mk.injEq,List.not_mem_nil,or_false] at this;omega
  rw[e];unfold z7;repeat rw[if_neg (by omega)]
theorem a7d(o:g9):P9 o=some (z7 o.Kind o.A o.B o.C):=by
 rw[←c33];unfold P9;rw[b9g,d3s];cases h:A1 b1Y o.Kind with
 | none=>rfl
 | some ds=>
  obtain⟨h1,h2⟩:=c6i _ (c0Z h);rw[if_neg (by simp)]
  simp only[jn,Option.getD_some];rw[c9o o ds h1 h2,d3s];unfold b0X;cases a97 o ds <;> rfl
theorem c6u(n l m e:Int):a09 n l m e=some (K3 n l m e):=by
 unfold a09 K3;by_cases h:n<l∨n > m
 ·rw[if_pos h,if_pos (by simpa using h)]
 ·rw[if_neg h,if_neg (by simpa using h)]
theorem c3N(a b c:Int):a0n a b c=some (a0t a b c):=by
 unfold a0n a0t;by_cases h:a=0
 ·by_cases g:b=0
  ·rw[if_neg (by simpa using h),if_neg (by simpa using g),if_neg (by simpa using h),if_neg (by simpa using g)]
  ·rw[if_neg (by simpa using h),if_pos (by simpa using g),if_neg (by simpa using h),if_pos (by simpa using g)]
 ·rw[if_pos (by simpa using h),if_pos (by simpa using h)]
theorem a4p(o:N9):a1k o=some (z7 o.Kind o.A o.B o.C):=by
 unfold a1k z7;simp only[c6u,c3N,d3s,jn];by_cases h:1≤o.Kind∧o.Kind≤12
 ·have:o.Kind=1∨o.Kind=2∨o.Kind=3∨o.Kind=4∨o.Kind=5∨o.Kind=6∨o.Kind=7∨o.Kind=8∨o.Kind=9∨o.Kind=10∨o.Kind=11∨o.Kind=12:=by omega
  rcases this with h | h | h | h | h | h | h | h | h | h | h | h <;> rw[h] <;> rfl
 ·have n:∀j:Int,1≤j→j≤12→(o.Kind==j)=false:=λj h1 h2=>by
   rw[beq_eq_false_iff_ne];omega
  simp only[n 1 (by omega) (by omega),n 2 (by omega) (by omega),n 3 (by omega) (by omega),n 4 (by omega) (by omega),n 5 (by omega) (by omega),n 6 (by omega) (by omega),n 7 (by omega) (by omega),n 8 (by omega) (by omega),n 9 (by omega) (by omega),n 10 (by omega) (by omega),n 11 (by omega) (by omega),n 12 (by omega) (by omega),Bool.false_eq_true,if_false]
  repeat rw[if_neg (by omega)]
end Go.Sh
namespace Go.Sh
end Go.Sh
namespace Go.Sh
end Go.Sh
namespace Go.Sh
end Go.Sh
namespace Go.Sh
def ooI(o:M3):m7:=⟨o.Serial,o.Strong,o.Weak,o.Prog,o.Started,o.Fields⟩
def sOI(s:o7):a7:=⟨⟨s.a8.map λc=>⟨c.State,c.Gen,ooI c.Val⟩,s.Last⟩,s.Serial⟩
def hOI(x:g6):Hp:=⟨sOI x.S,x.Roots,x.a8.map λc=>⟨c.Target,c.Intact,c.Call⟩,x.T.map λp=>⟨p.State,p.Key,p.Val⟩,⟨x.Q.L.map λt=>⟨t.Kind,t.At,t.Prog⟩,x.Q.Cap⟩⟩
theorem a4X(x:Hp):hOI (hO x)=x:=by
 obtain⟨⟨⟨cs,l⟩,n⟩,r,w,t,⟨q,c⟩⟩:=x;unfold hOI hO sOI sO tqR;dsimp only;have a1:(cs.map cO).map (λc=>(⟨c.State,c.Gen,ooI c.Val⟩:b7))=cs:=by
  rw[List.map_map];refine Eq.trans (List.map_congr_left λa _=>?_) (List.map_id cs);rfl
 have a2:(w.map wcR).map (λc=>(⟨c.Target,c.Intact,c.Call⟩:e6))=w:=by
  rw[List.map_map];refine Eq.trans (List.map_congr_left λa _=>?_) (List.map_id w);rfl
 have a3:(t.map J5).map (λp=>(⟨p.State,p.Key,p.Val⟩:b8))=t:=by
  rw[List.map_map];refine Eq.trans (List.map_congr_left λa _=>?_) (List.map_id t);rfl
 have a4:(q.map tkR).map (λt=>(⟨t.Kind,t.At,t.Prog⟩:k9))=q:=by
  rw[List.map_map];refine Eq.trans (List.map_congr_left λa _=>?_) (List.map_id q);rfl
 rw[a1,a2,a3,a4]
theorem c1q{x:Hp}(hx:L5 x){ds:List Int}:(x.Q.L++clt x.a8 ds).length≤30:=by
 have hS:=hx.sh;have c6:=hS.c6;have h24:(lv x.S).length≤24:=E1 (r7.2 hS.sr);have htd:(x.Q.L++clt x.a8 ds).Pairwise λa b=>¬(a.Kind=b.Kind∧a.At=b.At):=by
  rw[List.pairwise_append];refine⟨hS.td,b40 ..,λa ha b hb q=>?_⟩;obtain⟨w,hw,rfl,hh,_⟩:=a3n.1 hb;have hi:x.a8[w].Intact=true:=by
   unfold a3l at hh;rw[Bool.and_eq_true,Bool.and_eq_true] at hh;exact hh.1.1
  have:=((hS.cl w hw).2.2.2.2 hi).2;rw[Bool.eq_false_iff] at this;exact this (a4P.2 ⟨a,ha,q.1,q.2⟩)
 have:=b4a (m:=lv x.S) htd λt ht=>by
  rcases List.mem_append.1 ht with q | q
  ·rcases (hS.tk t q).2.2 with c | c
   ·exact .inl ⟨c.1,c.2.1⟩
   ·exact .inr c
  ·obtain⟨w,hw,rfl,_,_⟩:=a3n.1 q;exact .inr ⟨rfl,by dsimp only;omega,by dsimp only;omega⟩
 omega
section
variable{x:Hp}(hB:HB x)
include hB
end
end Go.Sh
namespace Go.Sh
structure Stl (x y:Hp):Prop where
 lv:∀h∈lv y.S,h∈lv x.S
 V4:y.S.Serial=x.S.Serial
 len:y.S.S.a8.length=x.S.S.a8.length
 ob:∀h∈Sh.lv y.S,(ob y.S h).Serial=(ob x.S h).Serial∧(Sh.ob y.S h).Prog=(Sh.ob x.S h).Prog∧(Sh.ob y.S h).Fields=(Sh.ob x.S h).Fields∧((Sh.ob x.S h).Started=true→(Sh.ob y.S h).Started=true)
 rt:y.Roots=x.Roots
 cn:y.a8.length=x.a8.length
 cl:∀i (h:i<y.a8.length) (h':i<x.a8.length),y.a8[i]=⟨x.a8[i].Target,x.a8[i].Intact&&decide (x.a8[i].Target∈Sh.lv y.S),x.a8[i].Call⟩
 q:∃l,y.Q=⟨x.Q.L++l,x.Q.Cap⟩∧(∀t∈l,t.Kind=1→t.At∈Sh.lv x.S∧(Sh.ob x.S t.At).Started=false)∧∀h∈Sh.lv y.S,(Sh.ob y.S h).Started=true→(Sh.ob x.S h).Started=false→∃t∈l,t.Kind=1∧t.At=h
 rc:∀h,a0E x.S x.T (otr x) h→a0E y.S y.T (otr y) h
 has:∀k v,Has y.T k v→Has x.T k v
theorem Stl.refl{x:Hp}(hx:HpS x):Stl x x:=by
 refine⟨λ_ h=>h,rfl,rfl,λh _=>⟨rfl,rfl,rfl,id⟩,rfl,rfl,λi h h'=>?_,⟨[],by simp,by simp,λh _ a b=>?_⟩,λ_ h=>h,λ_ _ h=>h⟩
 ·have:=(hx.cl i h).2.2.2.2;cases hI:x.a8[i].Intact;·rw[Bool.false_and,←hI]
  ·rw[decide_eq_true (this hI).1,Bool.and_self,←hI]
 ·rw[a] at b;cases b
theorem Stl.trans{x y z:Hp}(a:Stl x y)(b:Stl y z):Stl x z:=by
 obtain⟨l1,q1,q2,q3⟩:=a.q;obtain⟨l2,r1,r2,r3⟩:=b.q;refine⟨λh hh=>a.lv h (b.lv h hh),b.V4.trans a.V4,b.len.trans a.len,λh hh=>?_,b.rt.trans a.rt,b.cn.trans a.cn,λi h h'=>?_,⟨l1++l2,?_,λt ht hk=>?_,λh hh s1 s2=>?_⟩,λh hh=>b.rc h (a.rc h hh),λk v hh=>a.has k v (b.has k v hh)⟩
 ·obtain⟨b1,b2,b3,b4⟩:=b.ob h hh;obtain⟨a1,a2,a3,a4⟩:=a.ob h (b.lv h hh);exact⟨b1.trans a1,b2.trans a2,b3.trans a3,λq=>b4 (a4 q)⟩
 ·have hy:i<y.a8.length:=by rw[a.cn];exact h'
  rw[b.cl i h hy,a.cl i hy h'];dsimp only;congr 1;rw[Bool.and_assoc];congr 1;by_cases q:x.a8[i].Target∈Sh.lv z.S
  ·rw[decide_eq_true q,decide_eq_true (b.lv _ q)];rfl
  ·rw[decide_eq_false q,Bool.and_false]
 ·rw[r1,q1,List.append_assoc]
 ·rcases List.mem_append.1 ht with q | q
  ·exact q2 t q hk
  ·obtain⟨e1,e2⟩:=r2 t q hk;refine⟨a.lv _ e1,?_⟩;cases hs:(Sh.ob x.S t.At).Started;·rfl
   ·rw[(a.ob _ e1).2.2.2 hs] at e2;cases e2
 ·cases hs:(Sh.ob y.S h).Started
  ·obtain⟨t,ht,e⟩:=r3 h hh s1 hs;exact⟨t,List.mem_append_right _ ht,e⟩
  ·obtain⟨t,ht,e⟩:=q3 h (b.lv h hh) hs s2;exact⟨t,List.mem_append_left _ ht,e⟩
theorem c1w(s:a7)(h:Int)(o:m7):(seO s h o).S.a8.length=s.S.a8.length:=K7 ..
theorem c68{x:Hp}(hx:L5 x){z:Int}(hz:z∈lv x.S)(hs:(ob x.S z).Started=false):Stl x (quH x z):=by
 have hR:=hx.sh.sr;obtain⟨k,e1,e2,e3,e4⟩:=a6l hR hz;have l1:=b6B hR hz;have hob:∀h∈lv x.S,(ob (quH x z).S h).Serial=(ob x.S h).Serial∧(ob (quH x z).S h).Prog=(ob x.S h).Prog∧(ob (quH x z).S h).Fields=(ob x.S h).Fields∧((ob (quH x z).S h).Started=true↔(ob x.S h).Started=true∨h=z):=λh hh=>by
  obtain⟨n,e⟩:=b3H hR hz hh;rw[e];by_cases q:h=z
  ·subst q;rw[if_pos rfl];exact⟨rfl,rfl,rfl,by simp⟩
  ·rw[if_neg q];exact⟨rfl,rfl,rfl,by simp[q]⟩
 have hot:∀h∈otr x,h∈otr (quH x z):=λh hh=>by
  unfold otr at hh ⊢;rw[e1,e4];rcases List.mem_append.1 hh with q | q
  ·exact List.mem_append_left _ q
  ·refine List.mem_append_right _ ?_;obtain⟨t,ht,a,b⟩:=b0u.1 q;exact b0u.2 ⟨t,List.mem_append_left _ ht,a,b⟩
 have rf:=Stl.refl hx.sh;refine⟨λh hh=>by rw[l1] at hh;exact hh,k.V4,k.len.trans (c1w ..),λh hh=>?_,e1,by rw[e2],λi h h'=>?_,⟨[qtk x z],by rw[e4],λt ht hk=>?_,λh hh s1 s2=>?_⟩,λh hh=>?_,λk v hh=>by rw[e3] at hh;exact hh⟩
 ·rw[l1] at hh;obtain⟨a,b,c,d⟩:=hob h hh;exact⟨a,b,c,λq=>d.2 (.inl q)⟩
 ·have e5:(quH x z).a8[i]=x.a8[i]:=by simp only[e2]
  rw[e5,l1];exact rf.cl i h' h'
 ·rw[List.mem_singleton] at ht;subst ht;exact⟨hz,hs⟩
 ·rw[l1] at hh;rcases (hob h hh).2.2.2.1 s1 with q | q
  ·rw[q] at s2;cases s2
  ·exact⟨qtk x z,List.mem_singleton_self _,rfl,q.symm⟩
 ·induction hh with
  | base h1 h2=>exact .base (hot _ h1) (by rw[l1];exact h2)
  | step h0 h1 h2 ih=>
   refine .step ih ?_ (by rw[l1];exact h2)
   unfold outs at h1 ⊢;rw[(hob _ h0.live).2.2.1];exact h1
  | pair h1 h0 h2 ih=>exact .pair (by rw[e3];exact h1) ih (by rw[l1];exact h2)
theorem c6c{x:Hp}(hx:L5 x){z:Int}(hz:z∈zr x):Stl x (buH x [z]):=by
 have hR:=hx.sh.sr;have hzl:=(a1b.1 hz).1;have h0:z≠0:=λe=>a8M hR (e▸hzl);have hfree:=b7g hx hz;have hn:([z]:List Int).Nodup:=by simp
 have hm:∀d ∈ [z],d∈lv x.S:=by simpa using hzl
 have g:=a1y [z] hR hn hm;have k:=(a33 ([z].flatMap (outs x.S)++(wot x.T [z]).2) (x:=a4f x [z] (wot x.T [z]).1) g.sr).1;obtain⟨e1,e2,e3,e4⟩:=a9W hR hn hm;obtain⟨_,w2,_,_,w5,w6⟩:=a4e hx.sh.hr [z] (by simp)
 have l1:∀h,h∈lv (buH x [z]).S↔h∈lv x.S∧h≠z:=λh=>by
  rw[b9c hR hn hm,List.mem_filter,decide_eq_true_iff,List.mem_singleton]
 have hob:∀h∈lv (buH x [z]).S,(ob (buH x [z]).S h).Serial=(ob x.S h).Serial∧(ob (buH x [z]).S h).Prog=(ob x.S h).Prog∧(ob (buH x [z]).S h).Fields=(ob x.S h).Fields∧(ob (buH x [z]).S h).Started=(ob x.S h).Started:=λh hh=>by
  obtain⟨a,b⟩:=(l1 h).1 hh;obtain⟨n,e⟩:=b9d hR hn hm a (by simpa using b)
  rw[e];exact⟨rfl,rfl,rfl,rfl⟩
 refine⟨λh hh=>((l1 h).1 hh).1,k.V4.trans g.V4,k.len.trans g.len,λh hh=>?_,e1,by rw[e2];simp[clr],λi h h'=>?_,⟨clt x.a8 [z],by rw[e4],λt ht hk=>?_,λh hh s1 s2=>?_⟩,λh hh=>?_,λk v hh=>?_⟩
 ·obtain⟨a,b,c,d⟩:=hob h hh;exact⟨a,b,c,λq=>d.trans q⟩
 ·have e5:(buH x [z]).a8[i]=a7e [z] x.a8[i]:=by
   simp only[e2];exact List.getElem_map _
  rw[e5];have hc:=(hx.sh.cl i h').2.2.2.2;unfold a7e a3l;cases hI:x.a8[i].Intact;·rw[if_neg (by simp),Bool.false_and,←hI]
  ·have ht:=(hc hI).1;have ht0:x.a8[i].Target≠0:=λe=>a8M hR (e▸ht);by_cases q:x.a8[i].Target=z
   ·rw[if_pos (by simp[q,h0]),decide_eq_false (λr=>((l1 _).1 r).2 q)]
    rfl
   ·rw[if_neg (by simp[q]),decide_eq_true ((l1 _).2 ⟨ht,q⟩),Bool.and_self,←hI]
 ·obtain⟨w,hw,rfl,_,_⟩:=a3n.1 ht;simp at hk
 ·rw[(hob h hh).2.2.2,s2] at s1;cases s1
 ·unfold nms at hfree;have key:a0E (buH x [z]).S (buH x [z]).T (otr (buH x [z])) h∧h≠z:=by
   induction hh with
   | base h1 h2=>
    rename_i a;have hne:a≠z:=λe=>by
     subst e;exact b8J h0 (by omega:X9 (otr x) a=0) h1
    refine⟨.base ?_ ((l1 _).2 ⟨h2,hne⟩),hne⟩;unfold otr at h1 ⊢;rw[e1,e4,b3o _ _ _ λt ht=>by
     obtain⟨w,_,rfl,_⟩:=a3n.1 ht;simp]
    exact h1
   | step q0 q1 q2 ih=>
    rename_i a b;have hne:b≠z:=λe=>by
     subst e;have:=b6j (y:=b) q0.live;have h1:=a1S.2 ⟨h0,q1⟩;omega
    refine⟨.step ih.1 ?_ ((l1 _).2 ⟨q2,hne⟩),hne⟩;unfold outs at q1 ⊢;rw[(hob _ ((l1 _).2 ⟨q0.live,ih.2⟩)).2.2.1];exact q1
   | pair q1 q0 q2 ih=>
    rename_i a b;have hne:b≠z:=λe=>by
     subst e;have:=b6x q1 h0;omega
    exact⟨.pair (by rw[e3];exact (w5 _ _).2 ⟨by simpa using ih.2,q1⟩) ih.1 ((l1 _).2 ⟨q2,hne⟩),hne⟩
  exact key.1
 ·rw[e3] at hh;exact ((w5 _ _).1 hh).2
theorem c7r{x:Hp}(hx:L5 x):Stl x (stp x):=by
 cases h:zr x with
 | nil=>rw[a8C h];exact Stl.refl hx.sh
 | cons z l=>
  have hz:z∈zr x:=by rw[h];exact List.mem_cons_self ..
  rw[a4a h];split
  ·rename_i q;unfold due at q;rw[Bool.and_eq_true,decide_eq_true_iff,Bool.not_eq_true'] at q;exact c68 hx (a1b.1 hz).1 q.2
  ·exact c6c hx hz
theorem c7q{x:Hp}(hx:L5 x)(n:Nat):Stl x (stN n x):=by
 induction n with
 | zero=>exact Stl.refl hx.sh
 | succ n ih=>rw[a1R];exact ih.trans (c7r (a0q hx n))
theorem a7R{x:Hp}(hx:L5 x):Stl x (a1p x):=c7q hx 100
end Go.Sh
namespace Go.Sh
section
variable{x:Hp}(hB:HB x)
include hB
end
end Go.Sh
namespace Go.Sh
end Go.Sh
namespace Go.Sh
end Go.Sh
namespace Go.Sh
end Go.Sh
namespace Go.Sh
structure Ks (s s':a7):Prop where
 sr:SR s'
 V4:s'.Serial=s.Serial
 lv:lv s'=lv s
 ob:∀h∈Sh.lv s,(ob s' h).Serial=(ob s h).Serial
theorem Ks.refl{s:a7}(hR:SR s):Ks s s:=⟨hR,rfl,rfl,λ_ _=>rfl⟩
theorem Ks.trans{a b c:a7}(h:Ks a b)(q:Ks b c):Ks a c:=⟨q.sr,q.V4.trans h.V4,q.lv.trans h.lv,λk hk=>(q.ob k (by rw[h.lv];exact hk)).trans (h.ob k hk)⟩
theorem Kin.ks{s s':a7}(hR:SR s)(k:Kin s s'):Ks s s':=⟨k.sr,k.V4,k.lv,λh hh=>by
 obtain⟨n,e⟩:=k.ob h (by have:=F7 hR hh;omega)
 rw[e]⟩
theorem Kn.ks{s s':a7}(k:Kn s s')(e:s'.Serial=s.Serial):Ks s s':=⟨k.sr,e,k.lv,λh hh=>by
 obtain⟨n,m,e⟩:=k.ob h hh;rw[e]⟩
theorem c99{s:a7}(hR:SR s){h:Int}(hh:h∈lv s){o:m7}(hs:o.Serial=(ob s h).Serial)(ho:OkO s o):Ks s (seO s h o):=⟨a0C hR hh hs ho,rfl,a3c hR hh hs ho,λk hk=>by
 rw[a2o hR hh hs ho (by have:=F7 hR hk;omega)]
 split;·rename_i e;subst e;exact hs
 ·rfl⟩
theorem b6U{x:Hp}(hR:SR x.S)(h:Int):Ks x.S (A9 x h).S:=(E4 hR h λc=>B9).ks hR
theorem b6Q{x:Hp}(hR:SR x.S)(h:Int):Ks x.S (O5 x h).S:=(E4 hR h λc=>L8).ks hR
theorem b30(x:Hp)(h:Int):(O5 x h).Roots=x.Roots∧(O5 x h).a8=x.a8∧(O5 x h).T=x.T∧(O5 x h).Q=x.Q:=b39 x h a5d
theorem a0P{x:Hp}(hR:SR x.S)(r:Nat)(h:Int):Ks x.S (E3 x r h).S:=
 (b6U hR h).trans (b6Q (x:=wR (A9 x h) (x.Roots.set r h)) (a3b hR h) _)
theorem b41{x:Hp}(hR:SR x.S){h:Int}(hh:h∈lv x.S){n:Nat}(hn:n<(ob x.S h).Fields.length)(v:Int):Ks x.S (a00 x h n v).S:=by
 have k1:=b6U hR v;have hh1:h∈lv (A9 x v).S:=by rw[k1.lv];exact hh
 have hof:(ob (A9 x v).S h).Fields=(ob x.S h).Fields:=by
  obtain⟨n,e⟩:=(E4 hR v (f:=S0) λc=>B9).ob h (by have:=F7 hR hh;omega)
  show (ob (stO x v S0).S h).Fields=_;rw[e]
 have ho:OkO (A9 x v).S (flg (ob (A9 x v).S h) ((ob x.S h).Fields.set n v)):=by
  have:=I2 k1.sr hh1;refine⟨this.s1,this.s2,this.st,this.wk,this.p1,this.p2,?_⟩;have h4:=this.fl;rw[hof] at h4;simpa using h4
 have k2:=c99 (o:=flg (ob (A9 x v).S h) ((ob x.S h).Fields.set n v)) k1.sr hh1 rfl ho;exact (k1.trans k2).trans (b6Q (x:=wS (A9 x v) (seO (A9 x v).S h (flg (ob (A9 x v).S h) ((ob x.S h).Fields.set n v)))) k2.sr _)
theorem a7j(x:Hp)(h:Int)(n:Nat)(v:Int):(a00 x h n v).Roots=x.Roots∧(a00 x h n v).a8=x.a8∧(a00 x h n v).T=x.T∧(a00 x h n v).Q=x.Q:=by
 obtain⟨a,b,c,d⟩:=b30 (wS (A9 x v) (seO (A9 x v).S h (flg (ob (A9 x v).S h) ((ob x.S h).Fields.set n v)))) ((ob x.S h).Fields.getD n 0);obtain⟨a',b',c',d'⟩:=a5x x v;exact⟨a.trans a',b.trans b',c.trans c',d.trans d'⟩
theorem b8a{x:Hp}(hR:SR x.S)(v:Int)(t:Tb)(old:Int):Ks x.S (a5o x v t old).S:=
 (b6U hR v).trans (b6Q (x:=wT (A9 x v) t) (a3b hR v) old)
theorem a9B(x:Hp)(v:Int)(t:Tb)(old:Int):(a5o x v t old).Roots=x.Roots∧(a5o x v t old).a8=x.a8∧(a5o x v t old).T=t∧(a5o x v t old).Q=x.Q:=by
 obtain⟨a,b,c,d⟩:=b30 (wT (A9 x v) t) old;obtain⟨a',b',c',d'⟩:=a5x x v;exact⟨a.trans a',b.trans b',c,d.trans d'⟩
end Go.Sh
namespace Go.Sh
theorem c89{s:a7}(hR:SR s){i:Nat}(hi:i<s.S.a8.length)(h2:(ce s i).State=2):Ks s (gvA s i):=⟨b6e hR hi,rfl,b6c hR hi h2,λh hh=>by rw[b6d hR hi h2 hh]⟩
theorem c9q{x:Hp}(hR:SR x.S)(h:Int){d:Int}(hd:V6 x.S h (B5 h)→0≤(ce x.S (B5 h)).Val.Weak+d):Ks x.S (mkd x h d).S:=by
 unfold mkd;split
 ·rename_i q;exact (a6b hR q.1 q.2.1 (hd q)).ks rfl
 ·exact Ks.refl hR
theorem c4i(x:Hp)(h d:Int):(mkd x h d).Roots=x.Roots∧(mkd x h d).a8=x.a8∧(mkd x h d).T=x.T∧(mkd x h d).Q=x.Q:=by
 unfold mkd;split <;> exact⟨rfl,rfl,rfl,rfl⟩
theorem c2B(x:Hp)(h:Int):(a7X x h).Roots=x.Roots∧(a7X x h).a8=x.a8∧(a7X x h).T=x.T∧(a7X x h).Q=x.Q:=by
 unfold a7X;split;·split <;> exact⟨rfl,rfl,rfl,rfl⟩
 ·exact⟨rfl,rfl,rfl,rfl⟩
theorem c1G{x:Hp}(hR:SR x.S)(h:Int)(hd:V6 x.S h (B5 h)→1≤(ce x.S (B5 h)).Val.Weak):Ks x.S (a7X x h).S:=by
 unfold a7X;split
 ·rename_i q;have hd:=hd q;have kn:=a6b (d:=-1) hR q.1 q.2.1 (by omega)
  split
  ·rename_i c;have hi1:B5 h<(mkA x.S (B5 h) (-1)).S.a8.length:=by rw[kn.len];exact q.1
   have hce:ce (mkA x.S (B5 h) (-1)) (B5 h)=⟨(ce x.S (B5 h)).State,(ce x.S (B5 h)).Gen,wkg (ce x.S (B5 h)).Val ((ce x.S (B5 h)).Val.Weak + -1)⟩:=by
    rw[a27 hR q.1 q.2.1,if_pos rfl]
   have h2:(ce (mkA x.S (B5 h) (-1)) (B5 h)).State=2:=by rw[hce];exact c.1
   exact (kn.ks rfl).trans (c89 kn.sr hi1 h2)
  ·exact kn.ks rfl
 ·exact Ks.refl hR
theorem b8N{x:Hp}(hx:L5 x){n:Nat}(hn:n<6)(h call:Int):Ks x.S (a15 x n h call).S:=by
 have hR:=hx.sh.sr;have hnl:n<x.a8.length:=by have:=hx.sh.c6;omega
 have ok:∀k i,V6 x.S k i→0≤(ce x.S i).Val.Weak:=λk i q=>(hR.ok i q.1 q.2.1).wk;have tw:∀i,V6 x.S (tgt x n) i→1≤(ce x.S i).Val.Weak:=λi q=>by
  have htg:tgt x n=x.a8[n].Target:=by
   unfold tgt;rw[List.getD_eq_getElem?_getD,List.getElem?_eq_getElem hnl];rfl
  have r:=q.rng hR;have p:=b0v hnl (by rw[←htg];omega)
  rw[←htg,q.2.2] at p;have:=(hx.wk i q.1 q.2.1).1;omega
 unfold a15;have s1:Ks x.S (mkd (wC x (x.a8.set n (wcl h call))) h 1).S:=c9q (x:=wC x (x.a8.set n (wcl h call))) hR h λq=>by
  have:=ok _ _ q;dsimp only;omega
 by_cases q:V6 x.S h (B5 h)
 ·have e:mkd (wC x (x.a8.set n (wcl h call))) h 1=wS (wC x (x.a8.set n (wcl h call))) (mkA x.S (B5 h) 1):=by
   unfold mkd;rw[if_pos q]
  have hd:=ok _ _ q;have kn:=a6b (d:=1) hR q.1 q.2.1 (by omega)
  rw[e] at s1 ⊢;refine s1.trans (c1G (x:=wS (wC x (x.a8.set n (wcl h call))) (mkA x.S (B5 h) 1)) kn.sr _ λq2=>?_);dsimp only at q2 ⊢;have q3:=(kn.ad _ _).1 q2;have:=tw _ q3;rw[a27 hR q.1 q.2.1];split
  ·rename_i e2;rw[e2] at this;show 1≤(ce x.S (B5 h)).Val.Weak+1;omega
  ·exact this
 ·have e:mkd (wC x (x.a8.set n (wcl h call))) h 1=wC x (x.a8.set n (wcl h call)):=by
   unfold mkd;rw[if_neg q]
  rw[e] at s1 ⊢;exact s1.trans (c1G (x:=wC x (x.a8.set n (wcl h call))) hR _ λq2=>tw _ q2)
theorem b4i(x:Hp)(n:Nat)(h call:Int):(a15 x n h call).Roots=x.Roots∧(a15 x n h call).a8=x.a8.set n (wcl h call)∧(a15 x n h call).T=x.T∧(a15 x n h call).Q=x.Q:=by
 obtain⟨a,b,c,d⟩:=c2B (mkd (wC x (x.a8.set n (wcl h call))) h 1) (tgt x n);obtain⟨a',b',c',d'⟩:=c4i (wC x (x.a8.set n (wcl h call))) h 1;exact⟨a.trans a',b.trans b',c.trans c',d.trans d'⟩
end Go.Sh
namespace Go.Sh
abbrev nwo(s:a7)(n:Nat)(p:Int):m7:=⟨s.Serial+1,0,0,p,false,List.replicate n 0⟩
def mkS(s:a7)(i n:Nat)(p:Int):a7:=⟨⟨s.S.a8.set i ⟨1,(ce s i).Gen,nwo s n p⟩,s.S.Last⟩,s.Serial+1⟩
section
variable{s:a7}(hR:SR s){i:Nat}(hi:i<s.S.a8.length)(h0:(ce s i).State=0){n:Nat}(hn:n≤4){p:Int}(hp : -1≤p∧p≤5)
include hR hi h0 hn hp
theorem a41:(mkS s i n p).S.a8.length=s.S.a8.length:=by simp[mkS]
theorem a6Q(j:Nat):ce (mkS s i n p) j=if j=i then ⟨1,(ce s i).Gen,nwo s n p⟩ else ce s j:=a5g hi _ _ j
theorem b73:SR (mkS s i n p):=by
 have hser:=hR.V4;have hc:=hR.cell i hi;have hnt:¬Th (ce s i):=λh=>by
  rcases h with h | h <;> omega
 refine⟨by rw[a41 hR hi h0 hn hp];exact hR.len,hR.l0,hR.l9,by show 0≤s.Serial+1;omega,λj hj=>?_,λj hj ht=>?_,λj hj ht=>?_,λj k hj hk a b e=>?_⟩
 ·rw[a41 hR hi h0 hn hp] at hj;rw[a6Q hR hi h0 hn hp];split;·exact⟨show (0:Int)≤1 by decide,show (1:Int)≤3 by decide,hc.2.2.1,hc.2.2.2⟩
  ·exact hR.cell j hj
 ·rw[a41 hR hi h0 hn hp] at hj;rw[a6Q hR hi h0 hn hp] at ht ⊢;split at ht;·exact absurd (.inl rfl) ht
  ·rename_i e;rw[if_neg e];exact hR.no j hj ht
 ·rw[a41 hR hi h0 hn hp] at hj;rw[a6Q hR hi h0 hn hp] at ht ⊢;split at ht
  ·rename_i e;rw[if_pos e];exact⟨by show 1≤s.Serial+1;omega,Int.le_refl _,Int.le_refl 0,Int.le_refl 0,hp.1,hp.2,by simpa using hn⟩
  ·rename_i e;rw[if_neg e];have:=hR.ok j hj ht;exact⟨this.s1,by show _≤s.Serial+1;have:=this.s2;omega,this.st,this.wk,this.p1,this.p2,this.fl⟩
 ·rw[a41 hR hi h0 hn hp] at hj hk;rw[a6Q hR hi h0 hn hp] at a e;rw[a6Q hR hi h0 hn hp] at b e;have old:∀m,m<s.S.a8.length→Th (ce s m)→(ce s m).Val.Serial≠s.Serial+1:=λm hm t q=>by
   have:=(hR.ok m hm t).s2;omega
  by_cases ej:j=i <;> by_cases ek:k=i
  ·rw[ej,ek]
  ·rw[if_neg ek] at b e;rw[if_pos ej] at e;exact absurd e.symm (old k hk b)
  ·rw[if_neg ej] at a e;rw[if_pos ek] at e;exact absurd e (old j hj a)
  ·rw[if_neg ej] at a e;rw[if_neg ek] at b e;exact hR.dif j k hj hk a b e
theorem b9E{k:Int}{j:Nat}(q:V6 s k j):j≠i:=λe=>by
 subst e;rcases q.2.1 with h | h <;> omega
theorem c9p{k:Int}{j:Nat}:V6 (mkS s i n p) k j↔V6 s k j∨(j=i∧k=hdl s i):=by
 unfold V6;rw[a41 hR hi h0 hn hp,a6Q hR hi h0 hn hp];by_cases e:j=i
 ·rw[if_pos e];subst e;constructor
  ·rintro⟨a,b,c⟩;exact .inr ⟨rfl,c⟩
  ·rintro (⟨a,b,c⟩ | ⟨_,c⟩);·exact absurd rfl (b9E hR hi h0 hn hp ⟨a,b,c⟩)
   ·exact⟨hi,.inl rfl,c⟩
 ·rw[if_neg e];constructor;·exact .inl
  ·rintro (h | ⟨h,_⟩);·exact h
   ·exact absurd h e
theorem c00:lv (mkS s i n p)=lv s ++ [hdl s i]:=by
 have e:=b9D (s:=s) (r7.2 hR) hi (by rw[←D3 hi];exact h0) (nwo s n p) rfl (a1D (r7.2 hR))
 unfold mkS;rw[show (ce s i).Gen=s.S.a8[i].Gen by rw[D3 hi]]
 have e2:hdl s i=1+(i:Int)+32*s.S.a8[i].Gen:=by unfold hdl;rw[D3 hi]
 rw[e2];have:=a1D (r7.2 (by have:=b73 hR hi h0 hn hp;unfold mkS at this;rw[show (ce s i).Gen=s.S.a8[i].Gen by rw[D3 hi]] at this;exact this))
 rw[e] at this;exact (Option.some.inj this).symm
theorem c4g:hdl s i∉lv s:=λh=>by
 obtain⟨j,q⟩:=(a3g hR).1 h;have:i=j:=by
  have a:=q.2.2;have b:=q.1;unfold hdl at a;have:=hR.len;omega
 subst this;have:=q.2.1;omega
theorem b5k{k:Int}(hk:k∈lv s):ob (mkS s i n p) k=ob s k:=by
 obtain⟨j,q⟩:=(a3g hR).1 hk;have hj:=b9E hR hi h0 hn hp q.d;have q2:At (mkS s i n p) k j:=by
  refine⟨by rw[a41 hR hi h0 hn hp];exact q.1,?_,?_⟩ <;> rw[a6Q hR hi h0 hn hp,if_neg hj]
  ·exact q.2.1
  ·exact q.2.2
 rw[N2 (b73 hR hi h0 hn hp) q2,N2 hR q,a6Q hR hi h0 hn hp,if_neg hj]
theorem b1p:ob (mkS s i n p) (hdl s i)=nwo s n p:=by
 have q2:At (mkS s i n p) (hdl s i) i:=by
  refine⟨by rw[a41 hR hi h0 hn hp];exact hi,?_,?_⟩ <;> rw[a6Q hR hi h0 hn hp,if_pos rfl]
  rfl
 rw[N2 (b73 hR hi h0 hn hp) q2,a6Q hR hi h0 hn hp,if_pos rfl]
end
theorem c1E{l:List Int}{h:Int}(e:h∉l):X9 l h=0:=Nat.eq_zero_of_not_pos λq=>e (a1S.1 q).2
theorem c4h{x:Hp}(hx:L5 x){i:Nat}(hi:i<x.S.S.a8.length)(h0:(ce x.S i).State=0){n:Nat}(hn:n≤4){p:Int}(hp : -1≤p∧p≤5):L5 (wS x (mkS x.S i n p)):=by
 have hR:=hx.sh.sr;have hS:=b73 hR hi h0 hn hp;have hl:=c00 hR hi h0 hn hp;have hnew:=c4g hR hi h0 hn hp;have mem:∀ {k},k∈lv x.S→k∈lv (mkS x.S i n p):=λhk=>by rw[hl];exact List.mem_append_left _ hk
 have mem0:∀ {k},k=0∨k∈lv x.S→k=0∨k∈lv (mkS x.S i n p):=λhk=>hk.imp id mem;have hpos:=b2B hR hi;have split:∀ {k},k∈lv (mkS x.S i n p)→k∈lv x.S∨k=hdl x.S i:=λhk=>by
  rw[hl] at hk;rcases List.mem_append.1 hk with q | q
  ·exact .inl q
  ·exact .inr (List.mem_singleton.1 q)
 have rep:∀v∈List.replicate n (0:Int),v=0:=λv hv=>(List.mem_replicate.1 hv).2;have ntgt:∀j (hj:j<x.a8.length),x.a8[j].Target≠hdl x.S i:=λj hj e=>by
  obtain⟨q,hq⟩:=(hx.sh.cl j hj).2.2.2.1 (by rw[e];omega)
  rw[e] at hq;have:q=i:=by
   have a:=hq.2.2;have b:=hq.1;unfold hdl at a;have:=hR.len;omega
  exact b9E hR hi h0 hn hp hq this
 refine⟨⟨hS,hx.sh.hr,hx.sh.r6,hx.sh.c6,hx.sh.cap,hx.sh.q30,λt ht=>?_,hx.sh.td,λh hh=>mem0 (hx.sh.rt h hh),λh hh v hv=>?_,λk v hk=>?_,λj hj=>?_⟩,λj hj ht=>?_,λh hh hs=>?_⟩
 ·obtain⟨a,b,c⟩:=hx.sh.tk t ht;refine⟨a,b,c.imp (λ⟨d,e,f⟩=>⟨d,mem e,?_⟩) id⟩;show (ob (mkS x.S i n p) t.At).Started=true;rw[b5k hR hi h0 hn hp e];exact f
 ·rcases split hh with q | q
  ·have hv':v∈(ob (mkS x.S i n p) h).Fields:=hv;rw[b5k hR hi h0 hn hp q] at hv';exact mem0 (hx.sh.fl h q v hv')
  ·subst q;have hv':v∈(ob (mkS x.S i n p) (hdl x.S i)).Fields:=hv;rw[b1p hR hi h0 hn hp] at hv';exact .inl (rep v hv')
 ·obtain⟨a,b⟩:=hx.sh.pr k v hk;exact⟨mem a,mem b⟩
 ·obtain⟨a,b,c,d,e⟩:=hx.sh.cl j hj;refine⟨a,b,c,λq=>?_,λq=>⟨mem (e q).1,(e q).2⟩⟩;obtain⟨m,hm⟩:=d q;exact⟨m,(c9p hR hi h0 hn hp).2 (.inl hm)⟩
 ·have hj':j<x.S.S.a8.length:=by have:j<(mkS x.S i n p).S.a8.length:=hj;rwa [a41 hR hi h0 hn hp] at this
  show (ce (mkS x.S i n p) j).Val.Weak=(nmg x.a8 (1+(j:Int)+32*(ce (mkS x.S i n p) j).Gen):Int)∧_;have ht':Th (ce (mkS x.S i n p) j):=ht;rw[a6Q hR hi h0 hn hp] at ht' ⊢;by_cases e:j=i
  ·subst e;rw[if_pos rfl];refine⟨?_,λq=>absurd (show (1:Int)=2 from q) (by decide)⟩
   show (0:Int)=(nmg x.a8 (hdl x.S j):Int);have:nmg x.a8 (hdl x.S j)=0:=by
    unfold nmg;rw[List.countP_eq_zero];intro c hc;obtain⟨m,hm,rfl⟩:=List.getElem_of_mem hc;have:=ntgt m hm;simp[this]
   rw[this];rfl
  ·rw[if_neg e] at ht' ⊢;exact hx.wk j hj' ht'
 ·have hinn:∀y,inn (mkS x.S i n p) y=inn x.S y:=λy=>by
   unfold inn;rw[hl,List.map_append,List.sum_append];have e1:(lv x.S).map (λk=>X9 (outs (mkS x.S i n p) k) y)=(lv x.S).map λk=>X9 (outs x.S k) y:=List.map_congr_left λk hk=>by
    unfold outs;rw[b5k hR hi h0 hn hp hk]
   rw[e1];have e2:outs (mkS x.S i n p) (hdl x.S i) = []:=by
    refine List.eq_nil_iff_forall_not_mem.2 λv hv=>?_;have h1:=a6f.1 hv;rw[b1p hR hi h0 hn hp] at h1;exact h1.2 (rep v h1.1)
   simp[e2,O3]
  have hnm:∀y,nms (wS x (mkS x.S i n p)) y=nms x y:=λy=>by
   unfold nms;show inn (mkS x.S i n p) y+own x.T y+X9 (otr x) y=_;rw[hinn]
  rw[hnm];have hs':(ob (mkS x.S i n p) h).Strong<12:=hs;show (ob (mkS x.S i n p) h).Strong=_;rcases split hh with q | q
  ·rw[b5k hR hi h0 hn hp q] at hs' ⊢;exact hx.fair h q hs'
  ·subst q;rw[b1p hR hi h0 hn hp];have h1:nms x (hdl x.S i)=0:=by
    unfold nms;have a1:inn x.S (hdl x.S i)=0:=by
     unfold inn;have:=b65 (λk=>X9 (outs x.S k) (hdl x.S i)) 0 (lv x.S) λk hk=>Nat.le_of_eq<|c1E λq=>by
      have q2:=a6f.1 q;rcases hx.sh.fl k hk _ q2.1 with e | e
      ·exact q2.2 e
      ·exact hnew e
     omega
    have a2:own x.T (hdl x.S i)=0:=by
     unfold own;rw[List.countP_eq_zero];intro c hc;have:=(hx.sh.pr _ _ (a3o.1 hc)).2;have hne:c.Val≠hdl x.S i:=λe=>hnew (e▸this);simp[hne]
    have a3:X9 (otr x) (hdl x.S i)=0:=c1E λq=>by
     unfold otr at q;rcases List.mem_append.1 q with q | q
     ·have q2:=a6f.1 q;rcases hx.sh.rt _ q2.1 with e | e
      ·exact q2.2 e
      ·exact hnew e
     ·obtain⟨t,ht,k1,k2⟩:=b0u.1 q;rcases (hx.sh.tk t ht).2.2 with ⟨_,b,_⟩ | ⟨b,_⟩;·exact hnew (k2▸b)
      ·omega
    omega
   rw[h1,O3];rfl
end Go.Sh
namespace Go.Sh
structure Ev (x y:Hp):Prop where
 lv:∀h∈lv y.S,(h∈Sh.lv x.S∧(ob y.S h).Serial=(ob x.S h).Serial)∨(h∉Sh.lv x.S∧(ob y.S h).Serial=x.S.Serial+1)
 s1:x.S.Serial≤y.S.Serial
 s2:y.S.Serial≤x.S.Serial+1
theorem Ev.refl(x:Hp):Ev x x:=⟨λh hh=>.inl ⟨hh,rfl⟩,by omega,by omega⟩
theorem Ks.ev{x y:Hp}(k:Ks x.S y.S):Ev x y:=⟨λh hh=>by
 rw[k.lv] at hh;exact .inl ⟨hh,k.ob h hh⟩,by rw[k.V4];omega,by rw[k.V4];omega⟩
theorem Ev.ks{x y z:Hp}(e:Ev x y)(k:Ks y.S z.S):Ev x z:=⟨λh hh=>by
 rw[k.lv] at hh;rw[k.ob h hh];exact e.lv h hh,by rw[k.V4];exact e.s1,by rw[k.V4];exact e.s2⟩
theorem Ev.stl{x y z:Hp}(e:Ev x y)(s:Stl y z):Ev x z:=⟨λh hh=>by
 rw[(s.ob h hh).1];exact e.lv h (s.lv h hh),by rw[s.V4];exact e.s1,by rw[s.V4];exact e.s2⟩
theorem d1b{x:Hp}(hx:L5 x){i:Nat}(hi:i<x.S.S.a8.length)(h0:(ce x.S i).State=0){n:Nat}(hn:n≤4){p:Int}(hp : -1≤p∧p≤5):Ev x (wS x (mkS x.S i n p)):=⟨λh hh=>by
 have hR:=hx.sh.sr;have hh':h∈lv (mkS x.S i n p):=hh;show (_∧(ob (mkS x.S i n p) h).Serial=_)∨_∧(ob (mkS x.S i n p) h).Serial=_;rw[c00 hR hi h0 hn hp] at hh';rcases List.mem_append.1 hh' with q | q
 ·exact .inl ⟨q,by rw[b5k hR hi h0 hn hp q]⟩
 ·rw[List.mem_singleton.1 q];exact .inr ⟨c4g hR hi h0 hn hp,by rw[b1p hR hi h0 hn hp]⟩,by show _≤x.S.Serial+1;omega,Int.le_refl _⟩
def Cw(x y:Hp)(w:Int):Prop:=∀i:Nat,(i:Int)≠w→(y.a8.getD i cz).Target=(x.a8.getD i cz).Target∧((y.a8.getD i cz).Intact=true→(x.a8.getD i cz).Intact=true)
theorem Cw.refl(x:Hp)(w:Int):Cw x x w:=λi _=>⟨rfl,id⟩
theorem Cw.same{x y:Hp}(h:y.a8=x.a8)(w:Int):Cw x y w:=λi _=>by rw[h];exact⟨rfl,id⟩
theorem Cw.trans{x y z:Hp}{w:Int}(a:Cw x y w)(b:Cw y z w):Cw x z w:=λi hi=>⟨(b i hi).1.trans (a i hi).1,λq=>(a i hi).2 ((b i hi).2 q)⟩
theorem Stl.cw{x y:Hp}(s:Stl x y)(w:Int):Cw x y w:=λi _=>by
 by_cases h:i<x.a8.length
 ·have h':i<y.a8.length:=by rw[s.cn];exact h
  rw[c0L h,c0L h',s.cl i h' h];exact⟨rfl,λq=>(Bool.and_eq_true _ _▸q).1⟩
 ·have h':¬i<y.a8.length:=by rw[s.cn];exact h
  rw[List.getD_eq_getElem?_getD,List.getD_eq_getElem?_getD,List.getElem?_eq_none (by omega),List.getElem?_eq_none (by omega)]
  exact⟨rfl,id⟩
theorem Cw.set{x y:Hp}{w:Nat}{c:e6}(h:y.a8=x.a8.set w c):Cw x y w:=λi hi=>by
 rw[h,List.getD_eq_getElem?_getD,List.getD_eq_getElem?_getD,List.getElem?_set_ne (by omega)]
 exact⟨rfl,id⟩
end Go.Sh
namespace Go.Sh
def Fst(s:a7)(i:Nat):Prop:=i<s.S.a8.length∧(ce s i).State=0∧∀j,j<i→(ce s j).State≠0
theorem d08{s:a7}(hR:SR s)(hb:s.Serial<9223372036854775807)(a p:Int) :
  (¬(0≤a∧a≤4)∧Q6 s a p=some (s,0,1)) ∨
  ((0≤a∧a≤4)∧¬(-1≤p∧p≤5)∧Q6 s a p=some (s,0,13)) ∨
  ((0≤a∧a≤4)∧(-1≤p∧p≤5)∧(∀i,i<s.S.a8.length→(ce s i).State≠0)∧Q6 s a p=some (s,0,4)) ∨
  ((0≤a∧a≤4)∧(-1≤p∧p≤5)∧∃i,Fst s i∧Q6 s a p=some (mkS s i a.toNat p,hdl s i,0)):=by
 have hs':=hR.V4;have hR':=r7.2 hR;unfold Q6 b7b;by_cases ha:0≤a∧a≤4
 ·right;obtain⟨ha1,ha2⟩:=ha;obtain⟨n,rfl⟩:∃n:Nat,a=n:=⟨a.toNat,by omega⟩
  rw[if_neg (by simp;omega),a7v (by omega) (by omega)]
  simp only[d3s];by_cases hp : -1≤p∧p≤5
  ·right;unfold P7;simp only[d3s];have e1:(decide (p ≥ -1)&&decide (p<6))=true:=by simp;omega
   rw[e1];have hl:SlO s.S:=⟨a1O hR',hR'.l0,hR'.l9,λi hi=>b6S hR' i hi⟩;rcases b67 hl ⟨s.Serial+1,0,0,p,false,List.replicate n 0⟩ with ⟨i,hi,h0,hf,e⟩ | ⟨hf,e⟩
   ·right;refine⟨⟨ha1,ha2⟩,hp,i,⟨hi,by rw[D3 hi];exact h0,λj hj=>by rw[D3 (by omega)];exact hf j hj⟩,?_⟩
    simp only[bne_self_eq_false,Bool.false_eq_true,if_false,Bool.not_true];rw[show p7 (s.Serial+1)=s.Serial+1 from B4 (by omega) (by omega),e]
    unfold mkS hdl;rw[D3 hi];simp
   ·left;refine⟨⟨ha1,ha2⟩,hp,λi hi=>by rw[D3 hi];exact hf i hi,?_⟩
    simp only[bne_self_eq_false,Bool.false_eq_true,if_false,Bool.not_true];rw[show p7 (s.Serial+1)=s.Serial+1 from B4 (by omega) (by omega),e]
    simp
  ·left;refine⟨⟨ha1,ha2⟩,hp,?_⟩;unfold P7;simp only[d3s];have e1:(decide (p ≥ -1)&&decide (p<6))=false:=by rw[Bool.eq_false_iff];simp;omega
   rw[e1];simp
 ·left;refine⟨ha,?_⟩;rw[if_pos (by simp;omega)]
  simp
end Go.Sh
namespace Go.Sh
def sd(x:Hp)(r:Int):Int:=if r<0 then 0 else x.Roots.getD r.toNat 0
def asd(x:Hp)(r:Int):Int × Int:=if sd x r=0 then (0,2) else (sd x r,0)
def V4(x:Hp)(h:Int):Int:=(ob x.S h).Serial
theorem in0{n l m e:Int}(he:e≠0)(h:K3 n l m e=0):l≤n∧n≤m:=by
 unfold K3 at h;split at h;·exact absurd h he
 ·omega
theorem b9r{a b c:Int}(h:a0t a b c=0):a=0∧b=0∧c=0:=by
 unfold a0t at h;split at h;·contradiction
 ·split at h;·contradiction
  ·omega
theorem c0U{k a b c:Int}(h:z7 k a b c=0):1≤k∧k≤12:=by
 refine Decidable.byContradiction λq=>?_;have:z7 k a b c=14:=by
  unfold z7;repeat rw[if_neg (by omega)]
 omega
theorem d2k{a b c:Int}(h:z7 1 a b c=0):(0≤a∧a≤5)∧(0≤b∧b≤4) ∧ -1≤c∧c≤5:=by
 obtain⟨h1,h2,h3⟩:=b9r (show a0t (K3 a 0 5 6) (K3 b 0 4 1) (K3 c (-1) 5 13)=0 from h);exact⟨in0 (by decide) h1,in0 (by decide) h2,in0 (by decide) h3⟩
theorem c8O{a b c:Int}(h:z7 2 a b c=0):(0≤a∧a≤5)∧(0≤b∧b≤5):=by
 obtain⟨h1,h2,_⟩:=b9r (show a0t (K3 a 0 5 6) (K3 b 0 5 6) 0=0 from h);exact⟨in0 (by decide) h1,in0 (by decide) h2⟩
theorem d2l{a b c:Int}(h:z7 3 a b c=0):0≤a∧a≤5:=in0 (by decide) (show K3 a 0 5 6=0 from h)
theorem d2m{a b c:Int}(h:z7 4 a b c=0):(0≤a∧a≤5)∧(0≤b∧b≤5)∧0≤c∧c≤3:=by
 obtain⟨h1,h2,h3⟩:=b9r (show a0t (K3 a 0 5 6) (K3 b 0 5 6) (K3 c 0 3 5)=0 from h);exact⟨in0 (by decide) h1,in0 (by decide) h2,in0 (by decide) h3⟩
theorem d2n{a b c:Int}(h:z7 5 a b c=0):(0≤a∧a≤5)∧(0≤b∧b≤3) ∧ -1≤c∧c≤5:=by
 obtain⟨h1,h2,h3⟩:=b9r (show a0t (K3 a 0 5 6) (K3 b 0 3 5) (K3 c (-1) 5 6)=0 from h);exact⟨in0 (by decide) h1,in0 (by decide) h2,in0 (by decide) h3⟩
theorem d2o{a b c:Int}(h:z7 6 a b c=0):(0≤a∧a≤5)∧(-1≤b∧b≤5) ∧ -1≤c∧c≤5:=by
 obtain⟨h1,h2,h3⟩:=b9r (show a0t (K3 a 0 5 7) (K3 b (-1) 5 6) (K3 c (-1) 5 13)=0 from h);exact⟨in0 (by decide) h1,in0 (by decide) h2,in0 (by decide) h3⟩
theorem d2p{a b c:Int}(h:z7 7 a b c=0):(0≤a∧a≤5)∧(0≤b∧b≤5):=by
 obtain⟨h1,h2,_⟩:=b9r (show a0t (K3 a 0 5 6) (K3 b 0 5 7) 0=0 from h);exact⟨in0 (by decide) h1,in0 (by decide) h2⟩
theorem d2q{a b c:Int}(h:z7 8 a b c=0):(0≤a∧a≤5)∧(-1≤b∧b≤5):=by
 obtain⟨h1,h2,_⟩:=b9r (show a0t (K3 a 0 5 6) (K3 b (-1) 5 6) 0=0 from h);exact⟨in0 (by decide) h1,in0 (by decide) h2⟩
theorem d2r{a b c:Int}(h:z7 9 a b c=0):(0≤a∧a≤5)∧(0≤b∧b≤5):=c8O (show z7 2 a b c=0 from h)
theorem d0L{a b c:Int}(h:z7 10 a b c=0):(0≤a∧a≤5)∧(0≤b∧b≤5):=c8O (show z7 2 a b c=0 from h)
section
variable{x:Hp}(hx:HpS x)
include hx
theorem b2a{r:Int}(h:0≤r∧r≤5):ix x.Roots r=some (sd x r):=by
 have:=hx.r6;obtain⟨n,rfl⟩:∃n:Nat,r=n:=⟨r.toNat,by omega⟩
 have hn:n<x.Roots.length:=by omega
 rw[o5 hn];unfold sd;rw[if_neg (by omega),Int.toNat_natCast,List.getD_eq_getElem?_getD,List.getElem?_eq_getElem hn]
 rfl
theorem b35{r:Int}(h:¬(0≤r∧r≤5)):sd x r=0:=by
 have:=hx.r6;unfold sd;split;·rfl
 ·rw[List.getD_eq_getElem?_getD,List.getElem?_eq_none (by omega)]
  rfl
theorem b2b(r:Int):sd x r=0∨sd x r∈lv x.S:=by
 by_cases h:0≤r∧r≤5
 ·have e:=b2a hx h;unfold ix at e;rw[if_pos h.1] at e;exact hx.rt _ (List.mem_of_getElem? e)
 ·exact .inl (b35 hx h)
theorem b2c(r:Int):sd x r≤9223372036854775807:=by
 rcases b2b hx r with h | h
 ·omega
 ·have:=F7 hx.sr h;omega
theorem a6u(r:Int):J2 x r=some (sd x r):=by
 have h6:=hx.r6;unfold J2;by_cases h:0≤r∧r≤5
 ·rw[if_neg (by simp;omega),b2a hx h]
  rfl
 ·rw[if_pos (by simp;omega),b35 hx h]
theorem c5d{r:Int}(h:r≤5):a5s (hO x) r=some (sd x r):=by
 unfold a5s;by_cases q:r<0
 ·rw[if_pos (by simpa using q),b35 hx (by omega)]
 ·rw[if_neg (by simpa using q),show (hO x).Roots=x.Roots from rfl,b2a hx (by omega)]
  rfl
theorem a5m(r:Int):J9 x r=some (asd x r):=by
 unfold J9 asd;rw[a6u hx,d3s];by_cases h:sd x r=0
 ·rw[if_pos (by simpa using h),if_pos h]
 ·rw[if_neg (by simpa using h),if_neg h]
theorem a9V{r:Int}(h:0≤r∧r≤5):W2 (hO x) r=some (asd x r):=by
 unfold W2 asd;rw[show (hO x).Roots=x.Roots from rfl,b2a hx h,d3s];by_cases h:sd x r=0
 ·rw[if_pos (by simpa using h),if_pos h]
 ·rw[if_neg (by simpa using h),if_neg h]
theorem c5h{h:Int}(hh:h≤9223372036854775807):Z4 x h=some (V4 x h):=by
 obtain⟨e,h1,_⟩:=Q1 (r7.2 hx.sr) hh;unfold Z4;rw[h1];rfl
theorem c5g{h:Int}(hh:h≤9223372036854775807):a2k (hO x) h=some (V4 x h):=by
 obtain⟨e,h1,_⟩:=Q1 (r7.2 hx.sr) hh;unfold a2k;rw[show (hO x).S=sO x.S from rfl,a5f x.S (by have:=hx.sr.len;omega) hh,h1]
 rfl
theorem c0B(r:Int):a05 x r=some (V4 x (sd x r)):=by
 unfold a05;rw[a6u hx,d3s,c5h hx (b2c hx r)];rfl
theorem c1x:V4 x 0=0:=by
 unfold V4;rw[a9a (r7.2 hx.sr) (by omega) (a8M hx.sr)]
theorem d0J(r:Int):b1D (hO x) r=some (V4 x (sd x r)):=by
 unfold b1D;by_cases h:0≤r∧r≤5
 ·rw[if_neg (by simp;omega),show (hO x).Roots=x.Roots from rfl,b2a hx h,d3s,c5g hx (b2c hx r)]
  rfl
 ·rw[if_pos (by simp;omega),b35 hx h,c1x hx]
end
theorem d0b{x z:Hp}(hx:HpS x)(k:Ks x.S z.S){h:Int}(hh:h=0∨h∈lv x.S):V4 z h=V4 x h:=by
 rcases hh with e | e
 ·subst e;unfold V4;rw[a9a (r7.2 hx.sr) (by omega) (a8M hx.sr),a9a (r7.2 k.sr) (by omega) (a8M k.sr)]
 ·exact k.ob h e
theorem c7m{x z:Hp}(h:z.Roots=x.Roots)(r:Int):sd z r=sd x r:=by unfold sd;rw[h]
noncomputable def doR(x:Hp)(o:g9)(v:Hp × Int):Option (Hp × Int × Int):=
 if (v.2 != 0) then some (x,0,v.2) else (M7 v.1).bind λv5=>(T0 v.1 v5 o).bind λv6=>some (v5,v6,0)
theorem a82{x:Hp}{o:g9}{n:Option Nat}(hc:z7 o.Kind o.A o.B o.C=0)(hk:∃l,a2x=some l∧A1 l o.Kind=some n):r8 x o=(b2A n ⟨x,o⟩).bind (doR x o):=by
 obtain⟨l,h1,h2⟩:=hk;unfold r8;rw[a7d,hc,d3s,if_neg (by simp),h1,d3s,h2,if_neg (by simp)]
 rfl
theorem c3v{x:Hp}{o:g9}(hc:z7 o.Kind o.A o.B o.C≠0):r8 x o=some (x,0,z7 o.Kind o.A o.B o.C)∧B3 (hO x) ⟨o.Kind,o.A,o.B,o.C⟩=some (hO x,0,z7 o.Kind o.A o.B o.C):=by
 constructor
 ·unfold r8;rw[a7d,d3s,if_pos (by simpa using hc)]
 ·unfold B3;rw[a4p,d3s,if_pos (by simpa using hc)]
section
variable{x:Hp}{a b c:Int}
theorem d2s(hc:z7 1 a b c=0):r8 x ⟨1,a,b,c⟩=(Q8 ⟨x,⟨1,a,b,c⟩⟩).bind (doR x ⟨1,a,b,c⟩):=a82 (o:=⟨1,a,b,c⟩) (n:=some 65) hc ⟨_,rfl,rfl⟩
theorem d2t(hc:z7 2 a b c=0):r8 x ⟨2,a,b,c⟩=(G6 ⟨x,⟨2,a,b,c⟩⟩).bind (doR x ⟨2,a,b,c⟩):=a82 (o:=⟨2,a,b,c⟩) (n:=some 66) hc ⟨_,rfl,rfl⟩
theorem d2u(hc:z7 3 a b c=0):r8 x ⟨3,a,b,c⟩=(Y4 ⟨x,⟨3,a,b,c⟩⟩).bind (doR x ⟨3,a,b,c⟩):=a82 (o:=⟨3,a,b,c⟩) (n:=some 67) hc ⟨_,rfl,rfl⟩
theorem d2v(hc:z7 4 a b c=0):r8 x ⟨4,a,b,c⟩=(Y5 ⟨x,⟨4,a,b,c⟩⟩).bind (doR x ⟨4,a,b,c⟩):=a82 (o:=⟨4,a,b,c⟩) (n:=some 68) hc ⟨_,rfl,rfl⟩
theorem d2w(hc:z7 5 a b c=0):r8 x ⟨5,a,b,c⟩=(U5 ⟨x,⟨5,a,b,c⟩⟩).bind (doR x ⟨5,a,b,c⟩):=a82 (o:=⟨5,a,b,c⟩) (n:=some 69) hc ⟨_,rfl,rfl⟩
theorem d2x(hc:z7 6 a b c=0):r8 x ⟨6,a,b,c⟩=(Q9 ⟨x,⟨6,a,b,c⟩⟩).bind (doR x ⟨6,a,b,c⟩):=a82 (o:=⟨6,a,b,c⟩) (n:=some 70) hc ⟨_,rfl,rfl⟩
theorem d2y(hc:z7 7 a b c=0):r8 x ⟨7,a,b,c⟩=(V2 ⟨x,⟨7,a,b,c⟩⟩).bind (doR x ⟨7,a,b,c⟩):=a82 (o:=⟨7,a,b,c⟩) (n:=some 71) hc ⟨_,rfl,rfl⟩
theorem d2z(hc:z7 8 a b c=0):r8 x ⟨8,a,b,c⟩=(Y6 ⟨x,⟨8,a,b,c⟩⟩).bind (doR x ⟨8,a,b,c⟩):=a82 (o:=⟨8,a,b,c⟩) (n:=some 72) hc ⟨_,rfl,rfl⟩
theorem d2A(hc:z7 9 a b c=0):r8 x ⟨9,a,b,c⟩=(a0l ⟨x,⟨9,a,b,c⟩⟩).bind (doR x ⟨9,a,b,c⟩):=a82 (o:=⟨9,a,b,c⟩) (n:=some 73) hc ⟨_,rfl,rfl⟩
theorem d0Q(hc:z7 10 a b c=0):r8 x ⟨10,a,b,c⟩=(N5 ⟨x,⟨10,a,b,c⟩⟩).bind (doR x ⟨10,a,b,c⟩):=a82 (o:=⟨10,a,b,c⟩) (n:=some 74) hc ⟨_,rfl,rfl⟩
theorem b5X{k:Int}(hk:k=11∨k=12)(hc:z7 k a b c=0):r8 x ⟨k,a,b,c⟩=some (x,0,14)∧B3 (hO x) ⟨k,a,b,c⟩=some (hO x,0,14):=by
 constructor
 ·unfold r8;rw[a7d,hc,d3s,if_neg (by simp)]
  rcases hk with rfl | rfl <;> rfl
 ·unfold B3 W1;rw[a4p,hc,d3s,if_neg (by simp)]
  rcases hk with rfl | rfl <;> rfl
variable{y:g6}
def rT(y:g6)(a:Int)(v:Int × Int):Option (g6 × Int × Int):=
 if (v.2 != 0) then some (y,0,v.2) else (V3 y a v.1).bind λv15=>(N8 v15.1).bind λv16=>(b1D v16 a).bind λv17=>some (v16,v17,0)
def rO(y:g6)(v:g6 × Int × Int):Option (g6 × Int × Int):=
 if (v.2.2 != 0) then some (y,0,v.2.2) else (N8 v.1).bind λv8=>(a2k y v.2.1).bind λv9=>some (v8,v9,0)
theorem c1j{k:Int}(hk:k=2∨k=3∨k=4∨k=7∨k=9)(hc:z7 k a b c=0):B3 y ⟨k,a,b,c⟩=(a2l y ⟨k,a,b,c⟩).bind (rT y a):=by
 unfold B3 W1;rw[a4p,hc,d3s,if_neg (by simp)]
 rcases hk with rfl | rfl | rfl | rfl | rfl <;> rfl
theorem c1i{k:Int}(hk:k=5∨k=6∨k=8)(hc:z7 k a b c=0):B3 y ⟨k,a,b,c⟩=(a1l y ⟨k,a,b,c⟩).bind (rO y):=by
 unfold B3 W1;rw[a4p,hc,d3s,if_neg (by simp)]
 rcases hk with rfl | rfl | rfl <;> rfl
theorem d1z(hc:z7 1 a b c=0):B3 y ⟨1,a,b,c⟩=(a2P y.S b c).bind λv10=>if (v10.2.2 != 0) then some (y,0,v10.2.2) else (V3 ⟨v10.1,y.Roots,y.a8,y.T,y.Q⟩ a v10.2.1).bind λv11=>(N8 v11.1).bind λv12=>(b1D v12 a).bind λv13=>some (v12,v13,0):=by
 unfold B3 W1;rw[a4p,hc,d3s,if_neg (by simp)]
 rfl
theorem c93(hc:z7 10 a b c=0):B3 y ⟨10,a,b,c⟩=(ix y.Roots a).bind λv3=>(ix y.Roots b).bind λv4=>if (v3==v4) then some (y,1,0) else some (y,0,0):=by
 unfold B3 W1;rw[a4p,hc,d3s,if_neg (by simp)]
 rfl
end
end Go.Sh
namespace Go.Sh
section
variable{s:a7}(hR:SR s){i:Nat}(hi:i<s.S.a8.length)
include hR hi
theorem d0o(st g:Int):a07 (sO s) ⟨(pl (sO s)).a8.set i ⟨st,g,0⟩,(pl (sO s)).Last⟩=some ⟨(sO s).a8.set i ⟨st,g,oo (ce s i).Val⟩,s.S.Last,s.Serial⟩:=by
 have hlen:=hR.len;have J5:i<(pl (sO s)).a8.length:=by rw[a06,A7];exact hi
 rw[b4e _ _ (by rw[A7];omega) (by simp[a06])]
 congr 1;congr 1;refine List.ext_getElem (by simp) λk h1 h2=>?_
 have hk:k<s.S.a8.length:=by simpa[A7] using h1
 have hk2:k<(sO s).a8.length:=by rw[A7];exact hk
 have hk3:k<(pl (sO s)).a8.length:=by rw[a06];exact hk2
 simp only[List.getElem_map,List.getElem_range,List.getElem_set];have e1:(sO s).a8.getD k ⟨0,0,oo z0⟩=cO (ce s k):=by
  rw[List.getD_eq_getElem?_getD,List.getElem?_eq_getElem hk2,D3 hk];simp[sO]
 have e2:((pl (sO s)).a8.set i ⟨st,g,0⟩).getD k ⟨0,0,0⟩=if k=i then ⟨st,g,0⟩ else plc k (cO (ce s k)):=by
  rw[a5g J5];split;·rfl
  ·rw[List.getD_eq_getElem?_getD,List.getElem?_eq_getElem hk3,D3 hk];simp[pl,sO]
 rw[e1,e2];by_cases e:k=i
 ·subst e;rw[if_pos rfl,if_pos rfl];rfl
 ·rw[if_neg e,if_neg (Ne.symm e)];rw[D3 hk];simp[sO,plc,cO]
theorem d0q(st g:Int)(o:M3):a2Q ⟨(sO s).a8.set i ⟨st,g,oo (ce s i).Val⟩,s.S.Last,s.Serial⟩ (i:Int) o=some ⟨(sO s).a8.set i ⟨st,g,o⟩,s.S.Last,s.Serial⟩:=by
 have hlen:=hR.len;unfold a2Q;have hi2:i<((sO s).a8.set i ⟨st,g,oo (ce s i).Val⟩).length:=by simp[A7];exact hi
 rw[K6 (by omega) (by simp[A7];omega),d3s,o5 hi2,d3s]
 simp[List.set_set]
theorem c4N:∃h:i<(pl (sO s)).a8.length,(pl (sO s)).a8[i]=⟨(ce s i).State,(ce s i).Gen,(i:Int)⟩:=by
 have J5:i<(pl (sO s)).a8.length:=by rw[a06,A7];exact hi
 refine⟨J5,?_⟩;rw[D3 hi];simp[pl,sO,plc,cO]
end
theorem d0m{s:a7}(hR:SR s):(∀i,i<s.S.a8.length→(ce s i).State≠0)→a7z (pl (sO s)) 0=some (pl (sO s),0,4):=λhf=>by
 have hlen:=hR.len;have el:(pl (sO s)).a8.length=s.S.a8.length:=by rw[a06,A7]
 unfold a7z;simp only[jn];refine a1C (pl (sO s)).a8.length (λk=>True) (by omega) trivial (λk hk _=>?_) (λhP=>⟨.inr (),by simp,rfl⟩)
 refine .inl ⟨?_,trivial⟩;obtain⟨h1,h2⟩:=c4N hR (show k<s.S.a8.length by omega)
 have:=hf k (by omega)
 simp only[Int.ofNat_lt,hk,decide_true,if_true,o5 hk,d3s];rw[h2,if_neg (by simpa using this),l6]
theorem c7t{s:a7}(hR:SR s){i:Nat}(hF:Fst s i):a7z (pl (sO s)) 0=some (⟨(pl (sO s)).a8.set i ⟨1,(ce s i).Gen,0⟩,(pl (sO s)).Last⟩,hdl s i,0):=by
 have hlen:=hR.len;have el:(pl (sO s)).a8.length=s.S.a8.length:=by rw[a06,A7]
 obtain⟨hi,h0,hmin⟩:=hF;have hc:=hR.cell i hi;have l9:=hR.l9;unfold a7z;simp only[jn];refine a1C (pl (sO s)).a8.length (λk=>k≤i) (by omega) (by omega) (λk hk hP=>?_) (λhP=>by omega)
 obtain⟨h1,h2⟩:=c4N hR (show k<s.S.a8.length by omega)
 rcases Nat.lt_or_ge k i with g | g
 ·refine .inl ⟨?_,g⟩;have:=hmin k g;simp only[Int.ofNat_lt,hk,decide_true,if_true,o5 hk,d3s];rw[h2,if_neg (by simpa using this),l6]
 ·have:k=i:=by omega
  subst this;refine .inr ⟨.inl _,?_,rfl⟩;simp only[Int.ofNat_lt,hk,decide_true,if_true,o5 hk,d3s];rw[h2,if_pos (by simpa using h0)]
  have w3:∀c:L2,a0O (pl (sO s)) (k:Int) c=some ⟨(pl (sO s)).a8.set k c,(pl (sO s)).Last⟩:=λc=>by
   unfold a0O;rw[K6 (by omega) (by omega),d3s,o5 hk,d3s,Int.toNat_natCast]
  rw[w3,d3s,a7w,if_pos (by dsimp only;omega),d3s]
  rfl
theorem d09{s:a7}(hR:SR s)(hb:s.Serial<9223372036854775807)(a p:Int) :
  (∃e,e≠0∧Q6 s a p=some (s,0,e)∧a2P (sO s) a p=some (sO s,0,e)) ∨
  ((0≤a∧a≤4)∧(-1≤p∧p≤5)∧∃i,Fst s i∧Q6 s a p=some (mkS s i a.toNat p,hdl s i,0)∧a2P (sO s) a p=some (sO (mkS s i a.toNat p),hdl s i,0)):=by
 have hser:=hR.V4;have hlen:=hR.len;have r1:∀n:Nat,n≤4→b2M (n:Int)=some (List.replicate n 0,0):=λn hn=>by
  unfold b2M;rw[if_neg (by simp;omega),a7v (by omega) (by omega)]
  rfl
 rcases d08 hR hb a p with ⟨h1,e⟩ | ⟨h1,h2,e⟩ | ⟨h1,h2,h3,e⟩ | ⟨h1,h2,i,h3,e⟩
 ·refine .inl ⟨1,by decide,e,?_⟩
  unfold a2P b2M;rw[if_pos (by simp;omega)]
  rfl
 ·refine .inl ⟨13,by decide,e,?_⟩
  obtain⟨n,rfl⟩:∃n:Nat,a=n:=⟨a.toNat,by omega⟩
  unfold a2P;rw[r1 n (by omega),d3s,if_neg (by simp),if_pos (by simp;omega)]
 ·refine .inl ⟨4,by decide,e,?_⟩
  obtain⟨n,rfl⟩:∃n:Nat,a=n:=⟨a.toNat,by omega⟩
  unfold a2P;rw[r1 n (by omega),d3s,if_neg (by simp),if_neg (by simp;omega),a3p _ (by rw[A7];omega),d3s,d0m hR h3,d3s,if_pos (by simp)]
 ·refine .inr ⟨h1,h2,i,h3,e,?_⟩;obtain⟨n,rfl⟩:∃n:Nat,a=n:=⟨a.toNat,by omega⟩
  have hi:=h3.1;have hc:=hR.cell i hi;have l9:=hR.l9;unfold a2P;rw[r1 n (by omega),d3s,if_neg (by simp),if_neg (by simp;omega),a3p _ (by rw[A7];omega),d3s,c7t hR h3,d3s,if_neg (by simp),d0o hR hi,d3s,a7y,if_pos (by unfold Hnd hdl;dsimp only;omega),d3s,
   show (hdl s i-1) % 32=(i:Int) by unfold hdl;omega,d0q hR hi,d3s,B4 (by show _≤s.Serial+1;omega) (by show s.Serial+1≤_;omega)]
  unfold mkS;rw[Int.toNat_natCast];simp only[sO,List.map_set];rfl
end Go.Sh
namespace Go.Sh
abbrev opR(o:g9):N9:=⟨o.Kind,o.A,o.B,o.C⟩
structure Dn (x:Hp) (o:g9) (z:Hp) (v:Int):Prop where
 rt:L5 z
 sl:SL z
 ev:Ev x z
 cw:Cw x z (if o.Kind=6 then o.A else -1)
 mc:r8 x o=some (a1p z,v,0)
 rf:B3 (hO x) (opR o)=some (hO (a1p z),v,0)
def Er(x:Hp)(o:g9)(e:Int):Prop:=e≠0∧r8 x o=some (x,0,e)∧B3 (hO x) (opR o)=some (hO x,0,e)
theorem d1c{x:Hp}(hx:L5 x)(hS:SL x){i:Nat}(hi:i<x.S.S.a8.length)(h0:(ce x.S i).State=0){n:Nat}(hn:n≤4){p:Int}(hp : -1≤p∧p≤5):SL (wS x (mkS x.S i n p)):=λk hk=>by
 have hR:=hx.sh.sr;have hk':k∈lv (mkS x.S i n p):=hk;show (ob (mkS x.S i n p) k).Strong≤_;rw[c00 hR hi h0 hn hp] at hk';rcases List.mem_append.1 hk' with q | q
 ·rw[b5k hR hi h0 hn hp q];exact hS k q
 ·rw[List.mem_singleton.1 q,b1p hR hi h0 hn hp];show (0:Int)≤_;decide
theorem a8w{y:Hp}(hy:L5 y){a:Int}(ha:0≤a∧a≤5){h:Int}(hh:h=0∨h∈lv y.S):sd (a1p (E3 y a.toNat h)) a=h∧V4 (a1p (E3 y a.toNat h)) h=V4 y h:=by
 have hz:=Z7 hy (r:=a.toNat) (by omega) hh
 have st:=a7R hz;have w:=a2p hz;have e1:(a1p (E3 y a.toNat h)).Roots=y.Roots.set a.toNat h:=st.rt.trans (a35 y a.toNat h).1;have h6:=hy.sh.r6;have e2:sd (a1p (E3 y a.toNat h)) a=h:=by
  unfold sd;rw[if_neg (by omega),e1,List.getD_eq_getElem?_getD,List.getElem?_set_self (by omega)]
  rfl
 refine⟨e2,?_⟩;have k:=a0P hy.sh.sr a.toNat h;rcases b2b w.sh a with q | q
 ·rw[e2] at q;subst q;rw[c1x w.sh,c1x hy.sh]
 ·rw[e2] at q;have h1:=(st.ob h q).1;have h2:=st.lv h q;rw[k.lv] at h2;exact h1.trans (k.ob h h2)
section
variable{x:Hp}{a b c:Int}
theorem a6K{o:g9}{y:Hp}{e:Int}(he:e≠0):doR x o (y,e)=some (x,0,e):=by
 unfold doR;rw[if_pos (by simpa using he)]
theorem c7N{z:Hp}(hz:L5 z)(hS:SL z){k:Int}(hk:k≠5∧k≠6∧k≠8∧k≠10):doR x ⟨k,a,b,c⟩ (z,0)=some (a1p z,V4 (a1p z) (sd (a1p z) a),0):=by
 unfold doR T0;rw[if_neg (by simp),a3H hz hS,d3s]
 simp only[jn];rw[if_neg (by simp;omega),if_neg (by simp;omega)]
 have:(k==8)=false:=by simp;omega
 rw[this,if_neg (by simp),if_neg (by simp;omega),c0B (a2p hz).sh]
 rfl
theorem c0g{o:g9}{v e:Int}(he:e≠0):A5 ⟨x,o⟩ v e=some (x,e):=by
 unfold A5;rw[if_pos (by simpa using he)]
theorem c4T{y:g6}{v e:Int}(he:e≠0):rT y a (v,e)=some (y,0,e):=by
 unfold rT;rw[if_pos (by simpa using he)]
theorem c2j{y z:g6}{v e:Int}(he:e≠0):rO y (z,v,e)=some (y,0,e):=by
 unfold rO;rw[if_pos (by simpa using he)]
variable(hx:L5 x)(hS:SL x)
include hx hS
theorem a8E{k:Int}(ha:0≤a∧a≤5){h:Int}(hh:h=0∨h∈lv x.S):A5 ⟨x,⟨k,a,b,c⟩⟩ h 0=some (E3 x a.toNat h,0):=by
 unfold A5;rw[if_neg (by simp),c1r hx hS a (b0q hx hS hh),if_neg (by omega),if_pos hh]
 rfl
theorem d1v(ha:0≤a∧a≤5){h:Int}(hh:h=0∨h∈lv x.S):rT (hO x) a (h,0)=some (hO (a1p (E3 x a.toNat h)),V4 x h,0):=by
 have hz:=Z7 hx (r:=a.toNat) (by omega) hh
 have zS:=a36 hx.sh.sr hS a.toNat h;obtain⟨e1,e2⟩:=a8w hx ha hh;unfold rT;rw[if_neg (by simp),b90 hx hS a (b0q hx hS hh),if_neg (by omega),if_pos hh,d3s,a5A hz zS,d3s,d0J (a2p hz).sh,e1,e2]
 rfl
theorem a5E{k:Int}(hk:k=2∨k=3∨k=4∨k=7∨k=9)(hc:z7 k a b c=0)(ha:0≤a∧a≤5){h:Int}(hh:h=0∨h∈lv x.S)
  (h1:r8 x ⟨k,a,b,c⟩=doR x ⟨k,a,b,c⟩ (E3 x a.toNat h,0))(h2:a2l (hO x) ⟨k,a,b,c⟩=some (h,0)):Dn x ⟨k,a,b,c⟩ (E3 x a.toNat h) (V4 x h):=by
 have hz:=Z7 hx (r:=a.toNat) (by omega) hh
 have zS:=a36 hx.sh.sr hS a.toNat h;obtain⟨e1,e2⟩:=a8w hx ha hh;refine⟨hz,zS,(a0P hx.sh.sr a.toNat h).ev,Cw.same (a35 x a.toNat h).2.1 _,?_,?_⟩;·rw[h1,c7N hz zS (by omega),e1,e2]
 ·show B3 (hO x) ⟨k,a,b,c⟩=_;rw[c1j hk hc,h2,d3s,d1v hx hS ha hh]
theorem d2(hc:z7 2 a b c=0):Dn x ⟨2,a,b,c⟩ (E3 x a.toNat (sd x b)) (V4 x (sd x b)):=by
 obtain⟨ha,hb⟩:=c8O hc;refine a5E hx hS (.inl rfl) hc ha (b2b hx.sh b) ?_ ?_
 ·rw[d2t hc];unfold G6;rw[a6u hx.sh,d3s,a8E hx hS ha (b2b hx.sh b)];rfl
 ·unfold a2l;rw[if_pos (by rfl),show (hO x).Roots=x.Roots from rfl,b2a hx.sh hb]
  rfl
theorem d3(hc:z7 3 a b c=0):Dn x ⟨3,a,b,c⟩ (E3 x a.toNat 0) 0:=by
 have ha:=d2l hc;have:=a5E (b:=b) (c:=c) hx hS (.inr (.inl rfl)) hc ha (h:=0) (.inl rfl) ?_ ?_;·rwa [c1x hx.sh] at this
 ·rw[d2u hc];unfold Y4;rw[a8E hx hS ha (.inl rfl)];rfl
 ·rfl
theorem d4(hc:z7 4 a b c=0):(sd x b=0∧Er x ⟨4,a,b,c⟩ 2)∨(∃e,a0b x.S (sd x b) c=some (0,e)∧Er x ⟨4,a,b,c⟩ e) ∨
  (sd x b∈lv x.S∧∃n:Nat,c=n∧∃hn:n<(ob x.S (sd x b)).Fields.length,Dn x ⟨4,a,b,c⟩ (E3 x a.toNat (ob x.S (sd x b)).Fields[n]) (V4 x (ob x.S (sd x b)).Fields[n])):=by
 obtain⟨ha,hb,_⟩:=d2m hc;have hm:r8 x ⟨4,a,b,c⟩=_:=d2v hc;unfold Y5 at hm;rw[a5m hx.sh,d3s] at hm;have hr:B3 (hO x) ⟨4,a,b,c⟩=_:=c1j (by omega) hc
 have hnm:a2l (hO x) ⟨4,a,b,c⟩=(W2 (hO x) b).bind λv2=>if (v2.2 != 0) then some (0,v2.2) else (a3C (hO x).S v2.1 c).bind λv3=>some (v3.1,v3.2):=rfl
 rw[a9V hx.sh hb,d3s] at hnm;by_cases h0:sd x b=0
 ·refine .inl ⟨h0,by decide,?_,?_⟩
  ·rw[hm];unfold asd;rw[if_pos h0,if_pos (by simp),d3s,a6K (by decide)]
  ·show B3 (hO x) ⟨4,a,b,c⟩=_;rw[hr,hnm];unfold asd;rw[if_pos h0,if_pos (by simp),d3s,c4T (by decide)]
 ·have has:asd x b=(sd x b,0):=by unfold asd;rw[if_neg h0]
  rw[has,if_neg (by simp)] at hm hnm
  right;rcases b1Z hx hS (sd x b) c (b2c hx.sh b) with ⟨e,he,f1,f2⟩ | ⟨hl,n,hn0,hn,f1,f2⟩
  ·refine .inl ⟨e,f1,he,?_,?_⟩
   ·rw[hm];dsimp only;rw[f1,d3s,c0g he,d3s,d3s,a6K he]
   ·show B3 (hO x) ⟨4,a,b,c⟩=_;rw[hr,hnm];dsimp only;rw[show (hO x).S=sO x.S from rfl,f2,d3s,d3s,c4T he]
  ·refine .inr ⟨hl,n,hn0,hn,?_⟩;have hv:=hx.sh.fl _ hl _ (List.getElem_mem hn);refine a5E hx hS (by omega) hc ha hv ?_ ?_
   ·rw[hm];dsimp only;rw[f1,d3s,a8E hx hS ha hv];rfl
   ·rw[hnm];dsimp only;rw[show (hO x).S=sO x.S from rfl,f2];rfl
theorem c6A{n:Nat}(hn:n<6):∃h:n<x.a8.length,a5G x.a8 n=some (if x.a8[n].Target=0∨x.a8[n].Intact=false then (0,9) else (x.a8[n].Target,0))∧b0B (hO x).a8 n=some (if x.a8[n].Target=0∨x.a8[n].Intact=false then (0,9) else (x.a8[n].Target,0)):=by
 have c6:=hx.sh.c6;have hl:n<x.a8.length:=by omega
 have hl2:n<(x.a8.map wcR).length:=by simp;exact hl
 refine⟨hl,?_,?_⟩
 ·unfold a5G a5H;have:(decide ((n:Int)≥0)&&decide ((n:Int)<(x.a8.length:Int)))=true:=by simp;omega
  rw[this,d3s,if_neg (by simp),o5 hl,d3s]
  by_cases q:x.a8[n].Target=0∨x.a8[n].Intact=false
  ·rw[if_pos q,if_pos (by rcases q with q | q <;> simp[q])]
  ·rw[if_neg q,if_neg (by simpa using q)]
 ·unfold b0B;show (if _ then _ else (ix (x.a8.map wcR) (n:Int)).bind _)=_
  rw[if_neg (by simp[hO];omega),o5 hl2,d3s,List.getElem_map]
  by_cases q:x.a8[n].Target=0∨x.a8[n].Intact=false
  ·rw[if_pos q,if_pos (by rcases q with q | q <;> simp[wcR,q])]
  ·rw[if_neg q,if_neg (by simpa[wcR] using q)]
   rfl
theorem d7(hc:z7 7 a b c=0):∃h:b.toNat<x.a8.length,((x.a8[b.toNat].Intact=false∧Er x ⟨7,a,b,c⟩ 9) ∨
  (x.a8[b.toNat].Intact=true∧Dn x ⟨7,a,b,c⟩ (E3 x a.toNat x.a8[b.toNat].Target) (V4 x x.a8[b.toNat].Target))):=by
 obtain⟨ha,hb⟩:=d2p hc;obtain⟨n,rfl⟩:∃n:Nat,b=n:=⟨b.toNat,by omega⟩
 obtain⟨hl,l1,l2⟩:=c6A hx hS (n:=n) (by omega)
 rw[Int.toNat_natCast];refine⟨hl,?_⟩;have hm:r8 x ⟨7,a,n,c⟩=_:=d2y hc;unfold V2 at hm;rw[show a5G (o8.mk x ⟨7,a,n,c⟩).x.a8 (o8.mk x ⟨7,a,n,c⟩).o.B=_ from l1,d3s] at hm;have hr:B3 (hO x) ⟨7,a,n,c⟩=_:=c1j (by omega) hc
 have hnm:a2l (hO x) ⟨7,a,n,c⟩=(b0B (hO x).a8 n).bind λv4=>some (v4.1,v4.2):=rfl;rw[l2,d3s] at hnm;have cl:=hx.sh.cl n hl;cases hI:x.a8[n].Intact
 ·left;rw[if_pos (.inr hI)] at hm hnm;refine⟨rfl,by decide,?_,?_⟩
  ·rw[hm];dsimp only;rw[c0g (by decide),d3s,d3s]
   exact a6K (e:=9) (by decide)
  ·show B3 (hO x) ⟨7,a,n,c⟩=_;rw[hr,hnm,d3s,c4T (by decide)]
 ·right;have ht:=(cl.2.2.2.2 hI).1;have ht0:x.a8[n].Target≠0:=λe=>a8M hx.sh.sr (e▸ht);rw[if_neg (by simp[ht0,hI])] at hm hnm
  refine⟨rfl,a5E hx hS (by omega) hc ha (.inr ht) ?_ hnm⟩
  rw[hm];dsimp only;rw[a8E hx hS ha (.inr ht)];rfl
theorem d9(hc:z7 9 a b c=0):(sd x b=0∧Er x ⟨9,a,b,c⟩ 2)∨(sd x b∈lv x.S∧(∀v,¬Has x.T (sd x b) v)∧Er x ⟨9,a,b,c⟩ 9) ∨
  (sd x b∈lv x.S∧∃v,Has x.T (sd x b) v∧Dn x ⟨9,a,b,c⟩ (E3 x a.toNat v) (V4 x v)):=by
 obtain⟨ha,hb⟩:=d2r hc;have hT:=hx.sh.hr;have hm:r8 x ⟨9,a,b,c⟩=_:=d2A hc;unfold a0l at hm;rw[a5m hx.sh,d3s] at hm;have hr:B3 (hO x) ⟨9,a,b,c⟩=_:=c1j (by omega) hc
 have hnm:a2l (hO x) ⟨9,a,b,c⟩=(W2 (hO x) b).bind λv2=>if (v2.2 != 0) then some (0,v2.2) else (b2O (hO x).T v2.1).bind λv3=>some (v3.1,v3.2):=rfl
 rw[a9V hx.sh hb,d3s] at hnm;by_cases h0:sd x b=0
 ·refine .inl ⟨h0,by decide,?_,?_⟩
  ·rw[hm];unfold asd;rw[if_pos h0,if_pos (by simp),d3s,a6K (by decide)]
  ·show B3 (hO x) ⟨9,a,b,c⟩=_;rw[hr,hnm];unfold asd;rw[if_pos h0,if_pos (by simp),d3s,c4T (by decide)]
 ·have has:asd x b=(sd x b,0):=by unfold asd;rw[if_neg h0]
  have hl:=(b2b hx.sh b).resolve_left h0;rw[has,if_neg (by simp)] at hm hnm
  dsimp only at hm hnm;have g2:b2O (hO x).T (sd x b)=(J8 x.T (sd x b)).bind λv=>some (v.1,v.2):=by
   unfold b2O;rw[show (hO x).T=x.T.map J5 from rfl,c40 hT]
  unfold b1b at hm;rw[g2] at hnm;right;by_cases hv:∃v,Has x.T (sd x b) v
  ·obtain⟨v,hv⟩:=hv;rw[c0M hT hv] at hm hnm;refine .inr ⟨hl,v,hv,a5E hx hS (by omega) hc ha (.inr (hx.sh.pr _ _ hv).2) ?_ hnm⟩
   rw[hm,d3s,d3s];dsimp only;rw[a8E hx hS ha (.inr (hx.sh.pr _ _ hv).2)];rfl
  ·have hv':∀v,¬Has x.T (sd x b) v:=λv q=>hv ⟨v,q⟩;rw[c13 hT hv'] at hm hnm;refine .inl ⟨hl,hv',by decide,?_,?_⟩
   ·rw[hm,d3s,d3s];dsimp only;rw[c0g (by decide),d3s,d3s]
    exact a6K (e:=9) (by decide)
   ·show B3 (hO x) ⟨9,a,b,c⟩=_;rw[hr,hnm,d3s,d3s,d3s];exact c4T (e:=9) (by decide)
end
end Go.Sh
namespace Go.Sh
section
variable{x:Hp}{a b c:Int}
theorem d0P{z:Hp}(hz:L5 z)(hS:SL z){k:Int}{r:Int}(hk:k=5∧r=c∨(k=6∨k=8)∧r=b):doR x ⟨k,a,b,c⟩ (z,0)=some (a1p z,V4 z (sd z r),0):=by
 unfold doR T0;rw[if_neg (by simp),a3H hz hS,d3s]
 simp only[jn];rcases hk with ⟨rfl,rfl⟩ | ⟨rfl | rfl,rfl⟩
 ·rw[if_pos (by rfl),c0B hz.sh]
  rfl
 ·rw[if_neg (by decide),if_pos (by rfl),if_pos (by rfl),c0B hz.sh]
  rfl
 ·rw[if_neg (by decide),if_neg (by decide),if_pos (by rfl),c0B hz.sh]
  rfl
variable(hx:L5 x)(hS:SL x)
include hx hS
theorem d1u{z:Hp}(hz:L5 z)(zS:SL z){h:Int}(hh:h=0∨h∈lv x.S):rO (hO x) (hO z,h,0)=some (hO (a1p z),V4 x h,0):=by
 unfold rO;rw[if_neg (by simp),a5A hz zS,d3s,c5g hx.sh (b0q hx hS hh)]
 rfl
theorem a9A{z:Hp}(hz:L5 z)(zS:SL z)(k:Ks x.S z.S)(er:z.Roots=x.Roots){kd r:Int}(hk:kd=5∧r=c∨(kd=6∨kd=8)∧r=b)(hc:z7 kd a b c=0)(cw:Cw x z (if kd=6 then a else -1))
  (h1:r8 x ⟨kd,a,b,c⟩=doR x ⟨kd,a,b,c⟩ (z,0))(h2:a1l (hO x) ⟨kd,a,b,c⟩=some (hO z,sd x r,0)):Dn x ⟨kd,a,b,c⟩ z (V4 x (sd x r)):=by
 refine⟨hz,zS,k.ev,cw,?_,?_⟩;·rw[h1,d0P hz zS hk,c7m er,d0b hx.sh k (b2b hx.sh r)]
 ·show B3 (hO x) ⟨kd,a,b,c⟩=_;rw[c1i (by omega) hc,h2,d3s,d1u hx hS hz zS (b2b hx.sh r)]
theorem d5(hc:z7 5 a b c=0):(sd x a=0∧Er x ⟨5,a,b,c⟩ 2)∨(∃e,a2e x (sd x a) b (sd x c)=some (x,e)∧Er x ⟨5,a,b,c⟩ e) ∨
  (sd x a∈lv x.S∧∃n:Nat,b=n∧n<(ob x.S (sd x a)).Fields.length∧Dn x ⟨5,a,b,c⟩ (a00 x (sd x a) n (sd x c)) (V4 x (sd x c))):=by
 obtain⟨ha,hb,hcc⟩:=d2n hc;have hm:r8 x ⟨5,a,b,c⟩=_:=d2w hc;unfold U5 at hm;rw[a5m hx.sh,d3s] at hm;have hr:B3 (hO x) ⟨5,a,b,c⟩=_:=c1i (by omega) hc
 have hnm:a1l (hO x) ⟨5,a,b,c⟩=(W2 (hO x) a).bind λv4=>if (v4.2 != 0) then some (hO x,0,v4.2) else (a5s (hO x) c).bind λv5=>(a5r (hO x) v4.1 b v5).bind λv6=>some (v6.1,v5,v6.2):=rfl
 rw[a9V hx.sh ha,d3s,c5d hx.sh (by omega)] at hnm
 by_cases h0:sd x a=0
 ·have has:asd x a=(0,2):=by unfold asd;rw[if_pos h0]
  rw[has,if_pos (by simp)] at hm hnm
  refine .inl ⟨h0,by decide,?_,?_⟩
  ·rw[hm,d3s];exact a6K (e:=2) (by decide)
  ·show B3 (hO x) ⟨5,a,b,c⟩=_;rw[hr,hnm,d3s];exact c2j (e:=2) (by decide)
 ·have has:asd x a=(sd x a,0):=by unfold asd;rw[if_neg h0]
  rw[has,if_neg (by simp)] at hm hnm
  dsimp only at hm hnm;rw[a6u hx.sh,d3s] at hm;rw[d3s] at hnm;right;rcases c3I hx hS (sd x a) b (sd x c) (b2c hx.sh a) (b2c hx.sh c) with ⟨e,he,f1,f2⟩ | ⟨hl,hv,n,hn0,hn,f1,f2⟩
  ·refine .inl ⟨e,f1,he,?_,?_⟩;·rw[hm,f1,d3s,d3s,a6K he]
   ·show B3 (hO x) ⟨5,a,b,c⟩=_;rw[hr,hnm,f2,d3s,d3s,c2j he]
  ·refine .inr ⟨hl,n,hn0,hn,a9A hx hS (b53 hx hl hn hv) (c1Y hx.sh.sr hS hl _ _) (b41 hx.sh.sr hl hn _) (a7j _ _ _ _).1 (.inl ⟨rfl,rfl⟩) hc (Cw.same (a7j _ _ _ _).2.1 _) ?_ ?_⟩
   ·rw[hm,f1];rfl
   ·rw[hnm,f2];rfl
theorem d6(hc:z7 6 a b c=0):(sd x b=0∧Er x ⟨6,a,b,c⟩ 2)∨(∃e,a0k x a (sd x b) c=some (x,e)∧Er x ⟨6,a,b,c⟩ e) ∨
  (wts x.Q a=false∧Dn x ⟨6,a,b,c⟩ (a15 x a.toNat (sd x b) c) (V4 x (sd x b))):=by
 obtain⟨ha,hb,hcc⟩:=d2o hc;have hm:r8 x ⟨6,a,b,c⟩=_:=d2x hc;unfold Q9 at hm;have hr:B3 (hO x) ⟨6,a,b,c⟩=_:=c1i (by omega) hc
 have key:(r8 x ⟨6,a,b,c⟩=(((a0k x a (sd x b) c).bind λv1=>some (v1.1,v1.2)).bind (doR x ⟨6,a,b,c⟩))∧a1l (hO x) ⟨6,a,b,c⟩=(a3Z (hO x) a (sd x b) c).bind λv1=>some (v1.1,sd x b,v1.2))∨(sd x b=0∧Er x ⟨6,a,b,c⟩ 2):=by
  by_cases h1:b = -1
  ·subst h1;left;rw[b35 hx.sh (r:=-1) (by omega)]
   refine⟨?_,rfl⟩;rw[hm,if_pos (by rfl)]
  ·rw[if_neg (by simpa using h1),a5m hx.sh,d3s] at hm
   have hnm:a1l (hO x) ⟨6,a,b,c⟩=(W2 (hO x) b).bind λv4=>if (v4.2 != 0) then some (hO x,0,v4.2) else (a3Z (hO x) a v4.1 c).bind λv7=>some (v7.1,v4.1,v7.2):=by
    unfold a1l;rw[if_neg (by simp;omega)]
    rfl
   rw[a9V hx.sh (by omega),d3s] at hnm
   by_cases h0:sd x b=0
   ·have has:asd x b=(0,2):=by unfold asd;rw[if_pos h0]
    rw[has,if_pos (by simp)] at hm hnm
    refine .inr ⟨h0,by decide,?_,?_⟩
    ·rw[hm,d3s];exact a6K (e:=2) (by decide)
    ·show B3 (hO x) ⟨6,a,b,c⟩=_;rw[hr,hnm,d3s];exact c2j (e:=2) (by decide)
   ·have has:asd x b=(sd x b,0):=by unfold asd;rw[if_neg h0]
    rw[has,if_neg (by simp)] at hm hnm
    exact .inl ⟨hm,hnm⟩
 rcases key with ⟨hm,hnm⟩ | key
 ·right;rcases c7D hx a (sd x b) c (b2c hx.sh b) hcc with ⟨e,he,f1,f2⟩ | ⟨hh,n,rfl,hn,hw,f1,f2⟩
  ·refine .inl ⟨e,f1,he,?_,?_⟩;·rw[hm,f1,d3s,d3s,a6K he]
   ·show B3 (hO x) ⟨6,a,b,c⟩=_;rw[hr,hnm,f2,d3s,d3s,c2j he]
  ·rw[Int.toNat_natCast];obtain⟨r1,r2,_,_⟩:=b4i x n (sd x b) c;refine .inr ⟨hw,a9A hx hS (b8O hx hn hh hcc hw) (c5t hx hS hn _ _) (b8N hx hn _ _) r1 (.inr ⟨.inl rfl,rfl⟩) hc (by rw[if_pos rfl];exact Cw.set r2) ?_ ?_⟩
   ·rw[hm,f1];rfl
   ·rw[hnm,f2];rfl
 ·exact .inl key
theorem d8(hc:z7 8 a b c=0):(sd x a=0∧Er x ⟨8,a,b,c⟩ 2)∨(sd x a∈lv x.S∧∃e,a3y x (sd x a) (sd x b)=some (x,e)∧Er x ⟨8,a,b,c⟩ e) ∨
  (sd x a∈lv x.S∧∃r,R6 x.T (sd x a) (sd x b)=some r∧r.2.2=0∧Dn x ⟨8,a,b,c⟩ (a5o x (sd x b) r.1 r.2.1) (V4 x (sd x b))):=by
 obtain⟨ha,hb⟩:=d2q hc;have hm:r8 x ⟨8,a,b,c⟩=_:=d2z hc;unfold Y6 at hm;rw[a5m hx.sh,d3s] at hm;have hr:B3 (hO x) ⟨8,a,b,c⟩=_:=c1i (by omega) hc
 have hnm:a1l (hO x) ⟨8,a,b,c⟩=(W2 (hO x) a).bind λv4=>if (v4.2 != 0) then some (hO x,0,v4.2) else (a5s (hO x) b).bind λv8=>(a7D (hO x) v4.1 v8).bind λv9=>some (v9.1,v8,v9.2):=rfl
 rw[a9V hx.sh ha,d3s,c5d hx.sh (by omega)] at hnm
 by_cases h0:sd x a=0
 ·have has:asd x a=(0,2):=by unfold asd;rw[if_pos h0]
  rw[has,if_pos (by simp)] at hm hnm
  refine .inl ⟨h0,by decide,?_,?_⟩
  ·rw[hm,d3s];exact a6K (e:=2) (by decide)
  ·show B3 (hO x) ⟨8,a,b,c⟩=_;rw[hr,hnm,d3s];exact c2j (e:=2) (by decide)
 ·have has:asd x a=(sd x a,0):=by unfold asd;rw[if_neg h0]
  have hl:=(b2b hx.sh a).resolve_left h0;rw[has,if_neg (by simp)] at hm hnm
  dsimp only at hm hnm;rw[a6u hx.sh,d3s] at hm;rw[d3s] at hnm;right;rcases c61 hx hS (sd x a) (sd x b) (b2c hx.sh a) (b2c hx.sh b) with ⟨e,he,f1,f2⟩ | ⟨hl,hv,r,r1,r2,f1,f2⟩
  ·refine .inl ⟨hl,e,f1,he,?_,?_⟩;·rw[hm,f1,d3s,d3s,a6K he]
   ·show B3 (hO x) ⟨8,a,b,c⟩=_;rw[hr,hnm,f2,d3s,d3s,c2j he]
  ·refine .inr ⟨hl,r,r1,r2,a9A hx hS (b8b hx hl hv r1 r2) (c4I hx.sh.sr hS _ _ _) (b8a hx.sh.sr _ _ _) (a9B _ _ _ _).1 (.inr ⟨.inr rfl,rfl⟩) hc (Cw.same (a9B _ _ _ _).2.1 _) ?_ ?_⟩
   ·rw[hm,f1];rfl
   ·rw[hnm,f2];rfl
theorem d10(hz:zr x = [])(hc:z7 10 a b c=0):Dn x ⟨10,a,b,c⟩ x (if sd x a=sd x b then 1 else 0):=by
 obtain⟨ha,hb⟩:=d0L hc;refine⟨hx,hS,Ev.refl x,Cw.refl x _,?_,?_⟩
 ·rw[d0Q hc];unfold N5 doR T0;rw[d3s,if_neg (by simp),a3H hx hS,d3s]
  simp only[jn];rw[if_neg (by decide),if_neg (by decide),if_neg (by decide),if_pos (by rfl),a6u hx.sh,d3s,a6u hx.sh,d3s]
  by_cases q:sd x a=sd x b
  ·rw[if_pos (by simpa using q),if_pos q]
   rfl
  ·rw[if_neg (by simpa using q),if_neg q]
   rfl
 ·show B3 (hO x) ⟨10,a,b,c⟩=_;rw[c93 hc,show (hO x).Roots=x.Roots from rfl,b2a hx.sh ha,d3s,b2a hx.sh hb,d3s,b8A hz];by_cases q:sd x a=sd x b
  ·rw[if_pos (by simpa using q),if_pos q]
  ·rw[if_neg (by simpa using q),if_neg q]
theorem d1(hb:x.S.Serial<9223372036854775807)(hc:z7 1 a b c=0):(∃e,Q6 x.S b c=some (x.S,0,e)∧Er x ⟨1,a,b,c⟩ e) ∨
  (b.toNat≤4∧(-1≤c∧c≤5)∧∃i,Fst x.S i∧Dn x ⟨1,a,b,c⟩ (E3 (wS x (mkS x.S i b.toNat c)) a.toNat (hdl x.S i)) (x.S.Serial+1)):=by
 obtain⟨ha,hbb,hcc⟩:=d2k hc;have hR:=hx.sh.sr;have hm:r8 x ⟨1,a,b,c⟩=_:=d2s hc;unfold Q8 at hm;dsimp only at hm;have hr:B3 (hO x) ⟨1,a,b,c⟩=_:=d1z hc;rw[show (hO x).S=sO x.S from rfl] at hr;rcases d09 hR hb b c with ⟨e,he,f1,f2⟩ | ⟨_,_,i,hF,f1,f2⟩
 ·refine .inl ⟨e,f1,he,?_,?_⟩;·rw[hm,f1,d3s,if_pos (by simpa using he),d3s,a6K he]
  ·show B3 (hO x) ⟨1,a,b,c⟩=_;rw[hr,f2,d3s,if_pos (by simpa using he)]
 ·refine .inr ⟨by omega,hcc,i,hF,?_⟩
  obtain⟨hi,h0,_⟩:=hF;have hn:b.toNat≤4:=by omega
  have hy:=c4h hx hi h0 hn hcc;have yS:=d1c hx hS hi h0 hn hcc;have hh:hdl x.S i=0∨hdl x.S i∈lv (wS x (mkS x.S i b.toNat c)).S:=.inr (by
   show _∈lv (mkS x.S i b.toNat c);rw[c00 hR hi h0 hn hcc];exact List.mem_append_right _ (List.mem_singleton.2 rfl))
  have hz:=Z7 hy (r:=a.toNat) (by omega) hh
  have zS:=a36 hy.sh.sr yS a.toNat (hdl x.S i);obtain⟨e1,e2⟩:=a8w hy ha hh;have e3:V4 (wS x (mkS x.S i b.toNat c)) (hdl x.S i)=x.S.Serial+1:=by
   show (ob (mkS x.S i b.toNat c) (hdl x.S i)).Serial=_;rw[b1p hR hi h0 hn hcc]
  refine⟨hz,zS,(d1b hx hi h0 hn hcc).ks (a0P hy.sh.sr a.toNat _),Cw.same (a35 (wS x (mkS x.S i b.toNat c)) a.toNat _).2.1 _,?_,?_⟩
  ·rw[hm,f1,d3s,if_neg (by simp)]
   dsimp only;rw[show A5 ⟨⟨mkS x.S i b.toNat c,x.Roots,x.a8,x.T,x.Q⟩,⟨1,a,b,c⟩⟩ (hdl x.S i) 0=_ from a8E hy yS ha hh,d3s,d3s,c7N hz zS (by omega),e1,e2,e3]
  ·show B3 (hO x) ⟨1,a,b,c⟩=_;rw[hr,f2,d3s,if_neg (by simp)]
   dsimp only;rw[show V3 ⟨sO (mkS x.S i b.toNat c),(hO x).Roots,(hO x).a8,(hO x).T,(hO x).Q⟩ a (hdl x.S i)=_ from b90 hy yS a (b0q hy yS hh),if_neg (by omega),if_pos hh,d3s,a5A hz zS,d3s,d0J (a2p hz).sh,e1,e2,e3]
   rfl
end
theorem c8S{x:Hp}(hx:L5 x)(hS:SL x)(hz:zr x = [])(hb:x.S.Serial<9223372036854775807)(o:g9):(∃e,Er x o e)∨∃z v,Dn x o z v:=by
 obtain⟨k,a,b,c⟩:=o;by_cases hc:z7 k a b c=0
 ·have:=c0U hc;have hk:k=1∨k=2∨k=3∨k=4∨k=5∨k=6∨k=7∨k=8∨k=9∨k=10∨k=11∨k=12:=by omega
  rcases hk with rfl | rfl | rfl | rfl | rfl | rfl | rfl | rfl | rfl | rfl | rfl | rfl
  ·rcases d1 hx hS hb hc with ⟨e,_,h⟩ | ⟨_,_,i,_,h⟩;·exact .inl ⟨e,h⟩
   ·exact .inr ⟨_,_,h⟩
  ·exact .inr ⟨_,_,d2 hx hS hc⟩
  ·exact .inr ⟨_,_,d3 hx hS hc⟩
  ·rcases d4 hx hS hc with ⟨_,h⟩ | ⟨e,_,h⟩ | ⟨_,n,_,_,h⟩;·exact .inl ⟨_,h⟩
   ·exact .inl ⟨_,h⟩
   ·exact .inr ⟨_,_,h⟩
  ·rcases d5 hx hS hc with ⟨_,h⟩ | ⟨e,_,h⟩ | ⟨_,n,_,_,h⟩;·exact .inl ⟨_,h⟩
   ·exact .inl ⟨_,h⟩
   ·exact .inr ⟨_,_,h⟩
  ·rcases d6 hx hS hc with ⟨_,h⟩ | ⟨e,_,h⟩ | ⟨_,h⟩;·exact .inl ⟨_,h⟩
   ·exact .inl ⟨_,h⟩
   ·exact .inr ⟨_,_,h⟩
  ·obtain⟨_,⟨_,h⟩ | ⟨_,h⟩⟩:=d7 hx hS hc;·exact .inl ⟨_,h⟩
   ·exact .inr ⟨_,_,h⟩
  ·rcases d8 hx hS hc with ⟨_,h⟩ | ⟨_,e,_,h⟩ | ⟨_,r,_,_,h⟩;·exact .inl ⟨_,h⟩
   ·exact .inl ⟨_,h⟩
   ·exact .inr ⟨_,_,h⟩
  ·rcases d9 hx hS hc with ⟨_,h⟩ | ⟨_,_,h⟩ | ⟨_,v,_,h⟩;·exact .inl ⟨_,h⟩
   ·exact .inl ⟨_,h⟩
   ·exact .inr ⟨_,_,h⟩
  ·exact .inr ⟨_,_,d10 hx hS hz hc⟩
  ·obtain⟨h1,h2⟩:=b5X (x:=x) (a:=a) (b:=b) (c:=c) (.inl rfl) hc;exact .inl ⟨14,by decide,h1,h2⟩
  ·obtain⟨h1,h2⟩:=b5X (x:=x) (a:=a) (b:=b) (c:=c) (.inr rfl) hc;exact .inl ⟨14,by decide,h1,h2⟩
 ·obtain⟨h1,h2⟩:=c3v (x:=x) (o:=⟨k,a,b,c⟩) hc;exact .inl ⟨_,hc,h1,h2⟩
end Go.Sh
namespace Go.Sh
noncomputable def dov(x:Hp)(o:g9):Hp × Int × Int:=(r8 x o).getD (x,0,0)
structure Nxt (x:Hp) (o:g9) (y:Hp) (v e:Int):Prop where
 rt:L5 y
 sl:SL y
 zr:zr y = []
 ev:Ev x y
 cw:Cw x y (if o.Kind=6 then o.A else -1)
 er:e≠0→y=x∧v=0
 mc:r8 x o=some (y,v,e)
 rf:B3 (hO x) (opR o)=some (hO y,v,e)
theorem Dn.nxt{x z:Hp}{o:g9}{v:Int}(d:Dn x o z v):Nxt x o (a1p z) v 0:=by
 have st:=a7R d.rt;exact⟨a2p d.rt,c1z d.rt d.sl,b5y d.rt,d.ev.stl st,d.cw.trans (st.cw _),λh=>absurd rfl h,d.mc,d.rf⟩
theorem c6M{x:Hp}(hx:L5 x)(hS:SL x)(hz:zr x = [])(hb:x.S.Serial<9223372036854775807)(o:g9):∃y v e,Nxt x o y v e:=by
 rcases c8S hx hS hz hb o with ⟨e,h1,h2,h3⟩ | ⟨z,v,d⟩;·exact⟨x,0,e,hx,hS,hz,Ev.refl x,Cw.refl x _,λ_=>⟨rfl,rfl⟩,h2,h3⟩
 ·exact⟨_,_,_,d.nxt⟩
theorem a6e{x:Hp}(hx:L5 x)(hS:SL x)(hz:zr x = [])(hb:x.S.Serial<9223372036854775807)(o:g9):Nxt x o (dov x o).1 (dov x o).2.1 (dov x o).2.2:=by
 obtain⟨y,v,e,h⟩:=c6M hx hS hz hb o;have:dov x o=(y,v,e):=by unfold dov;rw[h.mc];rfl
 rw[this];exact h
noncomputable def runs(x:Hp)(l:List g9):Hp × List Int:=l.foldl (λp o=>((dov p.1 o).1,p.2 ++ [(dov p.1 o).2.1])) (x,[])
theorem a8z(x:Hp)(l:List g9)(o:g9):runs x (l ++ [o])=((dov (runs x l).1 o).1,(runs x l).2 ++ [(dov (runs x l).1 o).2.1]):=by
 unfold runs;rw[List.foldl_append];rfl
theorem b8w{x:Hp}(hx:L5 x)(hS:SL x)(hz:zr x = [])(l:List g9)(hb:x.S.Serial+l.length<9223372036854775807)(P:Hp→Prop)(h0:P x)
  (hs:∀(y:Hp) (o:g9),o∈l→L5 y→Nxt y o (dov y o).1 (dov y o).2.1 (dov y o).2.2→P y→P (dov y o).1):∀k,k≤l.length →
  L5 (runs x (l.take k)).1∧SL (runs x (l.take k)).1∧zr (runs x (l.take k)).1 = []∧(runs x (l.take k)).1.S.Serial≤x.S.Serial+k∧(runs x (l.take k)).2.length=k∧P (runs x (l.take k)).1
 | 0,_=>⟨hx,hS,hz,by show x.S.Serial≤_;omega,rfl,h0⟩
 | k+1,hk=>by
  obtain⟨a1,a2,a3,a4,a5,a6⟩:=b8w hx hS hz l hb P h0 hs k (by omega)
  have hk':k<l.length:=by omega
  have n:=a6e a1 a2 a3 (by omega) l[k]
  rw[K8 hk',a8z];exact⟨n.rt,n.sl,n.zr,by have:=n.ev.s2;show (dov _ _).1.S.Serial≤_;omega,by simp[a5],hs _ _ (List.getElem_mem hk') a1 n a6⟩
theorem run_eq{x:Hp}(hx:L5 x)(hS:SL x)(hz:zr x = [])(l:List g9)(hl:l.length≤1000)(hb:x.S.Serial+l.length<9223372036854775807) :
  a2J x l=some (runs x l)∧b2P (hO x) (l.map opR)=some (hO (runs x l).1,(runs x l).2):=by
 have all:=b8w hx hS hz l hb (λ_=>True) trivial (λ_ _ _ _ _ _=>trivial);constructor
 ·unfold a2J;simp only[jn];refine M1 (T:=Hp × List Int) l.length (λk acc=>acc=runs x (l.take k)) (by omega) rfl (λk acc hk hP=>?_) (λacc hP=>?_)
  ·subst hP;obtain⟨a1,a2,a3,a4,a5,_⟩:=all k (by omega)
   have n:=a6e a1 a2 a3 (by omega) l[k]
   refine .inl ⟨_,?_,rfl⟩;rw[K8 hk,a8z];show (if _ then _ else _)=_
   rw[if_pos (by simpa using hk),o5 hk,d3s,n.mc,d3s,y5 (by omega) (by rw[a5];simp;omega),d3s,l6]
  ·subst hP;refine⟨runs x (l.take l.length),?_,?_⟩
   ·show (if _ then _ else _)=_
    rw[if_neg (by simp)]
   ·rw[List.take_length]
 ·unfold b2P;simp only[jn];refine M1 (T:=g6 × List Int) (l.map opR).length (λk acc=>acc=(hO (runs x (l.take k)).1,(runs x (l.take k)).2)) (by simp;omega) rfl (λk acc hk hP=>?_) (λacc hP=>?_)
  ·subst hP;have hk':k<l.length:=by simpa using hk
   obtain⟨a1,a2,a3,a4,a5,_⟩:=all k (by omega)
   have n:=a6e a1 a2 a3 (by omega) l[k]
   refine .inl ⟨_,?_,rfl⟩;rw[K8 hk',a8z];show (if _ then _ else _)=_
   rw[if_pos (by simpa using hk'),o5 hk,d3s,List.getElem_map]
   dsimp only;rw[n.rf,d3s,y5 (by omega) (by rw[a5];simp;omega),d3s,l6]
  ·subst hP;refine⟨(hO (runs x (l.take (l.map opR).length)).1,(runs x (l.take (l.map opR).length)).2),?_,?_⟩
   ·show (if _ then _ else _)=_
    rw[if_neg (by simp)]
   ·rw[List.length_map,List.take_length]
end Go.Sh
namespace Go.Sh
section
variable{x:Hp}(hB:HB x)
include hB
end
end Go.Sh
namespace Go.Sh
def nwH(k:Nat)(l:Int)(p:Nat):Hp:=⟨⟨⟨List.replicate k ⟨0,0,z0⟩,l⟩,0⟩,List.replicate 6 0,List.replicate 6 ⟨0,false,-1⟩,List.replicate p ⟨0,0,0⟩,⟨[],30⟩⟩
theorem c3V{k p:Nat}{l:Int}(hk:1≤k∧k≤24)(hl:0≤l∧l≤9)(hp:1≤p∧p≤8) :
  a3T k l p=some (nwH k l p)∧b0E k l p=some (hO (nwH k l p))∧L5 (nwH k l p)∧SL (nwH k l p)∧zr (nwH k l p) = []:=by
 have e1:a3I k l=some (nwH k l p).S:=by
  unfold a3I U7;rw[if_neg (by simp;omega),a7v (by omega) (by omega)]
  rfl
 obtain⟨a,h1,h2,h3,_⟩:=d1i k l;rw[e1] at h1;have ha:=Option.some.inj h1;subst ha;have hR:SR (nwH k l p).S:=r7.1 h3;have hce:∀i,ce (nwH k l p).S i=⟨0,0,z0⟩:=λi=>by
  unfold ce nwH;dsimp only;rw[List.getD_eq_getElem?_getD,List.getElem?_replicate];split <;> rfl
 have hlv:lv (nwH k l p).S = []:=List.eq_nil_iff_forall_not_mem.2 λh hh=>by
  obtain⟨i,q⟩:=(a3g hR).1 hh;have:=q.2.1;rw[hce] at this;cases this
 refine⟨?_,?_,⟨⟨hR,(d0n (V:=Int) (λ_ _=>True) hp.1 hp.2).1,rfl,rfl,rfl,Nat.zero_le _,(λt ht=>nomatch ht),List.Pairwise.nil,(λh hh=>.inl (List.mem_replicate.1 hh).2),λh hh=>?_,λa v hv=>?_,λi hi=>?_⟩,λi hi ht=>?_,λh hh=>?_⟩,λh hh=>?_,?_⟩
 ·unfold a3T;rw[if_neg (by simp;omega),e1,d3s,show mk 8 6 (0:Int)=some (List.replicate 6 0) from rfl,d3s]
  refine bnd (a:=List.replicate 6 ⟨0,false,-1⟩) (by kernel_rfl) ?_
  rw[c9t hp.1 hp.2,d3s];refine bnd (a:=⟨[],30⟩) (by kernel_rfl) ?_
  rfl
 ·unfold b0E;rw[if_neg (by simp;omega),h2,d3s,show mk 8 6 (0:Int)=some (List.replicate 6 0) from rfl,d3s]
  refine bnd (a:=List.replicate 6 ⟨0,false,-1⟩) (by kernel_rfl) ?_
  unfold c1d;rw[if_neg (by simp;omega),a7v (by omega) (by omega),d3s,d3s]
  refine bnd (a:=⟨[],30⟩) (by kernel_rfl) ?_
  unfold hO nwH;dsimp only;rw[List.map_replicate,List.map_replicate];rfl
 ·rw[hlv] at hh;cases hh
 ·obtain⟨i,hi,_⟩:=hv;have:=hi.2.1;rw[show (nwH k l p).T=List.replicate p ⟨0,0,0⟩ from rfl,b3E] at this;cases this
 ·have:(nwH k l p).a8[i]=⟨0,false,-1⟩:=List.getElem_replicate ..;rw[this];exact⟨by decide,by decide,λ_=>rfl,λh=>absurd rfl h,λh=>by cases h⟩
 ·rw[hce] at ht;rcases ht with h | h <;> cases h
 ·rw[hlv] at hh;cases hh
 ·rw[hlv] at hh;cases hh
 ·unfold zr;rw[hlv];rfl
end Go.Sh
namespace Go.Sh
end Go.Sh
namespace Go.Sh
section
variable{x:Hp}(hB:HB x)
include hB
end
end Go.Sh
namespace Go.Sh
def b2l(o:g9):N9:=⟨o.Kind,o.A,o.B,o.C⟩
abbrev b5O(o:g9):Int:=z7 o.Kind o.A o.B o.C
theorem c0G(k a b c:Int):T8 [k,a,b,c]=some (if z7 k a b c≠0 then (⟨0,0,0,0⟩,z7 k a b c) else (⟨k,a,b,c⟩,0)):=by
 unfold T8;rw[if_neg (by simp)]
 show (P9 ⟨k,a,b,c⟩).bind _=_;rw[a7d,d3s];by_cases h:z7 k a b c=0
 ·rw[if_neg (by simpa using h),if_neg (by simpa using h)]
 ·rw[if_pos (by simpa using h),if_pos h]
theorem c3u(k a b c:Int):a2j [k,a,b,c]=some (if z7 k a b c≠0 then (⟨0,0,0,0⟩,z7 k a b c) else (⟨k,a,b,c⟩,0)):=by
 unfold a2j;rw[if_neg (by simp)]
 show (a1k ⟨k,a,b,c⟩).bind _=_;rw[a4p,d3s];by_cases h:z7 k a b c=0
 ·rw[if_neg (by simpa using h),if_neg (by simpa using h)]
 ·rw[if_pos (by simpa using h),if_pos h]
theorem four(l:List Int):(∃k a b c,l = [k,a,b,c])∨l.length≠4:=by
 match l with
 | []=>exact .inr (by simp)
 | [_]=>exact .inr (by simp)
 | [_,_]=>exact .inr (by simp)
 | [_,_,_]=>exact .inr (by simp)
 | [k,a,b,c]=>exact .inl ⟨k,a,b,c,rfl⟩
 | _::_::_::_::_::l=>exact .inr (by simp)
theorem b5V{l:List Int}(h:l.length≠4):T8 l=some (⟨0,0,0,0⟩,14)∧a2j l=some (⟨0,0,0,0⟩,14):=by
 unfold T8 a2j;have:(((l.length:Int) != 4))=true:=by simp;omega
 rw[if_pos this,if_pos this];exact⟨rfl,rfl⟩
def a0H(l:List Int):g9 × Int:=(T8 l).getD (⟨0,0,0,0⟩,0)
theorem b7D(l:List Int):T8 l=some (a0H l)∧a2j l=some (b2l (a0H l).1,(a0H l).2):=by
 unfold a0H;rcases four l with ⟨k,a,b,c,rfl⟩ | h
 ·rw[c0G,c3u];refine⟨rfl,?_⟩;rw[Option.getD_some];by_cases h:z7 k a b c≠0
  ·rw[if_pos h,if_pos h];rfl
  ·rw[if_neg h,if_neg h];rfl
 ·rw[(b5V h).1,(b5V h).2];exact⟨rfl,rfl⟩
def b0x(o:g9):Bool:=((decide (o.Kind≥1))&&(decide (o.Kind≤10)))&&(b5O o==0)
def b15(p:List g9):Bool:=decide (p.length≤6)&&p.all b0x
def a6j(l:List (List g9)):Bool:=decide (l.length≤6)&&l.all b15
section
variable{l:List (List g9)}(hl:l.length≤12)(hp:∀p∈l,p.length≤12)
include hl hp
theorem c4P:a18 l=some (a6j l):=by
 unfold a18 a6j;by_cases h6:l.length > 6
 ·rw[if_pos (by simp;omega),decide_eq_false (by omega)]
  rfl
 ·rw[if_neg (by simp;omega),decide_eq_true (by omega),Bool.true_and]
  simp only[jn];have key:=b6m (f:=λ(s23:Int)=>
   if (decide (s23<(l.length:Int))) then
     (ix l s23).bind λv34=>
     if (decide ((v34.length:Int) > 6)) then
      some (.inr (.inl false))
     else
     (lp (S:=Int) (E:=Bool ⊕ Unit) (λ(s36:Int)=>
      if (decide (s36<(v34.length:Int))) then
       (ix v34 s36).bind λv38=>
       (a17 v38).bind λv39=>
       (u6 ((!v39)==false) 0 (P9 v38)).bind λv40=>
       if ((!v39)||(v40 != 0)) then
        some (.inr (.inl false))
       else
       some (.inl (p7 (s36+1)))
      else
      some (.inr (.inr ()))) 0).bind λe35=>
     match e35 with
     | .inl w=>some (.inr (.inl w))
     | .inr w=>some (Sum.inl (p7 (s23+1)))
   else
   some (.inr (.inr ()))) l b15 (.inr ()) (Sum.inl (β:=Unit) false) (by omega) (λk hk=>?_) (by simp)
  ·refine bnd key ?_;cases l.all b15 <;> rfl
  ·rw[if_pos (by simpa using hk),o5 hk,d3s]
   unfold b15;have hm:=hp _ (List.getElem_mem hk);generalize l[k]=p at hm ⊢;by_cases hq:p.length > 6
   ·rw[if_pos (by simp;omega),decide_eq_false (by omega)]
    rfl
   ·rw[if_neg (by simp;omega),decide_eq_true (by omega),Bool.true_and]
    have k2:=b6m (f:=λ(s36:Int)=>
      if (decide (s36<(p.length:Int))) then
       (ix p s36).bind λv38=>
       (a17 v38).bind λv39=>
       (u6 ((!v39)==false) 0 (P9 v38)).bind λv40=>
       if ((!v39)||(v40 != 0)) then
        some (.inr (.inl false))
       else
       some (Sum.inl (p7 (s36+1)))
      else
      some (.inr (.inr ()))) p b0x (.inr ()) (Sum.inl (β:=Unit) false) (by omega) (λj hj=>?_) (by simp)
    ·refine Eq.trans (bnd k2 (r:=if p.all b0x=true then some (.inl (p7 ((k:Int)+1))) else some (.inr (.inl false))) ?_) ?_
     ·cases p.all b0x <;> rfl
     ·rw[l6]
    ·rw[if_pos (by simpa using hj),o5 hj,d3s,a7d]
     unfold b0x a17;rw[d3s,l6];cases ((decide (p[j].Kind≥1))&&(decide (p[j].Kind≤10)));·rfl
     ·by_cases h:b5O p[j]=0
      ·have e:z7 p[j].Kind p[j].A p[j].B p[j].C=0:=h;rw[e,h];rfl
      ·have e1:(z7 p[j].Kind p[j].A p[j].B p[j].C != 0)=true:=by simpa using h
       have e2:(b5O p[j]==0)=false:=by simpa using h
       rw[e2];refine bnd (a:=b5O p[j]) rfl ?_;rw[show (b5O p[j] != 0)=true from e1];rfl
theorem b9Q:a8q (l.map (List.map b2l))=some (a6j l):=by
 unfold a8q a6j;rw[List.length_map];by_cases h6:l.length > 6
 ·rw[if_pos (by simp;omega),decide_eq_false (by omega)]
  rfl
 ·rw[if_neg (by simp;omega),decide_eq_true (by omega),Bool.true_and]
  simp only[jn];have key:=b6m (f:=λ(s23:Int)=>
   if (decide (s23<(l.length:Int))) then
     (ix (l.map (List.map b2l)) s23).bind λv34=>
     if (decide ((v34.length:Int) > 6)) then
      some (.inr (.inl false))
     else
     (lp (S:=Int) (E:=Bool ⊕ Unit) (λ(s36:Int)=>
      if (decide (s36<(v34.length:Int))) then
       (ix v34 s36).bind λv38=>
       (W1 v38).bind λv39=>
       (u6 ((!v39)==false) 0 (a1k v38)).bind λv40=>
       if ((!v39)||(v40 != 0)) then
        some (.inr (.inl false))
       else
       some (.inl (p7 (s36+1)))
      else
      some (.inr (.inr ()))) 0).bind λe35=>
     match e35 with
     | .inl w=>some (.inr (.inl w))
     | .inr w=>some (Sum.inl (p7 (s23+1)))
   else
   some (.inr (.inr ()))) l b15 (.inr ()) (Sum.inl (β:=Unit) false) (by omega) (λk hk=>?_) (by simp)
  ·refine bnd key ?_;cases l.all b15 <;> rfl
  ·rw[if_pos (by simpa using hk),a0V,o5 hk,Option.map_some,d3s,List.length_map]
   unfold b15;have hm:=hp _ (List.getElem_mem hk);generalize l[k]=p at hm ⊢;by_cases hq:p.length > 6
   ·rw[if_pos (by simp;omega),decide_eq_false (by omega)]
    rfl
   ·rw[if_neg (by simp;omega),decide_eq_true (by omega),Bool.true_and]
    have k2:=b6m (f:=λ(s36:Int)=>
      if (decide (s36<(p.length:Int))) then
       (ix (p.map b2l) s36).bind λv38=>
       (W1 v38).bind λv39=>
       (u6 ((!v39)==false) 0 (a1k v38)).bind λv40=>
       if ((!v39)||(v40 != 0)) then
        some (.inr (.inl false))
       else
       some (Sum.inl (p7 (s36+1)))
      else
      some (.inr (.inr ()))) p b0x (.inr ()) (Sum.inl (β:=Unit) false) (by omega) (λj hj=>?_) (by simp)
    ·refine Eq.trans (bnd k2 (r:=if p.all b0x=true then some (.inl (p7 ((k:Int)+1))) else some (.inr (.inl false))) ?_) ?_
     ·cases p.all b0x <;> rfl
     ·rw[l6]
    ·rw[if_pos (by simpa using hj),a0V,o5 hj,Option.map_some,d3s,a4p]
     unfold b0x W1;rw[d3s,l6];rw[show (b2l p[j]).Kind=p[j].Kind from rfl];cases ((decide (p[j].Kind≥1))&&(decide (p[j].Kind≤10)));·rfl
     ·by_cases h:b5O p[j]=0
      ·have e:z7 p[j].Kind (b2l p[j]).A (b2l p[j]).B (b2l p[j]).C=0:=h;rw[e,h];rfl
      ·have e1:(z7 p[j].Kind p[j].A p[j].B p[j].C != 0)=true:=by simpa using h
       have e2:(b5O p[j]==0)=false:=by simpa using h
       rw[e2];refine bnd (a:=b5O p[j]) rfl ?_;rw[show (b5O p[j] != 0)=true from e1];rfl
end
end Go.Sh
namespace Go.Sh
noncomputable def hdx(x:Hp):List Int:=hld x.S x.T
noncomputable def gbg(x:Hp):List Int:=fls x.S x.T (hdx x)
theorem a0h{x:Hp}{h:Int}:h∈gbg x↔h∈lv x.S∧¬a0E x.S x.T (hdx x) h:=by
 classical
 unfold gbg fls;rw[List.mem_filter,decide_eq_true_iff]
section
variable{x:Hp}(hx:L5 x)
include hx
theorem a21:(gbg x).Nodup:=List.Pairwise.filter _ (b0r (r7.2 hx.sh.sr))
theorem a2d:∀d∈gbg x,d∈lv x.S:=λd hd=>(a0h.1 hd).1
theorem c1s{h:Int}(hl:h∈lv x.S)(hs:(ob x.S h).Strong<12):rst x.S x.T h=(X9 (otr x) h:Int):=c3E.2 hx.fair h hl hs
theorem c0O{h:Int}(hl:h∈lv x.S)(ho:h∈otr x):h∈hdx x:=by
 refine b2C.2 ⟨hl,?_⟩;by_cases hs:(ob x.S h).Strong<12
 ·left;rw[c1s hx hl hs];have:=a1S.2 ⟨λe=>a8M hx.sh.sr (e▸hl),ho⟩;omega
 ·exact .inr (by omega)
theorem c3U{h:Int}(hh:h∈hdx x):h∈lv x.S∧(h∈otr x∨12≤(ob x.S h).Strong):=by
 obtain⟨hl,hs⟩:=b2C.1 hh;refine⟨hl,?_⟩;by_cases q:(ob x.S h).Strong<12
 ·rcases hs with hs | hs
  ·rw[c1s hx hl q] at hs;exact .inl (a1S.1 (by omega)).2
  ·omega
 ·exact .inr (by omega)
theorem c6o:∀d∈gbg x,d∉otr x:=λd hd q=>by
 obtain⟨a,b⟩:=a0h.1 hd;exact b (.base (c0O hx a q) a)
theorem c6n:∀h∈lv x.S,h∉gbg x→∀v∈(ob x.S h).Fields,v∉gbg x:=λh hh hn v hv q=>by
 obtain⟨a,b⟩:=a0h.1 q;have hr:a0E x.S x.T (hdx x) h:=Classical.byContradiction λr=>hn (a0h.2 ⟨hh,r⟩);exact b (.step hr (a6f.2 ⟨hv,λe=>a8M hx.sh.sr (e▸a)⟩) a)
theorem c6p:∀k v,Has x.T k v→k∉gbg x→v∉gbg x:=λk v hk hn q=>by
 obtain⟨a,b⟩:=a0h.1 q;have hr:a0E x.S x.T (hdx x) k:=Classical.byContradiction λr=>hn (a0h.2 ⟨(hx.sh.pr k v hk).1,r⟩);exact b (.pair hk hr a)
theorem V8:L5 (buH x (gbg x)):=b4X hx (a21 hx) (a2d hx) (c6o hx) (c6n hx) (c6p hx)
end
theorem b3Z:∀(l:List Int) {x:Hp} (hR:SR x.S) {h:Int} (hh:h∈lv x.S) (hs:12≤(ob x.S h).Strong),12≤(ob (l.foldl O5 x).S h).Strong
 | [],_,_,_,_,hs=>hs
 | v::l,x,hR,h,hh,hs=>by
  have k1:=E4 hR v (f:=a5d) λc=>L8;refine b3Z l (x:=O5 x v) k1.sr (by
   show h∈lv (stO x v a5d).S;rw[k1.lv];exact hh) ?_
  show 12≤(ob (stO x v a5d).S h).Strong;rw[b1Q (x:=x) hR (h:=v) (f:=a5d) (λc=>L8) hh];split
  ·unfold a5d;rw[if_pos hs];omega
  ·exact hs
section
variable{x:Hp}(hx:L5 x)
include hx
theorem b3l{h:Int}:h∈lv (buH x (gbg x)).S↔a0E x.S x.T (hdx x) h:=by
 rw[b9c hx.sh.sr (a21 hx) (a2d hx),List.mem_filter,decide_eq_true_iff,a0h];constructor
 ·rintro⟨a,b⟩;exact Classical.byContradiction λr=>b ⟨a,r⟩
 ·intro r;exact⟨r.live,λq=>q.2 r⟩
theorem d0X{h:Int}(hh:h∈lv (buH x (gbg x)).S):(ob (buH x (gbg x)).S h).Serial=(ob x.S h).Serial∧(ob (buH x (gbg x)).S h).Prog=(ob x.S h).Prog∧(ob (buH x (gbg x)).S h).Fields=(ob x.S h).Fields∧(ob (buH x (gbg x)).S h).Started=(ob x.S h).Started:=by
 have r:=(b3l hx).1 hh;obtain⟨n,e⟩:=b9d hx.sh.sr (a21 hx) (a2d hx) r.live (λq=>(a0h.1 q).2 r);rw[e];exact⟨rfl,rfl,rfl,rfl⟩
theorem c3O{h:Int}(hh:h∈lv (buH x (gbg x)).S)(hs:12≤(ob x.S h).Strong):12≤(ob (buH x (gbg x)).S h).Strong:=by
 have r:=(b3l hx).1 hh;have g:=a1y (gbg x) hx.sh.sr (a21 hx) (a2d hx);have hn:h∉gbg x:=λq=>(a0h.1 q).2 r;refine b3Z _ (x:=a4f x (gbg x) (wot x.T (gbg x)).1) g.sr ?_ ?_
 ·show h∈lv (gnL x.S (gbg x));rw[g.lv,List.mem_filter];exact⟨r.live,by simpa using hn⟩
 ·show 12≤(ob (gnL x.S (gbg x)) h).Strong;rw[g.ob h r.live hn];exact hs
theorem c83:otr (buH x (gbg x))=otr x:=by
 obtain⟨e1,_,_,e4⟩:=a9W hx.sh.sr (a21 hx) (a2d hx);unfold otr;rw[e1,e4,b3o _ _ _ λt ht=>by
  obtain⟨w,_,rfl,_⟩:=a3n.1 ht;simp]
theorem c6m{h:Int}(hh:a0E x.S x.T (hdx x) h):a0E (buH x (gbg x)).S (buH x (gbg x)).T (hdx (buH x (gbg x))) h:=by
 have w:=V8 hx;obtain⟨_,_,e3,_⟩:=a9W hx.sh.sr (a21 hx) (a2d hx);have hlen:(gbg x).length≤1000:=by
  have:=a3X (a21 hx) (a2d hx);have:=E1 (r7.2 hx.sh.sr);omega
 obtain⟨_,_,_,_,w5,_⟩:=a4e hx.sh.hr (gbg x) hlen;induction hh with
 | base h1 h2=>
  have hl:=(b3l hx).2 (.base h1 h2);refine .base ?_ hl;rcases (c3U hx h1).2 with q | q
  ·exact c0O w hl (by rw[c83 hx];exact q)
  ·exact b2C.2 ⟨hl,.inr (c3O hx hl q)⟩
 | step q0 q1 q2 ih=>
  refine .step ih ?_ ((b3l hx).2 (.step q0 q1 q2));unfold outs at q1 ⊢;rw[(d0X hx ((b3l hx).2 q0)).2.2.1];exact q1
 | pair q1 q0 q2 ih=>
  refine .pair ?_ ih ((b3l hx).2 (.pair q1 q0 q2));rw[e3];exact (w5 _ _).2 ⟨λq=>(a0h.1 q).2 q0,q1⟩
theorem b7K:gbg (buH x (gbg x)) = []:=List.eq_nil_iff_forall_not_mem.2 λh hh=>by
 obtain⟨a,b⟩:=a0h.1 hh;exact b (c6m hx ((b3l hx).1 a))
end
theorem b7z{x:Hp}(hx:L5 x)(hg:gbg x = []):zr x = []:=List.eq_nil_iff_forall_not_mem.2 λh hh=>by
 have hl:=(a1b.1 hh).1;have hs:=(a1b.1 hh).2;have hf:=b7g hx hh;have h0:h≠0:=λe=>a8M hx.sh.sr (e▸hl);have r:a0E x.S x.T (hdx x) h:=Classical.byContradiction λr=>by
  have:h∈gbg x:=a0h.2 ⟨hl,r⟩;rw[hg] at this;cases this
 unfold nms at hf;cases r with
 | base h1 h2=>
  rcases (c3U hx h1).2 with q | q
  ·have:=a1S.2 ⟨h0,q⟩;omega
  ·omega
 | step q0 q1 q2=>
  have:=b6j (y:=h) q0.live;have h1:=a1S.2 ⟨h0,q1⟩;omega
 | pair q1 q0 q2=>
  have:=b6x q1 h0;omega
theorem b3m{x:Hp}(hx:L5 x):a1p (buH x (gbg x))=buH x (gbg x):=b8A (b7z (V8 hx) (b7K hx))
end Go.Sh
