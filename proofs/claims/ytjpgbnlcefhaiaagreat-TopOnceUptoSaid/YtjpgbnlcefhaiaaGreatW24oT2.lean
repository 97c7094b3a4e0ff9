/-
 More of the theory.
-/
import Derived.Test.YtjpgbnlcefhaiaaGreatW24oT
set_option linter.unusedVariables false
set_option linter.unusedSimpArgs false
set_option linter.unusedSectionVars false
namespace Go.Sh
theorem a5o(x:Hp)(h:Int):(z1 x h).Roots=x.Roots∧(z1 x h).a8=x.a8∧(z1 x h).T=x.T∧(z1 x h).Q=x.Q:=by
 rw[b1x];exact⟨rfl,rfl,rfl,rfl⟩
theorem a27{x:Hp}(hR:SR x.S)(h:Int):SR (z1 x h).S:=(B5 hR h λc=>A5).sr
section
variable{x:Hp}(hx:I8 x)(hS:∀k∈lv x.S,(ob x.S k).Strong≤9223372036854775807)
include hx hS
theorem b0j{h:Int}(hh:h=0∨h∈lv x.S):h≤9223372036854775807:=by
 rcases hh with q | q
 ·omega
 ·have:=E0 hx.sh.sr q;omega
theorem c1a(k:Int){h:Int}(hh:h≤9223372036854775807):a0g x k h=some (if k<0∨5<k then (x,6) else if h=0∨h∈lv x.S then (u6 x k.toNat h,0) else (x,3)):=by
 have hR:=hx.sh.sr;have r6:=hx.sh.r6;unfold a0g;by_cases hk:k<0∨5<k
 ·rw[if_pos hk,if_pos (by rw[r6];simp;omega)]
 ·rw[if_neg hk,if_neg (by rw[r6];simp;omega),a2d hR hh,d2I];by_cases hn:h=0∨h∈lv x.S
  ·rw[if_pos hn,decide_eq_true hn,if_neg (by simp)];obtain⟨n,rfl⟩:∃n:Nat,k=n:=⟨k.toNat,by omega⟩;have hn6:n<6:=by omega
   have hnl:n<x.Roots.length:=by omega
   have old:x.Roots[n]≤9223372036854775807:=b0j hx hS (hx.sh.rt _ (List.getElem_mem hnl));have e1:=a5o x h;have hn2:n<(z1 x h).Roots.length:=by rw[e1.1];exact hnl
   rw[n9 hnl,d2I];unfold D1 M4 J5;rw[a5m hR hh hS,d2I];dsimp only;rw[K1 (by omega) (by rw[e1.1];omega),d2I,n9 hn2,d2I,d2I];have hrel:=a2j (x:=wR (z1 x h) (x.Roots.set n h)) (a27 hR h) old;rw[Int.toNat_natCast,e1.1,show B0 ⟨(z1 x h).S,x.Roots.set n h,(z1 x h).a8,(z1 x h).T,(z1 x h).Q⟩ x.Roots[n]=_ from hrel];unfold u6;rw[List.getD_eq_getElem?_getD,List.getElem?_eq_getElem hnl];rfl
  ·rw[if_neg hn,decide_eq_false hn,if_pos (by simp)]
theorem b9K(k:Int){h:Int}(hh:h≤9223372036854775807):V0 (hO x) k h=some (if k<0∨5<k then (hO x,6) else if h=0∨h∈lv x.S then (hO (u6 x k.toNat h),0) else (hO x,3)):=by
 have hR:=hx.sh.sr;have r6:=hx.sh.r6;unfold V0;by_cases hk:k<0∨5<k
 ·rw[if_pos hk,if_pos (by simp;omega)]
 ·rw[if_neg hk,if_neg (by simp;omega),b0m hR hh,d2I];by_cases hn:h=0∨h∈lv x.S
  ·rw[if_pos hn,decide_eq_true hn,if_neg (by simp)];obtain⟨n,rfl⟩:∃n:Nat,k=n:=⟨k.toNat,by omega⟩;have hnl:n<x.Roots.length:=by omega
   have hnl':n<(hO x).Roots.length:=hnl;have old:x.Roots[n]≤9223372036854775807:=b0j hx hS (hx.sh.rt _ (List.getElem_mem hnl));have e1:=a5o x h;have r6':(hO x).Roots.length=6:=r6;rw[n9 hnl',d2I,a7B hR hh hS,d2I,K1 (by omega) (by rw[r6'];omega),d2I,n9 hnl',d2I];have hrel:=a3D (x:=wR (z1 x h) (x.Roots.set n h)) (a27 hR h) old;rw[Int.toNat_natCast];rw[show D3 ⟨(hO (z1 x h)).S,(hO x).Roots.set n h,(hO (z1 x h)).a8,(hO (z1 x h)).T,(hO (z1 x h)).Q⟩ (hO x).Roots[n]=_ from hrel];unfold u6;rw[List.getD_eq_getElem?_getD,List.getElem?_eq_getElem hnl];rfl
  ·rw[if_neg hn,decide_eq_false hn,if_pos (by simp)]
omit hx hS in
theorem d0z {l:List Int} {n:Nat} (hn:n<l.length):b1H l n=some (l[n],0)∧b3w l n=some (l[n],0):=by
 constructor
 ·unfold b1H a6x;rw[d2I,if_neg (by simp;omega),n9 hn,d2I]
 ·unfold b3w;rw[if_neg (by simp;omega),n9 hn,d2I]
omit hx hS in
theorem c7u {l:List Int} {k:Int} (hk:¬(0≤k∧k<l.length)):b1H l k=some (0,5)∧b3w l k=some (0,5):=by
 constructor
 ·unfold b1H a6x;rw[d2I,if_pos (by simp;omega)]
 ·unfold b3w;rw[if_pos (by simp;omega)]
theorem b1L(h k:Int)(hh:h≤9223372036854775807):(∃e,e≠0∧Z7 x.S h k=some (0,e)∧a3z (sO x.S) h k=some (0,e)) ∨
  (h∈lv x.S∧∃n:Nat,k=n∧∃hn:n<(ob x.S h).Fields.length,Z7 x.S h k=some ((ob x.S h).Fields[n],0)∧a3z (sO x.S) h k=some ((ob x.S h).Fields[n],0)):=by
 have hR:=hx.sh.sr;obtain⟨e,h1,h2⟩:=P5 (p9.2 hR) hh;have hg:E4 (sO x.S) h=some (oo (ob x.S h),e):=by
  rw[a48 x.S (by have:=hR.len;omega) hh,h1];rfl
 unfold Z7 a3z;rw[h1,d2I,hg,d2I];by_cases q:h∈lv x.S
 ·have:=h2.2 q;subst this;rw[if_neg (by simp),if_neg (by simp),show (oo (ob x.S h),(0:Int)).1.Fields=(ob x.S h).Fields from rfl];by_cases hk:0≤k∧k<(ob x.S h).Fields.length
  ·right;obtain⟨n,rfl⟩:∃n:Nat,k=n:=⟨k.toNat,by omega⟩;have hn:n<(ob x.S h).Fields.length:=by omega
   refine⟨q,n,rfl,hn,?_,?_⟩
   ·rw[(d0z hn).1];rfl
   ·rw[(d0z hn).2];rfl
  ·left;refine⟨5,by decide,?_,?_⟩
   ·rw[(c7u hk).1];rfl
   ·rw[(c7u hk).2];rfl
 ·left;have he:(e != 0)=true:=by simpa using λc=>q (h2.1 c)
  refine⟨e,by simpa using he,?_,?_⟩;·simp only[he,if_true]
  ·simp only[he,if_true]
theorem c4y{s:a7}(hR:SR s){h:Int}(hh:h∈lv s){n:Nat}(hn:n<(ob s h).Fields.length)(v:Int) :
  a8u s h n v=some (seO s h (flg (ob s h) ((ob s h).Fields.set n v)),0)∧b6s (sO s) h n v=some (sO (seO s h (flg (ob s h) ((ob s h).Fields.set n v))),0):=by
 have ok:=H2 hR hh;have hf:=ok.fl;have hle:=E0 hR hh;have ho:OkO s (flg (ob s h) ((ob s h).Fields.set n v)):=⟨ok.s1,ok.s2,ok.st,ok.wk,ok.p1,ok.p2,by simpa using hf⟩;have h1:=b0F (o:=flg (ob s h) ((ob s h).Fields.set n v)) hR hh rfl ho;have h2:=b0G (o:=flg (ob s h) ((ob s h).Fields.set n v)) hR hh rfl ho;constructor
 ·unfold a8u;rw[b3j (p9.2 hR) hh,d2I,if_neg (by simp)];unfold b31 a6x;dsimp only;rw[d2I,if_neg (by simp;omega),a7l (by omega) (by omega),d2I];have e:cpy (List.replicate (ob s h).Fields.length (0:Int)) (ob s h).Fields=some (ob s h).Fields:=by
   unfold cpy;rw[if_pos (by simp)];simp
  rw[e,d2I,n9 hn,d2I,d2I,if_neg (by simp),Int.toNat_natCast];dsimp only;rw[show H6 s h ⟨(ob s h).Serial,(ob s h).Strong,(ob s h).Weak,(ob s h).Prog,(ob s h).Started,(ob s h).Fields.set n v⟩=_ from h1];rfl
 ·unfold b6s;rw[a48 s (by have:=hR.len;omega) (by omega),b3j (p9.2 hR) hh,Option.map_some,d2I,if_neg (by simp)];unfold b8b;have hn':n<(oo (ob s h)).Fields.length:=hn;have hf':(oo (ob s h)).Fields.length≤4:=hf;dsimp only;rw[if_neg (by simp;omega),K1 (by omega) (by omega),d2I,n9 hn',d2I,d2I,if_neg (by simp),Int.toNat_natCast];dsimp only;rw[show L8 (sO s) h ⟨(oo (ob s h)).Serial,(oo (ob s h)).Strong,(oo (ob s h)).Weak,(oo (ob s h)).Prog,(oo (ob s h)).Started,(oo (ob s h)).Fields.set n v⟩=_ from h2];rfl
theorem c3t(h k v:Int)(hh:h≤9223372036854775807)(hv:v≤9223372036854775807) :
  (∃e,e≠0∧a2a x h k v=some (x,e)∧a5j (hO x) h k v=some (hO x,e)) ∨
  (h∈lv x.S∧(v=0∨v∈lv x.S)∧∃n:Nat,k=n∧n<(ob x.S h).Fields.length∧a2a x h k v=some (a01 x h n v,0)∧a5j (hO x) h k v=some (hO (a01 x h n v),0)):=by
 have hR:=hx.sh.sr;unfold a2a a5j;rcases b1L hx hS h k hh with ⟨e,he,f1,f2⟩ | ⟨hl,n,rfl,hn,f1,f2⟩
 ·left;have he':(e != 0)=true:=by simpa using he
  refine⟨e,he,?_,?_⟩;·rw[f1,d2I,if_pos he']
  ·rw[show (hO x).S=sO x.S from rfl,f2,d2I,if_pos he']
 ·rw[f1,d2I,if_neg (by simp),show (hO x).S=sO x.S from rfl,f2,d2I,if_neg (by simp),a2d hR hv,d2I,b0m hR hv,d2I];by_cases hn2:v=0∨v∈lv x.S
  ·right;refine⟨hl,hn2,n,rfl,hn,?_⟩;rw[decide_eq_true hn2,if_neg (by simp),if_neg (by simp)];have kin:=B5 hR v (f:=M0) λc=>A5;have hR1:SR (z1 x v).S:=kin.sr;have hl1:h∈lv (z1 x v).S:=by rw[show lv (z1 x v).S=lv x.S from kin.lv];exact hl
   have hof:(ob (z1 x v).S h).Fields=(ob x.S h).Fields:=by
    obtain⟨m,e⟩:=kin.ob h hh;show (ob (stO x v M0).S h).Fields=_;rw[e]
   have hn1:n<(ob (z1 x v).S h).Fields.length:=by rw[hof];exact hn
   have old:(ob x.S h).Fields[n]≤9223372036854775807:=b0j hx hS (hx.sh.fl h hl _ (List.getElem_mem hn));have ok:=H2 hR1 hl1;have sr2:SR (seO (z1 x v).S h (flg (ob (z1 x v).S h) ((ob (z1 x v).S h).Fields.set n v))):=a0F (o:=flg (ob (z1 x v).S h) ((ob (z1 x v).S h).Fields.set n v)) hR1 hl1 rfl ⟨ok.s1,ok.s2,ok.st,ok.wk,ok.p1,ok.p2,by simpa using ok.fl⟩;obtain⟨p1,p2⟩:=c4y hx hS hR1 hl1 hn1 v;have hd:(ob x.S h).Fields.getD n 0=(ob x.S h).Fields[n]:=by
    rw[List.getD_eq_getElem?_getD,List.getElem?_eq_getElem hn];rfl
   constructor
   ·unfold F6 a0z;rw[a5m hR hv hS,d2I];dsimp only;rw[p1,d2I,d2I];have hrel:=a2j (x:=wS (z1 x v) (seO (z1 x v).S h (flg (ob (z1 x v).S h) ((ob (z1 x v).S h).Fields.set n v)))) sr2 old;rw[show B0 ⟨seO (z1 x v).S h (flg (ob (z1 x v).S h) ((ob (z1 x v).S h).Fields.set n v)),(z1 x v).Roots,(z1 x v).a8,(z1 x v).T,(z1 x v).Q⟩ (ob x.S h).Fields[n]=_ from hrel];unfold a01;rw[hd,hof];rfl
   ·rw[a7B hR hv hS,d2I,show (hO (z1 x v)).S=sO (z1 x v).S from rfl,p2,d2I];have hrel:=a3D (x:=wS (z1 x v) (seO (z1 x v).S h (flg (ob (z1 x v).S h) ((ob (z1 x v).S h).Fields.set n v)))) sr2 old;dsimp only;rw[show D3 ⟨sO (seO (z1 x v).S h (flg (ob (z1 x v).S h) ((ob (z1 x v).S h).Fields.set n v))),(hO (z1 x v)).Roots,(hO (z1 x v)).a8,(hO (z1 x v)).T,(hO (z1 x v)).Q⟩ (ob x.S h).Fields[n]=_ from hrel];unfold a01;rw[hd,hof];rfl
  ·left;refine⟨3,by decide,?_,?_⟩;·rw[decide_eq_false hn2,if_pos (by simp)]
   ·rw[decide_eq_false hn2,if_pos (by simp)]
theorem c6P(k v:Int)(hk:k≤9223372036854775807)(hv:v≤9223372036854775807) :
  (∃e,e≠0∧a3v x k v=some (x,e)∧a7t (hO x) k v=some (hO x,e)) ∨
  (k∈lv x.S∧(v=0∨v∈lv x.S)∧∃r,R1 x.T k v=some r∧r.2.2=0∧a3v x k v=some (a5g x v r.1 r.2.1,0)∧a7t (hO x) k v=some (hO (a5g x v r.1 r.2.1),0)):=by
 have hR:=hx.sh.sr;unfold a3v a7t;by_cases k0:k=0
 ·left;subst k0;exact⟨2,by decide,by simp,by simp⟩
 ·rw[if_neg (by simpa using k0),if_neg (by simpa using k0),a2d hR hk,d2I,b2n hR hk,d2I,a2d hR hv,b0m hR hv];have hkk:(k=0∨k∈lv x.S)↔k∈lv x.S:=by simp[k0]
  by_cases hl:k∈lv x.S∧(v=0∨v∈lv x.S)
  ·obtain⟨hl,hn⟩:=hl;rw[decide_eq_true (hkk.2 hl),decide_eq_true hl,decide_eq_true hn];simp only[Bool.not_true,beq_self_eq_true,a3d,d2I,Bool.or_self,Bool.false_eq_true,if_false];obtain⟨r,r1,r2,r3,r4,r5⟩:=c2b hx.sh.hr k v;rw[r1,d2I,show (hO x).T=x.T.map K2 from rfl,r4,d2I];by_cases h0:r.2.2=0
   ·right;refine⟨hl,hn,r,rfl,h0,?_⟩;have e1:(r.2.2 != 0)=false:=by simpa using h0
    have old:r.2.1≤9223372036854775807:=by
     rcases r5 with ⟨_,rfl⟩ | ⟨_,_,⟨i,hi,rfl⟩ | ⟨_,rfl⟩⟩ | ⟨_,_,⟨i,hi,rfl⟩ | ⟨d,_,_,_,_,rfl⟩ | ⟨_,_,rfl⟩⟩;·simp
     ·exact b0j hx hS (.inr (hx.sh.pr k _ ⟨i,hi,rfl⟩).2)
     ·simp
     ·exact b0j hx hS (.inr (hx.sh.pr k _ ⟨i,hi,rfl⟩).2)
     ·simp
     ·simp
    constructor
    ·rw[e1];simp only[Bool.false_eq_true,if_false];unfold G6 T9;rw[a5m hR hv hS,d2I,d2I];dsimp only;have hrel:=a2j (x:=wT (z1 x v) r.1) (a27 hR v) old;rw[show B0 ⟨(z1 x v).S,(z1 x v).Roots,(z1 x v).a8,r.1,(z1 x v).Q⟩ r.2.1=_ from hrel];rfl
    ·dsimp only;rw[e1];simp only[Bool.false_eq_true,if_false];rw[a7B hR hv hS,d2I];have hrel:=a3D (x:=wT (z1 x v) r.1) (a27 hR v) old;rw[show D3 ⟨(hO (z1 x v)).S,(hO (z1 x v)).Roots,(hO (z1 x v)).a8,r.1.map K2,(hO (z1 x v)).Q⟩ r.2.1=_ from hrel];rfl
   ·left;have e1:(r.2.2 != 0)=true:=by simpa using h0
    refine⟨r.2.2,h0,by rw[if_pos e1],by dsimp only;rw[if_pos e1]⟩
  ·left;refine⟨3,by decide,?_,?_⟩
   ·by_cases hl2:k∈lv x.S
    ·have:¬(v=0∨v∈lv x.S):=λq=>hl ⟨hl2,q⟩;rw[decide_eq_true (hkk.2 hl2),decide_eq_false this];rfl
    ·rw[decide_eq_false λq=>hl2 (hkk.1 q)];rfl
   ·by_cases hl2:k∈lv x.S
    ·have:¬(v=0∨v∈lv x.S):=λq=>hl ⟨hl2,q⟩;rw[decide_eq_true hl2,decide_eq_false this];rfl
    ·rw[decide_eq_false hl2];rfl
end
theorem c0v{s:a7}(hR:SR s){h:Int}{i:Nat}(q:T3 s h i):L1 s.S h=some ((gvA s i).S,0):=by
 have hi:=q.1;have hc:=hR.cell i hi;have l9:=hR.l9;unfold L1 gvA;rw[a5L hR q,d2I,if_neg (by simp),b7G hi,d2I];by_cases g:(ce s i).Gen=s.S.Last
 ·rw[if_pos (by simpa using g),if_pos g,a5A rfl hi hR.len];rfl
 ·rw[if_neg (by simpa using g),if_neg g,a5A rfl hi hR.len,C3 (by omega) (by omega)];rfl
theorem c7H{s:a7}{i:Nat}(hi:i<s.S.a8.length):ix (sO s).a8 (i:Int)=some (cO (ce s i)):=by
 rw[c1d,b7G hi];rfl
theorem c1e(s:a7)(i:Nat)(c:b7):sO (E5 s i c)=⟨(sO s).a8.set i (cO c),s.S.Last,s.Serial⟩:=by
 unfold sO E5;rw[List.map_set]
theorem b30(t:o5)(p:E7)(hl:t.a8.length≤1000)(hp:p.a8.length=t.a8.length):a08 t p=some ⟨(List.range t.a8.length).map λk=>⟨(p.a8.getD k ⟨0,0,0⟩).State,(p.a8.getD k ⟨0,0,0⟩).Gen,(t.a8.getD k ⟨0,0,oo z0⟩).Val⟩,t.Last,t.Serial⟩:=by
 unfold a08;simp only[jn];rw[c3P (b:=80) t.a8.length (λk=>⟨(p.a8.getD k ⟨0,0,0⟩).State,(p.a8.getD k ⟨0,0,0⟩).Gen,(t.a8.getD k ⟨0,0,oo z0⟩).Val⟩) (by omega) (by omega) (λk acc hk=>?_) (λacc=>by simp)];·rfl
 ·have hk2:k<p.a8.length:=by omega
  simp only[Int.ofNat_lt,hk,decide_true,if_true,n9 hk,n9 hk2,d2I];rw[List.getD_eq_getElem?_getD,List.getElem?_eq_getElem hk2,List.getD_eq_getElem?_getD,List.getElem?_eq_getElem hk];rfl
theorem c3A{s:a7}(hR:SR s){h:Int}{i:Nat}(q:T3 s h i):b0r (sO s) h=some (sO (gvA s i)):=by
 have hi:=q.1;have hc:=hR.cell i hi;have l9:=hR.l9;have hlen:=hR.len;have hr:=q.rng hR;have hH:Hnd h:=((a9k hR).2 q).2.1;have hsl:(h-1) % 32=i:=((a9k hR).2 q).2.2.1;have K2:i<(pl (sO s)).a8.length:=by rw[a07,A7];exact hi
 have key:∀st g,(st:Int)=st→a08 (sO s) ⟨(pl (sO s)).a8.set i ⟨st,g,0⟩,(pl (sO s)).Last⟩=some ⟨(sO s).a8.set i ⟨st,g,oo (ce s i).Val⟩,s.S.Last,s.Serial⟩:=λst g _=>by
  rw[b30 _ _ (by rw[A7];omega) (by simp[a07])];congr 1;congr 1;refine List.ext_getElem (by simp) λk h1 h2=>?_;have hk:k<s.S.a8.length:=by simpa[A7] using h1
  have hk2:k<(sO s).a8.length:=by rw[A7];exact hk
  have hk3:k<(pl (sO s)).a8.length:=by rw[a07];exact hk2
  simp only[List.getElem_map,List.getElem_range,List.getElem_set];have e1:(sO s).a8.getD k ⟨0,0,oo z0⟩=cO (ce s k):=by
   rw[List.getD_eq_getElem?_getD,List.getElem?_eq_getElem hk2,C9 hk];simp[sO]
  have e2:((pl (sO s)).a8.set i ⟨st,g,0⟩).getD k ⟨0,0,0⟩=if k=i then ⟨st,g,0⟩ else plc k (cO (ce s k)):=by
   rw[a3N K2];split;·rfl
   ·rw[List.getD_eq_getElem?_getD,List.getElem?_eq_getElem hk3,C9 hk];simp[pl,sO]
  rw[e1,e2];by_cases e:k=i
  ·subst e;rw[if_pos rfl,if_pos rfl];rfl
  ·rw[if_neg e,if_neg (Ne.symm e)];rw[C9 hk];simp[sO,plc,cO]
 have fin:∀st g,(a2O ⟨(sO s).a8.set i ⟨st,g,oo (ce s i).Val⟩,s.S.Last,s.Serial⟩ (i:Int) ⟨0,0,0,0,false,[]⟩)=some (sO (E5 s i ⟨st,g,z0⟩)):=λst g=>by
  unfold a2O;have hi2:i<((sO s).a8.set i ⟨st,g,oo (ce s i).Val⟩).length:=by simp[A7];exact hi
  rw[K1 (by omega) (by simp[A7];omega),d2I,n9 hi2,d2I,c1e];simp[cO,oo,List.set_set]
 unfold b0r b79 gvA;rw[a4y _ (by rw[A7];omega),d2I,b04 s (by omega),a5L hR q,d2I,if_neg (by simp)];rw[b70 (by rw[A7];exact hi),d2I];have hgen:(plc i ((sO s).a8[i]'(by rw[A7];exact hi))).Gen=(ce s i).Gen:=by
  rw[C9 hi];simp[plc,sO,cO]
 have hlast:(pl (sO s)).Last=s.S.Last:=rfl;have w3:∀c:L0,a0N (pl (sO s)) (i:Int) c=some ⟨(pl (sO s)).a8.set i c,(pl (sO s)).Last⟩:=λc=>by
  unfold a0N;rw[K1 (by omega) (by rw[a07,A7];omega),d2I,n9 K2,d2I,Int.toNat_natCast]
 rw[hgen,hlast,a7o,if_pos hH,hsl];by_cases g:(ce s i).Gen=s.S.Last
 ·rw[if_pos (by simp[g]),if_pos g,w3,d2I,d2I,if_neg (by simp),key _ _ rfl,d2I,d2I,fin];rfl
 ·rw[if_neg (by simp;omega),if_neg g,w3,d2I,d2I,if_neg (by simp),key _ _ rfl,d2I,d2I,C3 (by omega) (by omega),fin];rfl
section
variable{x:Hp}(hR:SR x.S)
include hR
theorem b40{h d:Int}(hh:h≤9223372036854775807)(hw:T3 x.S h (A8 h) → -1000≤(ce x.S (A8 h)).Val.Weak+d∧(ce x.S (A8 h)).Val.Weak+d≤1000):a1i x h d=some (mkd x h d):=by
 unfold a1i mkd;by_cases q:T3 x.S h (A8 h)
 ·have:=hw q;rw[if_pos q,a5L hR q,d2I];simp only[beq_self_eq_true,if_true];rw[b7G q.1,d2I,C3 (by omega) (by omega),b6N hR q,d2I];rfl
 ·have hno:∀i,¬T3 x.S h i:=λi hi=>q (by rw[hi.A8 hR];exact hi);rw[if_neg q,a89 hR hh hno,d2I];have:((if h=0 then 2 else 3:Int)==0)=false:=by simpa using a2D h
  simp only[this,Bool.false_eq_true,if_false]
theorem b8y{h:Int}(hh:h≤9223372036854775807)(hw:T3 x.S h (A8 h)→1≤(ce x.S (A8 h)).Val.Weak∧(ce x.S (A8 h)).Val.Weak≤1000):a2t x h=some (a6w x h):=by
 unfold a2t;rw[b40 hR hh (λq=>by have:=hw q;omega),d2I];unfold mkd a6w;by_cases q:T3 x.S h (A8 h)
 ·have hw:=hw q;rw[if_pos q,if_pos q];have sr1:=b1c hR q.1 q.2.1 (d:=-1) (by omega);have q1:T3 (mkA x.S (A8 h) (-1)) h (A8 h):=(b2i q.1 _).2 q;dsimp only;rw[a5L sr1 q1,d2I,if_neg (by simp),b7G q1.1,d2I,a06 hR q.1 q.2.1,if_pos rfl];dsimp only;by_cases c:(ce x.S (A8 h)).State=2∧(ce x.S (A8 h)).Val.Weak=1
  ·rw[if_pos c,if_pos (by simp[c.1,c.2]),c0v sr1 q1,d2I];rfl
  ·rw[if_neg c,if_neg (by simp only[Bool.and_eq_true,beq_iff_eq];omega)]
 ·have hno:∀i,¬T3 x.S h i:=λi hi=>q (by rw[hi.A8 hR];exact hi);rw[if_neg q,if_neg q,a89 hR hh hno,d2I];have:((if h=0 then 2 else 3:Int) != 0)=true:=by simpa using a2D h
  simp only[this,if_true]
theorem c2k{h:Int}(hh:h≤9223372036854775807)(hw:T3 x.S h (A8 h)→1≤(ce x.S (A8 h)).Val.Weak∧(ce x.S (A8 h)).Val.Weak≤1000):a1j (hO x) h=some (hO (a6w x h)):=by
 have hl:=hR.len;unfold a1j;rw[show (hO x).S=sO x.S from rfl,a4y _ (by rw[A7];omega),d2I,b04 x.S hh];unfold a6w;by_cases q:T3 x.S h (A8 h)
 ·have hw:=hw q;have hr:=q.rng hR;rw[if_pos q,a5L hR q,d2I,if_neg (by simp),c7H q.1,d2I];have sr1:=b1c hR q.1 q.2.1 (d:=-1) (by omega);have q1:T3 (mkA x.S (A8 h) (-1)) h (A8 h):=(b2i q.1 _).2 q;have hs:L8 (sO x.S) h (oo (wkg (ce x.S (A8 h)).Val ((ce x.S (A8 h)).Val.Weak + -1)))=some (sO (mkA x.S (A8 h) (-1)),0):=by
   rw[c4V x.S hl hh,b6N hR q];rfl
  have hw64:u5 ((cO (ce x.S (A8 h))).Val.Weak-1)=(ce x.S (A8 h)).Val.Weak + -1:=by
   show u5 ((ce x.S (A8 h)).Val.Weak-1)=_;rw[C3 (by omega) (by omega)];omega
  rw[hw64];rw[show L8 (sO x.S) h ⟨(cO (ce x.S (A8 h))).Val.Serial,(cO (ce x.S (A8 h))).Val.Strong,(ce x.S (A8 h)).Val.Weak + -1,(cO (ce x.S (A8 h))).Val.Prog,(cO (ce x.S (A8 h))).Val.Started,(cO (ce x.S (A8 h))).Val.Fields⟩=_ from hs,d2I,c7H q1.1,d2I,a06 hR q.1 q.2.1,if_pos rfl];by_cases c:(ce x.S (A8 h)).State=2∧(ce x.S (A8 h)).Val.Weak=1
  ·rw[if_pos c,if_pos (by simp[cO,c.1,c.2]),c3A sr1 q1,d2I];rfl
  ·rw[if_neg c,if_neg (by simp only[cO,Bool.and_eq_true,beq_iff_eq,decide_eq_true_eq];omega)];rfl
 ·have hno:∀i,¬T3 x.S h i:=λi hi=>q (by rw[hi.A8 hR];exact hi);rw[if_neg q,a89 hR hh hno,d2I];have:((if h=0 then 2 else 3:Int) != 0)=true:=by simpa using a2D h
  simp only[this,if_true]
end
theorem c5a{l:List e6}(hl:l.length≤1000){n:Nat}(hn:n<l.length)(h call:Int):b0O l n h call=some (l.set n (wcl h call),l[n].Target,0):=by
 unfold b0O a5z Z8;simp only[d2I];rw[if_neg (by simp;omega),a7l (by omega) (by omega),d2I];have e:cpy (List.replicate l.length (⟨0,false,0⟩:e6)) l=some l:=by
  unfold cpy;rw[if_pos (by simp)];simp
 rw[e,d2I,d2I,n9 hn,d2I,d2I,Int.toNat_natCast]
theorem b90{l:List e6}(hl:l.length≤1000){n:Nat}(hn:n<l.length)(h call:Int):b6t (l.map wcR) n h call=some ((l.set n (wcl h call)).map wcR,l[n].Target,0):=by
 unfold b6t;have hn':n<(l.map wcR).length:=by simpa using hn
 rw[if_neg (by simp;omega),K1 (by omega) (by simp;omega),d2I,n9 hn',d2I,d2I,Int.toNat_natCast,List.map_set];simp[wcR]
theorem c9p(l:List e6)(h:Int):nmg l h≤l.length:=List.countP_le_length
theorem c7o{x:Hp}(hx:I8 x)(k h call:Int)(hh:h≤9223372036854775807)(hc : -1≤call∧call≤5) :
  (∃e,e≠0∧a0h x k h call=some (x,e)∧a3Z (hO x) k h call=some (hO x,e)) ∨
  ((h=0∨h∈lv x.S)∧∃n:Nat,k=n∧n<6∧wts x.Q n=false∧a0h x k h call=some (a0Q x n h call,0)∧a3Z (hO x) k h call=some (hO (a0Q x n h call),0)):=by
 have hR:=hx.sh.sr;have c6:=hx.sh.c6;have q30:=hx.sh.q30;unfold a0h a3Z;by_cases hk:k<0∨5<k
 ·left;have e1:((decide (k<0))||(decide (k≥(x.a8.length:Int))))=true:=by rw[c6];simp;omega
  have e2:((decide (k<0))||(decide (k > 5)))=true:=by simp;omega
  refine⟨7,by decide,?_,?_⟩;·rw[e1];rfl
  ·rw[e2];rfl
 ·obtain⟨n,rfl⟩:∃n:Nat,k=n:=⟨k.toNat,by omega⟩;have hn6:n<6:=by omega
  have e1:((decide ((n:Int)<0))||(decide ((n:Int)≥(x.a8.length:Int))))=false:=by rw[c6];simp;omega
  have e2:((decide ((n:Int)<0))||(decide ((n:Int) > 5)))=false:=by simp;omega
  rw[e1,e2];simp only[beq_self_eq_true,a3d,Bool.false_or];have hwq:a38 x.Q n=some (wts x.Q n):=c7e (by omega);have hwr:a8j (hO x).Q n=some (wts x.Q n):=c6Y (by omega);rw[hwq,d2I,hwr,d2I,a2d hR hh,d2I,b0m hR hh,d2I];by_cases hw:wts x.Q n=true
  ·left;rw[if_pos hw,if_pos hw];exact⟨7,by decide,rfl,rfl⟩
  ·have hw:wts x.Q n=false:=by simpa using hw
   rw[hw,if_neg (show ¬(false=true) by decide),if_neg (show ¬(false=true) by decide)];by_cases hl:h=0∨h∈lv x.S
   ·right;refine⟨hl,n,rfl,hn6,hw,?_⟩;have hnl:n<x.a8.length:=by omega
    rw[decide_eq_true hl,if_neg (by simp),if_neg (by simp),c5a (by omega) hnl,d2I,show (hO x).a8=x.a8.map wcR from rfl,b90 (by omega) hnl,d2I];have htg:tgt x n=x.a8[n].Target:=by
     unfold tgt;rw[List.getD_eq_getElem?_getD,List.getElem?_eq_getElem hnl];rfl
    have wkb:∀i,i<x.S.S.a8.length→Th (ce x.S i)→0≤(ce x.S i).Val.Weak∧(ce x.S i).Val.Weak≤6:=λi hi ht=>by
     have:=(hx.wk i hi ht).1;have:=c9p x.a8 (1+(i:Int)+32*(ce x.S i).Gen);omega
    have mk1:∃s2,mkd (wC x (x.a8.set n (wcl h call))) h 1=wS (wC x (x.a8.set n (wcl h call))) s2∧SR s2∧(∀k i,T3 s2 k i↔T3 x.S k i)∧(∀i,i<x.S.S.a8.length→Th (ce x.S i)→(ce x.S i).Val.Weak≤(ce s2 i).Val.Weak∧(ce s2 i).Val.Weak≤(ce x.S i).Val.Weak+1) ∧
      (h≠0→E4 (sO x.S) h=some (oo (ce x.S (A8 h)).Val,0)∧L8 (sO x.S) h (oo (wkg (ce x.S (A8 h)).Val ((ce x.S (A8 h)).Val.Weak+1)))=some (sO s2,0))∧(h=0→s2=x.S):=by
     unfold mkd;by_cases h0:h=0
     ·have hno:¬T3 x.S h (A8 h):=λq=>by have:=q.rng hR;omega
      rw[if_neg hno];exact⟨x.S,rfl,hR,λ_ _=>Iff.rfl,λi _ _=>by omega,λq=>absurd h0 q,λ_=>rfl⟩
     ·have hll:=hl.resolve_left h0;have hp:=w7 hR hll;have hb:=wkb _ hp.1 (.inl hp.2.1);rw[if_pos hp.d];have kn:=a3U hR hp.1 (.inl hp.2.1) (d:=1) (by omega);refine⟨_,rfl,kn.sr,kn.ad,λi hi ht=>?_,λ_=>⟨?_,?_⟩,λq=>absurd q h0⟩
      ·rw[a06 hR hp.1 (.inl hp.2.1)];split;·rename_i e;subst e;dsimp only;omega
       ·omega
      ·rw[a48 x.S (by have:=hR.len;omega) hh,c8z hR hp];rfl
      ·rw[c4V x.S hR.len hh,b6N hR hp.d];rfl
    obtain⟨s2,m1,m2,m3,m4,m5,m6⟩:=mk1;have hold:tgt x n≤9223372036854775807:=by
     by_cases q:tgt x n=0
     ·omega
     ·obtain⟨p,hp⟩:=(hx.sh.cl n hnl).2.2.2.1 (by rw[←htg];exact q);have:=hp.rng hR;rw[htg];omega
    have hun:T3 s2 (tgt x n) (A8 (tgt x n))→1≤(ce s2 (A8 (tgt x n))).Val.Weak∧(ce s2 (A8 (tgt x n))).Val.Weak≤1000:=λq=>by
     have q':=(m3 _ _).1 q;have r:=q'.rng hR;have:=(hx.wk _ q'.1 q'.2.1).1;have hp:0<nmg x.a8 x.a8[n].Target:=a8b hnl (by rw[←htg];omega);rw[←htg,q'.2.2] at hp;have:=m4 _ q'.1 q'.2.1;have:=wkb _ q'.1 q'.2.1;omega
    have u1:=b8y (x:=wS (wC x (x.a8.set n (wcl h call))) s2) m2 hold hun;have u2:=c2k (x:=wS (wC x (x.a8.set n (wcl h call))) s2) m2 hold hun;have hwb:T3 x.S h (A8 h) → -1000≤(ce x.S (A8 h)).Val.Weak+1∧(ce x.S (A8 h)).Val.Weak+1≤1000:=λq=>by
     have:=wkb _ q.1 q.2.1;omega
    have mm:=b40 (x:=wC x (x.a8.set n (wcl h call))) (d:=1) hR hh hwb;constructor
    ·dsimp only;rw[show a1i ⟨x.S,x.Roots,x.a8.set n (wcl h call),x.T,x.Q⟩ h 1=_ from mm,d2I,m1,←htg,u1,d2I];unfold a0Q;rw[m1]
    ·unfold a0Q;rw[m1];dsimp only;by_cases h0:h=0
     ·rw[if_neg (by simpa using h0),←htg];rw[m6 h0] at u2 ⊢;rw[show a1j ⟨(hO x).S,(hO x).Roots,(x.a8.set n (wcl h call)).map wcR,(hO x).T,(hO x).Q⟩ (tgt x n)=_ from u2,d2I]
     ·obtain⟨g1,g2⟩:=m5 h0;have hp:=w7 hR (hl.resolve_left h0);have hb:=wkb _ hp.1 (.inl hp.2.1);rw[if_pos (by simpa using h0),show (hO x).S=sO x.S from rfl,g1,d2I];have e:u5 ((oo (ce x.S (A8 h)).Val).Weak+1)=(ce x.S (A8 h)).Val.Weak+1:=by
       show u5 ((ce x.S (A8 h)).Val.Weak+1)=_;rw[C3 (by omega) (by omega)]
      dsimp only;rw[e];rw[show L8 (sO x.S) h ⟨(oo (ce x.S (A8 h)).Val).Serial,(oo (ce x.S (A8 h)).Val).Strong,(ce x.S (A8 h)).Val.Weak+1,(oo (ce x.S (A8 h)).Val).Prog,(oo (ce x.S (A8 h)).Val).Started,(oo (ce x.S (A8 h)).Val).Fields⟩=_ from g2,d2I,←htg];dsimp only;rw[show a1j ⟨sO s2,(hO x).Roots,(x.a8.set n (wcl h call)).map wcR,(hO x).T,(hO x).Q⟩ (tgt x n)=_ from u2,d2I]
   ·left;rw[decide_eq_false hl];refine⟨3,by decide,?_,?_⟩ <;> rw[if_pos (by rfl)]
end Go.Sh
namespace Go.Sh
section
variable{x:Hp}(hx:I8 x)(hS:∀k∈lv x.S,(ob x.S k).Strong≤9223372036854775807)
include hx hS
end
end Go.Sh
namespace Go.Sh
theorem c0t{α:Type}{l:List α}{i:Nat}(h:i<l.length)(d:α):l.getD i d=l[i]:=by
 rw[List.getD_eq_getElem?_getD,List.getElem?_eq_getElem h];rfl
def TkS(a b:g7):Prop:=a.Kind=b.Kind∧a.At=b.At
instance(a b:g7):Decidable (TkS a b):=by unfold TkS;infer_instance
section
variable{x:Hp}(hR:SR x.S)
include hR
omit hR in
theorem c3p:c7s x.S x.T (otr x)↔a1c x []:=by
 constructor
 ·intro h k hk hlt;have:=h k hk hlt;unfold rst inr at this;rw[if_pos hk] at this;rw[N5];unfold nms;omega
 ·intro h k hk hlt;have:=h k hk hlt;rw[N5] at this;unfold nms at this;unfold rst inr;rw[if_pos hk];omega
end
end Go.Sh
namespace Go.Sh
section
variable{x:Hp}(hx:I8 x)(hB:HB x)
include hx hB
end
end Go.Sh
namespace Go.Sh
def SL(x:Hp):Prop:=∀k∈lv x.S,(ob x.S k).Strong≤9223372036854775807
theorem SB.sl{x:Hp}(hR:SR x.S)(h:SB x.S):SL x:=λk hk=>c2i hR h k hk
theorem c7F{x:Hp}(hx:I8 x)(hS:SL x):HB x:=by
 have hR:=hx.sh.sr;have bd:∀v,v=0∨v∈lv x.S→v≤9223372036854775807:=λv q=>by
  rcases q with q | q
  ·omega
  ·have:=E0 hR q;omega
 refine⟨d1j.2 λi hi=>?_,d0M.2 λi hi v hv=>?_,λv hv=>bd v (hx.sh.rt v hv),λc hc=>?_,λp hp=>?_,λt ht=>?_⟩
 ·by_cases t:Th (ce x.S i)
  ·rcases t with t | t
   ·have q:At x.S (1+(i:Int)+32*(ce x.S i).Gen) i:=⟨hi,t,rfl⟩;have:=hS _ ((a1Y hR).2 ⟨i,q⟩);rwa [K8 hR q] at this
   ·have:=((hx.wk i hi (.inr t)).2 t).2.2;omega
  ·have:=(hR.no i hi t).2.1;simp only[oo] at this;omega
 ·by_cases t:Th (ce x.S i)
  ·rcases t with t | t
   ·have q:At x.S (1+(i:Int)+32*(ce x.S i).Gen) i:=⟨hi,t,rfl⟩;have hm:=(a1Y hR).2 ⟨i,q⟩;exact bd v (hx.sh.fl _ hm v (by rw[K8 hR q];exact hv))
   ·rw[((hx.wk i hi (.inr t)).2 t).2.1] at hv;cases hv
  ·have:=(hR.no i hi t).2.2.2.2.2;simp only[oo] at this;rw[List.eq_nil_of_length_eq_zero this] at hv;cases hv
 ·obtain⟨i,hi,rfl⟩:=List.getElem_of_mem hc;by_cases e:x.a8[i].Target=0
  ·omega
  ·obtain⟨p,hp⟩:=(hx.sh.cl i hi).2.2.2.1 e;have:=hp.rng hR;omega
 ·obtain⟨i,hi,rfl⟩:=List.getElem_of_mem hp;have e:pt x.T i=x.T[i]:=by
   unfold pt;rw[List.getD_eq_getElem?_getD,List.getElem?_eq_getElem hi];rfl
  by_cases s1:(pt x.T i).State=1
  ·obtain⟨a,b⟩:=hx.sh.pr (pt x.T i).Key (pt x.T i).Val ⟨i,⟨hi,s1,rfl⟩,rfl⟩;rw[e] at a b;exact⟨bd _ (.inr a),bd _ (.inr b)⟩
  ·obtain⟨a,b⟩:=(hx.sh.hr.st i hi).2 s1;rw[e] at a b;omega
 ·obtain⟨_,_,q | q⟩:=hx.sh.tk t ht;·exact bd _ (.inr q.2.1)
  ·omega
theorem c6i(c:Int):M0 c≤12:=by unfold M0;split <;> (try split) <;> omega
theorem c53{c:Int}(h:c≤9223372036854775807):a1T c≤9223372036854775807:=by unfold a1T;split <;> (try split) <;> omega
theorem SL.of{x y:Hp}(h:SL x)(hl:lv y.S=lv x.S)(hs:∀k∈lv x.S,(ob y.S k).Strong=(ob x.S k).Strong):SL y:=λk hk=>by
 rw[hl] at hk;rw[hs k hk];exact h k hk
theorem SL.st{x:Hp}(h:SL x)(hR:SR x.S)(v:Int){f:Int→Int}(hf:∀c,0≤c→0≤f c)(hb:∀c,c≤9223372036854775807→f c≤9223372036854775807):SL (stO x v f):=λk hk=>by
 rw[(B5 hR v hf).lv] at hk;rw[a3a hR v hf hk];split;·exact hb _ (h k hk)
 ·exact h k hk
theorem SL.z1{x:Hp}(h:SL x)(hR:SR x.S)(v:Int):SL (z1 x v):=h.st hR v (λc=>A5) λc _=>by have:=c6i c;omega
theorem SL.rls{x:Hp}(h:SL x)(hR:SR x.S)(v:Int):SL (M9 x v):=h.st hR v (λc=>E2) λc hc=>c53 hc
theorem b9I{x:Hp}(hR:SR x.S)(v:Int):SR (M9 x v).S:=(B5 hR v λc=>E2).sr
theorem a2S{x:Hp}(hR:SR x.S)(h:SL x)(r:Nat)(v:Int):SL (u6 x r v):=by
 unfold u6;exact SL.rls (x:=wR (z1 x v) (x.Roots.set r v)) (h.z1 hR v) (a27 hR v) _
theorem c1H{x:Hp}(hR:SR x.S)(hS:SL x){h:Int}(hh:h∈lv x.S)(k:Nat)(v:Int):SL (a01 x h k v):=by
 have kin:=B5 hR v (f:=M0) λc=>A5;have hR1:SR (z1 x v).S:=kin.sr;have hl1:h∈lv (z1 x v).S:=by rw[show lv (z1 x v).S=lv x.S from kin.lv];exact hh
 have hof:(ob (z1 x v).S h).Fields=(ob x.S h).Fields:=by
  obtain⟨m,e⟩:=kin.ob h (by have:=E0 hR hh;omega);show (ob (stO x v M0).S h).Fields=_;rw[e]
 have ok:=H2 hR1 hl1;have ho:OkO (z1 x v).S (flg (ob (z1 x v).S h) ((ob x.S h).Fields.set k v)):=⟨ok.s1,ok.s2,ok.st,ok.wk,ok.p1,ok.p2,by have:=ok.fl;rw[hof] at this;simpa using this⟩;have sr2:=a0F (o:=flg (ob (z1 x v).S h) ((ob x.S h).Fields.set k v)) hR1 hl1 rfl ho;unfold a01;refine SL.rls (x:=wS (z1 x v) (seO (z1 x v).S h (flg (ob (z1 x v).S h) ((ob x.S h).Fields.set k v)))) ?_ sr2 _;refine (hS.z1 hR v).of (a28 hR1 hl1 rfl ho) λj hj=>?_;dsimp only;rw[a2l (o:=flg (ob (z1 x v).S h) ((ob x.S h).Fields.set k v)) hR1 hl1 rfl ho (by have:=E0 hR1 hj;omega)];split;·rename_i e;rw[e]
 ·rfl
theorem c4r{x:Hp}(hR:SR x.S)(hS:SL x)(v:Int)(t:Tb)(old:Int):SL (a5g x v t old):=by
 unfold a5g;exact SL.rls (x:=wT (z1 x v) t) (hS.z1 hR v) (a27 hR v) _
theorem c9k{x:Hp}(hR:SR x.S)(hS:SL x)(h:Int){d:Int}(hd:T3 x.S h (A8 h)→0≤(ce x.S (A8 h)).Val.Weak+d):SL (mkd x h d):=by
 unfold mkd;split
 ·rename_i q;exact hS.of (a3U hR q.1 q.2.1 (hd q)).lv λk hk=>a56 hR q.1 q.2.1 (hd q) hk
 ·exact hS
theorem c1q{x:Hp}(hR:SR x.S)(hS:SL x)(h:Int)(hd:T3 x.S h (A8 h)→1≤(ce x.S (A8 h)).Val.Weak):SL (a6w x h):=by
 unfold a6w;split
 ·rename_i q;have hd:=hd q;have kn:=a3U (d:=-1) hR q.1 q.2.1 (by omega);have s1:SL (wS x (mkA x.S (A8 h) (-1))):=hS.of kn.lv λk hk=>a56 hR q.1 q.2.1 (by omega) hk;split
  ·rename_i c;have hi1:A8 h<(mkA x.S (A8 h) (-1)).S.a8.length:=by rw[kn.len];exact q.1
   have hce:ce (mkA x.S (A8 h) (-1)) (A8 h)=⟨(ce x.S (A8 h)).State,(ce x.S (A8 h)).Gen,wkg (ce x.S (A8 h)).Val ((ce x.S (A8 h)).Val.Weak + -1)⟩:=by
    rw[a06 hR q.1 q.2.1,if_pos rfl]
   have h2:(ce (mkA x.S (A8 h) (-1)) (A8 h)).State=2:=by rw[hce];exact c.1
   exact s1.of (b50 kn.sr hi1 h2) λk hk=>by
    dsimp only;rw[b3a kn.sr hi1 h2 hk]
  ·exact s1
 ·exact hS
theorem c48{x:Hp}(hx:I8 x)(hS:SL x){n:Nat}(hn:n<6)(h call:Int):SL (a0Q x n h call):=by
 have hR:=hx.sh.sr;have hnl:n<x.a8.length:=by have:=hx.sh.c6;omega
 have ok:∀k i,T3 x.S k i→0≤(ce x.S i).Val.Weak:=λk i q=>(hR.ok i q.1 q.2.1).wk;have tw:∀i,T3 x.S (tgt x n) i→1≤(ce x.S i).Val.Weak:=λi q=>by
  have htg:tgt x n=x.a8[n].Target:=by
   unfold tgt;rw[List.getD_eq_getElem?_getD,List.getElem?_eq_getElem hnl];rfl
  have r:=q.rng hR;have p:=a8b hnl (by rw[←htg];omega);rw[←htg,q.2.2] at p;have:=(hx.wk i q.1 q.2.1).1;omega
 unfold a0Q;have s1:SL (mkd (wC x (x.a8.set n (wcl h call))) h 1):=c9k (x:=wC x (x.a8.set n (wcl h call))) hR hS h λq=>by
  have:=ok _ _ q;dsimp only;omega
 by_cases q:T3 x.S h (A8 h)
 ·have e:mkd (wC x (x.a8.set n (wcl h call))) h 1=wS (wC x (x.a8.set n (wcl h call))) (mkA x.S (A8 h) 1):=by
   unfold mkd;rw[if_pos q]
  have hd:=ok _ _ q;have kn:=a3U (d:=1) hR q.1 q.2.1 (by omega);rw[e] at s1 ⊢;refine c1q kn.sr s1 _ λq2=>?_;dsimp only at q2 ⊢;have q3:=(kn.ad _ _).1 q2;have:=tw _ q3;rw[a06 hR q.1 q.2.1];split
  ·rename_i e2;rw[e2] at this;show 1≤(ce x.S (A8 h)).Val.Weak+1;omega
  ·exact this
 ·have e:mkd (wC x (x.a8.set n (wcl h call))) h 1=wC x (x.a8.set n (wcl h call)):=by
   unfold mkd;rw[if_neg q]
  rw[e] at s1 ⊢;exact c1q (x:=wC x (x.a8.set n (wcl h call))) hR s1 _ λq2=>tw _ q2
section
variable{x:Hp}(hx:I8 x)(hS:SL x)
include hx hS
end
end Go.Sh
namespace Go.Sh
end Go.Sh
namespace Go.Sh
end Go.Sh
namespace Go.Sh
def c7t(x:Hp):Prop:=Sm x.S∧x.Roots.length≤20∧x.a8.length≤20∧x.T.length≤20∧x.Q.L.length≤60
instance(x:Hp):Decidable (c7t x):=by unfold c7t;infer_instance
end Go.Sh
namespace Go.Sh
def b54:Hp:=⟨⟨⟨[],0⟩,0⟩,[],[],[],⟨[],0⟩⟩
theorem b3U(x:Hp)(h:Int)(f:Int→Int):(stO x h f).Roots=x.Roots∧(stO x h f).a8=x.a8∧(stO x h f).T=x.T∧(stO x h f).Q=x.Q:=by
 unfold stO;split <;> exact⟨rfl,rfl,rfl,rfl⟩
theorem U2(x:Hp)(r:Nat)(h:Int):(u6 x r h).Roots=x.Roots.set r h∧(u6 x r h).a8=x.a8∧(u6 x r h).T=x.T∧(u6 x r h).Q=x.Q:=by
 obtain⟨a,b,c,d⟩:=b3U (wR (z1 x h) (x.Roots.set r h)) (x.Roots.getD r 0) a1T;obtain⟨a',b',c',d'⟩:=b3U x h M0;exact⟨a,b.trans b',c.trans c',d.trans d'⟩
section
variable{x:Hp}(hB:HB x)
include hB
end
end Go.Sh
namespace Go.Sh
abbrev ded(o:l5):l5:=⟨o.Serial,0,o.Weak,o.Prog,o.Started,[]⟩
def gnC(s:a7)(i:Nat):b7:=
 if (ce s i).Val.Weak=0 then (if (ce s i).Gen=s.S.Last then ⟨3,(ce s i).Gen,z0⟩ else ⟨0,(ce s i).Gen+1,z0⟩) else ⟨2,(ce s i).Gen,ded (ce s i).Val⟩
def gnA(s:a7)(d:Int):a7:=E5 s (A8 d) (gnC s (A8 d))
def gnL(s:a7)(ds:List Int):a7:=ds.foldl gnA s
theorem c8X(s:a7)(i:Nat):(gnC s i).State≠1:=by
 unfold gnC;split;·split <;> simp
 ·simp
theorem b9z{s:a7}(hR:SR s){a b:Int}(ha:a∈lv s)(hb:b∈lv s)(h:a≠b):A8 a≠A8 b:=λe=>by
 have h1:=w7 hR ha;have h2:=w7 hR hb;rw[e] at h1;exact h (h1.2.2.trans h2.2.2.symm)
section
variable{s:a7}(hR:SR s){d:Int}(hd:d∈lv s)
include hR hd
theorem b9i:SR (gnA s d):=by
 have q:=w7 hR hd;have hc:=hR.cell _ q.1;have ho:=hR.ok _ q.1 (.inl q.2.1);have no:c1s (oo z0):=⟨rfl,rfl,rfl,rfl,rfl,rfl⟩;unfold gnA gnC;split
 ·split;·exact hR.E5 q.1 ⟨by simp,by simp,hc.2.2.1,hc.2.2.2⟩ (λ_=>no) (λq=>absurd q (by unfold Th;simp))
  ·refine hR.E5 q.1 ⟨by simp,by simp,?_,?_⟩ (λ_=>no) (λq=>absurd q (by unfold Th;simp));·show 0≤(ce s (A8 d)).Gen+1;omega
   ·show (ce s (A8 d)).Gen+1≤s.S.Last;omega
 ·exact hR.E5 q.1 ⟨by simp,by simp,hc.2.2.1,hc.2.2.2⟩ (λq=>absurd (.inr rfl) q) (λ_=>⟨⟨ho.s1,ho.s2,Int.le_refl _,ho.wk,ho.p1,ho.p2,Nat.zero_le _⟩,.inl q.2.1,rfl⟩)
theorem c3B(j:Nat):ce (gnA s d) j=if j=A8 d then gnC s (A8 d) else ce s j:=H9 (w7 hR hd).1 _ j
theorem c8V:lv (gnA s d)=(lv s).filter λh=>decide (h≠d):=by
 have hS:=b9i hR hd;unfold gnA at hS ⊢;have hc:=c8X s (A8 d);rw[c0H hR (w7 hR hd).1 hc hS];refine List.filter_congr λh hh=>decide_eq_decide.2 ⟨λq e=>q (by rw[e]),λq=>b9z hR hh hd q⟩
theorem c8W{k:Int}(hk:k∈lv s)(hne:k≠d):ob (gnA s d) k=ob s k:=by
 have hS:=b9i hR hd;unfold gnA at hS ⊢;exact c0M hR (w7 hR hd).1 hS hk (b9z hR hk hd hne)
end
structure Gn (s s':a7) (ds:List Int):Prop where
 sr:SR s'
 len:s'.S.a8.length=s.S.a8.length
 last:s'.S.Last=s.S.Last
 U5:s'.Serial=s.Serial
 lv:lv s'=(lv s).filter λh=>decide (h∉ds)
 ob:∀k∈Sh.lv s,k∉ds→ob s' k=ob s k
 ce:∀j,ce s' j=if j∈ds.map A8 then gnC s j else ce s j
theorem a1w:∀(ds:List Int) {s:a7} (hR:SR s),ds.Nodup→(∀d∈ds,d∈lv s)→Gn s (gnL s ds) ds
 | [],s,hR,_,_=>⟨hR,rfl,rfl,rfl,(List.filter_eq_self.2 (λa _=>by simp)).symm,λ_ _ _=>rfl,λj=>by simp[gnL]⟩
 | d::ds,s,hR,hn,hm=>by
  rw[List.nodup_cons] at hn;have hd:=hm d (List.mem_cons_self ..);have hlv:=c8V hR hd;have hm':∀e∈ds,e∈lv (gnA s d):=λe he=>by
   rw[hlv,List.mem_filter,decide_eq_true_iff];exact⟨hm e (List.mem_cons_of_mem _ he),λq=>hn.1 (q▸he)⟩
  have ih:=a1w ds (b9i hR hd) hn.2 hm';refine⟨ih.sr,ih.len.trans (V2 ..),ih.last,ih.U5,?_,λk hk hne=>?_,λj=>?_⟩
  ·show lv (gnL (gnA s d) ds)=_;rw[ih.lv,hlv,List.filter_filter];refine List.filter_congr λh hh=>?_;rw[Bool.eq_iff_iff];simp only[Bool.and_eq_true,decide_eq_true_iff,List.mem_cons,not_or];exact⟨λq=>⟨q.2,q.1⟩,λq=>⟨q.2,q.1⟩⟩
  ·show ob (gnL (gnA s d) ds) k=_;rw[List.mem_cons,not_or] at hne;rw[ih.ob k (by rw[hlv,List.mem_filter,decide_eq_true_iff];exact⟨hk,hne.1⟩) hne.2,c8W hR hd hk hne.1]
  ·show ce (gnL (gnA s d) ds) j=_;have hg:∀e∈ds,A8 e≠A8 d:=λe he=>b9z hR (hm e (List.mem_cons_of_mem _ he)) hd λq=>hn.1 (q▸he);rw[ih.ce];by_cases h1:j∈ds.map A8
   ·obtain⟨e,he,rfl⟩:=List.mem_map.1 h1;rw[if_pos h1,if_pos (by rw[List.map_cons];exact List.mem_cons_of_mem _ h1)];unfold gnC;rw[c3B hR hd,if_neg (hg e he)];rfl
   ·rw[if_neg h1,c3B hR hd,List.map_cons];by_cases h2:j=A8 d
    ·subst h2;rw[if_pos rfl,if_pos (List.mem_cons_self ..)]
    ·rw[if_neg h2,if_neg];rw[List.mem_cons];exact λq=>q.elim h2 h1
theorem b5m{α:Type}(p:α→Bool)(f:α→Nat):∀l:List α,(l.map f).sum=((l.filter p).map f).sum+((l.filter λx => !p x).map f).sum
 | []=>rfl
 | x::l=>by
  rw[List.map_cons,List.sum_cons,b5m p f l,List.filter_cons,List.filter_cons];cases p x <;> simp <;> omega
theorem b8w(f:Int→List Int)(y:Int):∀l:List Int,X4 (l.flatMap f) y=(l.map λx=>X4 (f x) y).sum
 | []=>N5 y
 | x::l=>by rw[List.flatMap_cons,H7,b8w f y l,List.map_cons,List.sum_cons]
theorem Gn.inn{s s':a7}{ds:List Int}(hR:SR s)(hn:ds.Nodup)(hm:∀d∈ds,d∈Sh.lv s)(g:Gn s s' ds)(y:Int):inn s' y+X4 (ds.flatMap (outs s)) y=inn s y:=by
 unfold Sh.inn;rw[g.lv,b5m (λh=>decide (h∉ds)) (λx=>X4 (outs s x) y) (Sh.lv s),b8w];have h1:((Sh.lv s).filter λh=>decide (h∉ds)).map (λx=>X4 (outs s' x) y)=((Sh.lv s).filter λh=>decide (h∉ds)).map λx=>X4 (outs s x) y:=List.map_congr_left λx hx=>by
  rw[List.mem_filter,decide_eq_true_iff] at hx;unfold Sh.outs;rw[g.ob x hx.1 hx.2]
 have h2:((Sh.lv s).filter λx => !decide (x∉ds)).Perm ds:=by
  rw[List.perm_ext_iff_of_nodup ((b0k (p9.2 hR)).filter _) hn];intro a;rw[List.mem_filter];simp only[decide_not,Bool.not_not,decide_eq_true_iff];exact⟨λq=>q.2,λq=>⟨hm a q,q⟩⟩
 rw[h1,(h2.map λx=>X4 (outs s x) y).sum_nat]
theorem b7S{L:List g7}(hd:L.Pairwise λa b=>¬(a.Kind=b.Kind∧a.At=b.At))(k:Int):((L.filter (·.Kind==k)).map (·.At)).Nodup:=by
 unfold List.Nodup;rw[List.pairwise_map];refine (hd.filter _).imp_of_mem λ{a b} ha hb h e=>?_;rw[List.mem_filter,beq_iff_eq] at ha hb;exact h ⟨ha.2.trans hb.2.symm,e⟩
theorem b3W{L:List g7}{m:List Int}(hd:L.Pairwise λa b=>¬(a.Kind=b.Kind∧a.At=b.At))(h:∀t∈L,(t.Kind=1∧t.At∈m)∨(t.Kind=2∧0≤t.At∧t.At≤5)):L.length≤m.length+6:=by
 have h1:L.length=(L.filter (·.Kind==1)).length+(L.filter (·.Kind==2)).length:=by
  rw[a9W (λt:g7=>t.Kind==1) L];congr 2;refine List.filter_congr λt ht=>?_;rcases h t ht with q | q
  ·simp[q.1]
  ·simp[q.1]
 have h2:=a3V (b7S hd 1) (m:=m) λa ha=>by
  obtain⟨t,ht,rfl⟩:=List.mem_map.1 ha;rw[List.mem_filter,beq_iff_eq] at ht;rcases h t ht.1 with q | q
  ·exact q.2
  ·omega
 have h3:=a3V (b7S hd 2) (m:=[0,1,2,3,4,5]) λa ha=>by
  obtain⟨t,ht,rfl⟩:=List.mem_map.1 ha;rw[List.mem_filter,beq_iff_eq] at ht;rcases h t ht.1 with q | q
  ·omega
  ·simp only[List.mem_cons,List.not_mem_nil,or_false];omega
 rw[List.length_map] at h2 h3;simp only[List.length_cons,List.length_nil] at h3;omega
theorem a4H{q:TQ}{w:Int}:wts q w=true↔∃t∈q.L,t.Kind=2∧t.At=w:=by
 unfold wts;rw[List.any_eq_true];simp
theorem b0n{q:TQ}{h:Int}:h∈b4p q↔∃t∈q.L,t.Kind=1∧t.At=h:=by
 unfold b4p;rw[List.mem_map];simp only[List.mem_filter,beq_iff_eq];exact⟨λ⟨t,⟨a,b⟩,c⟩=>⟨t,a,b,c⟩,λ⟨t,a,b,c⟩=>⟨t,⟨a,b⟩,c⟩⟩
abbrev cz:e6:=⟨0,false,0⟩
def a3h(ds:List Int)(c:e6):Bool:=c.Intact&&c.Target != 0&&decide (c.Target∈ds)
def a62(ds:List Int)(c:e6):e6:=if a3h ds c then ⟨c.Target,false,c.Call⟩ else c
def clr(l:List e6)(ds:List Int):List e6:=l.map (a62 ds)
def cls(l:List e6)(ds:List Int):List Nat:=(List.range l.length).filter λw=>a3h ds (l.getD w cz)&&decide (0≤(l.getD w cz).Call)
def clt(l:List e6)(ds:List Int):List g7:=(cls l ds).map λ(w:Nat)=>⟨2,(w:Int),(l.getD w cz).Call⟩
theorem b5C(ds:List Int)(c:e6):(a62 ds c).Target=c.Target∧(a62 ds c).Call=c.Call∧((a62 ds c).Intact=true↔c.Intact=true∧a3h ds c=false):=by
 unfold a62;cases h:a3h ds c
 ·rw[if_neg (by simp)];simp
 ·rw[if_pos rfl];simp
theorem c6v(l:List e6)(ds:List Int)(h:Int):nmg (clr l ds) h=nmg l h:=by
 unfold nmg clr;rw[List.countP_map];congr 1;funext c
 simp only[Function.comp_apply,(b5C ds c).1]
theorem a3j{l:List e6}{ds:List Int}{t:g7}:t∈clt l ds↔∃w,∃hw:w<l.length,t=⟨2,(w:Int),l[w].Call⟩∧a3h ds l[w]=true∧0≤l[w].Call:=by
 unfold clt cls;rw[List.mem_map];constructor
 ·rintro⟨w,hw,rfl⟩;rw[List.mem_filter,List.mem_range] at hw;obtain⟨h1,h2⟩:=hw;have e:l.getD w cz=l[w]:=by rw[List.getD_eq_getElem?_getD,List.getElem?_eq_getElem h1];rfl
  rw[e] at h2 ⊢;rw[Bool.and_eq_true,decide_eq_true_iff] at h2;exact⟨w,h1,rfl,h2.1,h2.2⟩
 ·rintro⟨w,hw,rfl,h2,h3⟩;have e:l.getD w cz=l[w]:=by rw[List.getD_eq_getElem?_getD,List.getElem?_eq_getElem hw];rfl
  refine⟨w,?_,by rw[e]⟩;rw[List.mem_filter,List.mem_range,e,Bool.and_eq_true,decide_eq_true_iff];exact⟨hw,h2,h3⟩
theorem b4J(l:List e6)(ds:List Int):(clt l ds).Pairwise λa b=>¬(a.Kind=b.Kind∧a.At=b.At):=by
 unfold clt cls;rw[List.pairwise_map];refine (List.Pairwise.filter _ (List.nodup_range (n:=l.length))).imp λ{a b} h=>?_;rintro⟨_,e⟩;dsimp only at e;omega
end Go.Sh
namespace Go.Sh
def a4d(x:Hp)(ds:List Int)(t:Tb):Hp:=⟨gnL x.S ds,x.Roots,clr x.a8 ds,t,⟨x.Q.L++clt x.a8 ds,x.Q.Cap⟩⟩
theorem b3b(q:TQ)(l:List g7)(c:Int)(h:∀t∈l,t.Kind≠1):b4p ⟨q.L++l,c⟩=b4p q:=by
 unfold b4p;dsimp only;rw[List.filter_append];have:l.filter (λt=>t.Kind==1) = []:=by
  rw[List.filter_eq_nil_iff];intro t ht;simpa using h t ht
 rw[this,List.append_nil]
theorem c1z{x:Hp}(hx:I8 x){ds:List Int}(hn:ds.Nodup)(hm:∀d∈ds,d∈lv x.S)
  (ho:∀d∈ds,d∉otr x)(hf:∀h∈lv x.S,h∉ds→∀v∈(ob x.S h).Fields,v∉ds)(hp:∀k v,Has x.T k v→k∉ds→v∉ds)
  {t:Tb}{vals:List Int}(ht:HR t)(h1:∀k v,Has t k v↔k∉ds∧Has x.T k v)(h2:∀y,own t y+X4 vals y=own x.T y) :
  HpS (a4d x ds t)∧Wk (a4d x ds t)∧a1c (a4d x ds t) (ds.flatMap (outs x.S)++vals):=by
 have hS:=hx.sh;have hR:=hS.sr;have g:=a1w ds hR hn hm;have hlv:∀h,h∈lv (gnL x.S ds)↔h∈lv x.S∧h∉ds:=λh=>by rw[g.lv,List.mem_filter,decide_eq_true_iff]
 have hlen:(lv x.S).length≤24:=D9 (p9.2 hR);have hcl:∀w (hw:w<x.a8.length),a3h ds x.a8[w]=true→x.a8[w].Intact=true:=λw hw q=>by
  unfold a3h at q;rw[Bool.and_eq_true,Bool.and_eq_true] at q;exact q.1.1
 have htd:(x.Q.L++clt x.a8 ds).Pairwise λa b=>¬(a.Kind=b.Kind∧a.At=b.At):=by
  rw[List.pairwise_append];refine⟨hS.td,b4J ..,λa ha b hb q=>?_⟩;obtain⟨w,hw,rfl,hh,_⟩:=a3j.1 hb;have:=((hS.cl w hw).2.2.2.2 (hcl w hw hh)).2;rw[Bool.eq_false_iff] at this;exact this (a4H.2 ⟨a,ha,q.1,q.2⟩)
 have htk:∀t∈x.Q.L++clt x.a8 ds,0≤t.Prog∧t.Prog≤5∧((t.Kind=1∧t.At∈lv (gnL x.S ds)∧(ob (gnL x.S ds) t.At).Started=true)∨(t.Kind=2∧0≤t.At∧t.At≤5)):=λt htt=>by
  rcases List.mem_append.1 htt with q | q
  ·obtain⟨a,b,c⟩:=hS.tk t q;refine⟨a,b,?_⟩;rcases c with ⟨c1,c2,c3⟩ | c
   ·have hnd:t.At∉ds:=λhd=>ho _ hd (List.mem_append.2 (.inr (b0n.2 ⟨t,q,c1,rfl⟩)));exact .inl ⟨c1,(hlv _).2 ⟨c2,hnd⟩,by rw[g.ob _ c2 hnd];exact c3⟩
   ·exact .inr c
  ·obtain⟨w,hw,rfl,hh,hc⟩:=a3j.1 q;have c6:=hS.c6;have:=(hS.cl w hw).2.1;exact⟨hc,this,.inr ⟨rfl,by dsimp only;omega,by dsimp only;omega⟩⟩
 have hq30:(x.Q.L++clt x.a8 ds).length≤30:=by
  have:=b3W (m:=lv x.S) htd λt htt=>by
   rcases (htk t htt).2.2 with q | q
   ·exact .inl ⟨q.1,((hlv _).1 q.2.1).1⟩
   ·exact .inr q
  omega
 have hwts:∀i:Nat,wts x.Q i=false→(∀hi:i<x.a8.length,a3h ds x.a8[i]=false)→wts ⟨x.Q.L++clt x.a8 ds,x.Q.Cap⟩ i=false:=λi q1 q2=>by
  rw[Bool.eq_false_iff] at q1 ⊢;intro q;obtain⟨t,ht,a,b⟩:=a4H.1 q;rcases List.mem_append.1 ht with c | c
  ·exact q1 (a4H.2 ⟨t,c,a,b⟩)
  ·obtain⟨w,hw,rfl,hh,_⟩:=a3j.1 c;dsimp only at b;have:w=i:=by omega
   subst this;rw[q2 hw] at hh;cases hh
 refine⟨⟨g.sr,ht,hS.r6,?_,hS.cap,hq30,htk,htd,λh hh=>?_,λh hh v hv=>?_,λk v hkv=>?_,λi hi=>?_⟩,λi hi hti=>?_,λh hh hlt=>?_⟩
 ·unfold a4d clr;rw[List.length_map];exact hS.c6
 ·rcases hS.rt h hh with q | q
  ·exact .inl q
  ·have h0:h≠0:=λe=>a3S hR (e▸q);exact .inr ((hlv h).2 ⟨q,λhd=>ho h hd (List.mem_append.2 (.inl (a59.2 ⟨hh,h0⟩)))⟩)
 ·obtain⟨a,b⟩:=(hlv h).1 hh;have hv':v∈(ob x.S h).Fields:=by
   have e:=g.ob h a b;unfold a4d at hv;rwa [e] at hv
  rcases hS.fl h a v hv' with q | q
  ·exact .inl q
  ·exact .inr ((hlv v).2 ⟨q,hf h a b v hv'⟩)
 ·obtain⟨a,b⟩:=(h1 k v).1 hkv;obtain⟨c,d⟩:=hS.pr k v b;exact⟨(hlv k).2 ⟨c,a⟩,(hlv v).2 ⟨d,hp k v b a⟩⟩
 ·have hi':i<x.a8.length:=by
   unfold a4d clr at hi;simpa using hi
  have e:(a4d x ds t).a8[i]=a62 ds x.a8[i]:=List.getElem_map _;obtain⟨a1,a2,a3,a4,a5⟩:=hS.cl i hi';obtain⟨b1,b2,b3⟩:=b5C ds x.a8[i];rw[e,b1,b2];refine⟨a1,a2,λq=>?_,λq=>?_,λq=>?_⟩
  ·rw[Bool.eq_false_iff];intro q2;rw[a3 q] at b3;exact absurd (b3.1 q2).1 (by decide)
  ·obtain⟨p,hp1,hp2,hp3⟩:=a4 q;refine⟨p,by show p<(gnL x.S ds).S.a8.length;rw[g.len];exact hp1,?_⟩;show Th (ce (gnL x.S ds) p)∧_=1+(p:Int)+32*(ce (gnL x.S ds) p).Gen;rw[g.ce];split
   ·have hw:=(hx.wk p hp1 hp2).1;have:=a8b hi' q;rw[hp3] at this;unfold gnC;rw[if_neg (by omega)];exact⟨.inr rfl,hp3⟩
   ·exact⟨hp2,hp3⟩
  ·obtain⟨c1,c2⟩:=b3.1 q;obtain⟨d1,d2⟩:=a5 c1;have h0:x.a8[i].Target≠0:=λe=>a3S hR (e▸d1);refine⟨(hlv _).2 ⟨d1,λhd=>?_⟩,hwts i d2 λ_=>c2⟩;have:a3h ds x.a8[i]=true:=by
    unfold a3h;simp[c1,h0,hd]
   rw[this] at c2;cases c2
 ·have hi':i<x.S.S.a8.length:=by
   have:=g.len;have hi:i<(gnL x.S ds).S.a8.length:=hi;omega
  show (ce (gnL x.S ds) i).Val.Weak=(nmg (clr x.a8 ds) (1+(i:Int)+32*(ce (gnL x.S ds) i).Gen):Int)∧((ce (gnL x.S ds) i).State=2→_);have hti':Th (ce (gnL x.S ds) i):=hti;show _∧((ce (gnL x.S ds) i).State=2→1≤(ce (gnL x.S ds) i).Val.Weak∧(ce (gnL x.S ds) i).Val.Fields = []∧(ce (gnL x.S ds) i).Val.Strong=0);rw[c6v];rw[g.ce] at hti' ⊢;split
  ·rename_i q;rw[if_pos q] at hti';obtain⟨d,hd,rfl⟩:=List.mem_map.1 q;have hp:=w7 hR (hm d hd);have hw:=(hx.wk _ hi' (.inl hp.2.1)).1;unfold gnC at hti' ⊢;split at hti'
   ·exfalso;unfold Th at hti';split at hti' <;> simp at hti'
   ·rename_i q2;rw[if_neg q2];have:=(hR.ok _ hi' (.inl hp.2.1)).wk;exact⟨hw,λ_=>⟨by dsimp only;omega,rfl,rfl⟩⟩
  ·rename_i q;rw[if_neg q] at hti';exact hx.wk i hi' hti'
 ·obtain⟨a,b⟩:=(hlv h).1 hh;have e:=g.ob h a b;have e':ob (a4d x ds t).S h=ob x.S h:=e;rw[e'] at hlt ⊢;have hf:=hx.fair h a hlt;rw[N5] at hf;rw[hf];have i1:=g.inn hR hn hm h;have i2:=h2 h;have i3:b4p ⟨x.Q.L++clt x.a8 ds,x.Q.Cap⟩=b4p x.Q:=b3b _ _ _ λt ht=>by
   obtain⟨w,_,rfl,_⟩:=a3j.1 ht;simp
  unfold nms otr a4d;dsimp only;rw[i3,H7 (ds.flatMap (outs x.S)),H7];omega
theorem b3I:∀(l:List Int) {x:Hp},HpS x→Wk x→a1c x l→I8 (l.foldl M9 x)
 | [],x,h1,h2,h3=>⟨h1,h2,h3⟩
 | v::l,x,h1,h2,h3=>b3I l (h1.st v λc=>E2) (h2.st h1.sr v λc=>E2) (b0B h1.sr h3)
abbrev srt(o:l5):l5:=⟨o.Serial,o.Strong,o.Weak,o.Prog,true,o.Fields⟩
abbrev qtk(x:Hp)(h:Int):g7:=⟨1,h,(ob x.S h).Prog⟩
noncomputable def quH(x:Hp)(h:Int):Hp:=z1 ⟨seO x.S h (srt (ob x.S h)),x.Roots,x.a8,x.T,⟨x.Q.L ++ [qtk x h],x.Q.Cap⟩⟩ h
theorem b1k{x:Hp}(hx:I8 x){h:Int}(hh:h∈lv x.S)(hp:0≤(ob x.S h).Prog)(hs:(ob x.S h).Started=false):I8 (quH x h):=by
 have hS:=hx.sh;have hR:=hS.sr;have oko:=H2 hR hh;have ho:OkO x.S (srt (ob x.S h)):=⟨oko.s1,oko.s2,oko.st,oko.wk,oko.p1,oko.p2,oko.fl⟩;have r1:=a0F (o:=srt (ob x.S h)) hR hh rfl ho;have l1:=a28 (o:=srt (ob x.S h)) hR hh rfl ho;have o1:∀j,j∈lv x.S→ob (seO x.S h (srt (ob x.S h))) j=if j=h then srt (ob x.S h) else ob x.S j:=λj hj=>by
  have:=E0 hR hj;exact a2l (o:=srt (ob x.S h)) hR hh rfl ho (by omega)
 have hlen:(lv x.S).length≤24:=D9 (p9.2 hR);have s1:HpS (wS x (seO x.S h (srt (ob x.S h)))):=hS.of r1 l1 (λk i q=>(b9Q (o:=srt (ob x.S h)) hR hh rfl ho).2 q) (λk hk q=>by
  rw[o1 k hk];split;·rfl
  ·exact q) λk hk v hv=>by
  rw[o1 k hk] at hv;split at hv;·rename_i e;subst e;exact hS.fl k hk v hv
  ·exact hS.fl k hk v hv
 have w1:Wk (wS x (seO x.S h (srt (ob x.S h)))):=λi hi ht=>by
  have K2:=w7 hR hh;have hc:=b6M (o:=srt (ob x.S h)) hR hh rfl ho i;dsimp only at hi ht ⊢;rw[hc] at ht ⊢;have hi':i<x.S.S.a8.length:=by unfold seO at hi;rwa [K4] at hi
  split at ht
  ·rename_i e;subst e;rw[if_pos rfl];dsimp only;have:=hx.wk _ hi' (.inl K2.2.1);rw[K8 hR K2];exact⟨this.1,λq=>absurd q (by rw[K2.2.1];decide)⟩
  ·rename_i e;rw[if_neg e];exact hx.wk i hi' ht
 have htd:(x.Q.L ++ [qtk x h]).Pairwise λa b=>¬(a.Kind=b.Kind∧a.At=b.At):=by
  rw[List.pairwise_append];refine⟨hS.td,by simp,λa ha b hb q=>?_⟩;rw[List.mem_singleton] at hb;subst hb;dsimp only at q;rcases (hS.tk a ha).2.2 with c | c
  ·rw[q.2,hs] at c;exact absurd c.2.2 (by decide)
  ·omega
 have htk:∀t∈x.Q.L ++ [qtk x h],0≤t.Prog∧t.Prog≤5∧((t.Kind=1∧t.At∈lv (seO x.S h (srt (ob x.S h)))∧(ob (seO x.S h (srt (ob x.S h))) t.At).Started=true)∨(t.Kind=2∧0≤t.At∧t.At≤5)):=λt ht=>by
  rcases List.mem_append.1 ht with q | q
  ·exact s1.tk t q
  ·rw[List.mem_singleton] at q;subst q;refine⟨hp,oko.p2,.inl ⟨rfl,by rw[l1];exact hh,?_⟩⟩;dsimp only;rw[o1 h hh,if_pos rfl]
 have hq30:(x.Q.L ++ [qtk x h]).length≤30:=by
  have:=b3W (m:=lv x.S) htd λt ht=>by
   rcases (htk t ht).2.2 with q | q
   ·exact .inl ⟨q.1,by rw[←l1];exact q.2.1⟩
   ·exact .inr q
  omega
 have s2:HpS ⟨seO x.S h (srt (ob x.S h)),x.Roots,x.a8,x.T,⟨x.Q.L ++ [qtk x h],x.Q.Cap⟩⟩:=by
  refine⟨s1.sr,s1.hr,s1.r6,s1.c6,s1.cap,hq30,htk,htd,s1.rt,s1.fl,s1.pr,λi hi=>?_⟩;obtain⟨a,b,c,d,e⟩:=s1.cl i hi;refine⟨a,b,c,d,λq=>⟨(e q).1,?_⟩⟩;have:=(e q).2;rw[Bool.eq_false_iff] at this ⊢;intro q2;obtain⟨t,ht,k1,k2⟩:=a4H.1 q2;rcases List.mem_append.1 ht with q3 | q3
  ·exact this (a4H.2 ⟨t,q3,k1,k2⟩)
  ·rw[List.mem_singleton] at q3;subst q3;dsimp only at k1;omega
 have w2:Wk ⟨seO x.S h (srt (ob x.S h)),x.Roots,x.a8,x.T,⟨x.Q.L ++ [qtk x h],x.Q.Cap⟩⟩:=w1;refine⟨s2.st h λc=>A5,w2.st s2.sr h λc=>A5,λk hk hlt=>?_⟩;have hk':k∈lv x.S:=by
  have:lv (quH x h).S=lv x.S:=(B5 s2.sr h λc=>A5).lv.trans l1;rw[←this];exact hk
 have hst:(ob (quH x h).S k).Strong=if k=h then M0 (ob x.S k).Strong else (ob x.S k).Strong:=by
  have:=a3a (x:=⟨seO x.S h (srt (ob x.S h)),x.Roots,x.a8,x.T,⟨x.Q.L ++ [qtk x h],x.Q.Cap⟩⟩) s2.sr h (f:=M0) (λc=>A5) (k:=k) (by rw[←l1] at hk';exact hk');refine Eq.trans this ?_;dsimp only;rw[o1 k hk'];by_cases e:k=h
  ·subst e;rw[if_pos rfl,if_pos rfl,if_pos rfl]
  ·rw[if_neg e,if_neg e,if_neg e]
 have hnm:nms (quH x h) k=nms x k+if k=h then 1 else 0:=by
  have:=b2E (x:=⟨seO x.S h (srt (ob x.S h)),x.Roots,x.a8,x.T,⟨x.Q.L ++ [qtk x h],x.Q.Cap⟩⟩) s2.sr h (f:=M0) (λc=>A5) k;refine Eq.trans this ?_;have hi:=c0z (o:=srt (ob x.S h)) hR hh rfl ho k;dsimp only at hi;have h0:k≠0:=λe=>a3S hR (e▸hk');unfold nms otr b4p;dsimp only;rw[List.filter_append,List.map_append,H7,H7,H7];have:X4 (List.map (·.At) (List.filter (λt:g7=>t.Kind==1) [qtk x h])) k=if k=h then 1 else 0:=by
   show X4 [h] k=_;rw[E1,N5];by_cases e:k=h
   ·rw[if_pos ⟨e.symm,h0⟩,if_pos e]
   ·rw[if_neg (λq=>e q.1.symm),if_neg e]
  rw[this];omega
 rw[hst] at hlt ⊢;rw[hnm,N5];have hpos:=(H2 hR hk').st;by_cases e:k=h
 ·rw[if_pos e] at hlt ⊢;rw[if_pos e];have:=hx.fair k hk' (by unfold M0 at hlt;split at hlt <;> omega);rw[N5] at this;unfold M0 at hlt ⊢;split at hlt;·omega
  ·rename_i q;rw[if_neg q,if_neg (by omega)];omega
 ·rw[if_neg e] at hlt ⊢;rw[if_neg e];have:=hx.fair k hk' hlt;rw[N5] at this;exact this
end Go.Sh
namespace Go.Sh
noncomputable def zr(x:Hp):List Int:=(lv x.S).filter λh=>(ob x.S h).Strong==0
theorem X5{x:Hp}{h:Int}:h∈zr x↔h∈lv x.S∧(ob x.S h).Strong=0:=by
 unfold zr;rw[List.mem_filter,beq_iff_eq]
theorem b66{x:Hp}(hx:I8 x){z:Int}(hz:z∈zr x):nms x z=0:=by
 obtain⟨a,b⟩:=X5.1 hz;have:=hx.fair z a (by omega);rw[N5] at this;omega
theorem b8x{l:List Int}{h:Int}(h0:h≠0)(e:X4 l h=0):h∉l:=λq=>by
 have:=a1Q.2 ⟨h0,q⟩;omega
theorem c3O{α:Type}(f:α→Nat):∀ {l:List α} {a:α},a∈l→f a≤(l.map f).sum
 | b::l,a,h=>by
  rw[List.map_cons,List.sum_cons];rcases List.mem_cons.1 h with e | e
  ·subst e;omega
  ·have:=c3O f e;omega
theorem b56{s:a7}{a y:Int}(ha:a∈lv s):X4 (outs s a) y≤inn s y:=c3O (λx=>X4 (outs s x) y) ha
theorem b6k{t:Tb}{k v:Int}(h:Has t k v)(h0:v≠0):0<own t v:=List.countP_pos_iff.2 ⟨⟨k,v⟩,a3k.2 h,by simp[h0]⟩
def wot(t:Tb)(ks:List Int):Tb × List Int:=(V4 t ks).getD (t,[])
theorem a4c{t:Tb}(hT:HR t)(ks:List Int)(hks:ks.length≤1000):V4 t ks=some (wot t ks)∧HR (wot t ks).1∧(wot t ks).2.length≤ks.length∧a4B (t.map K2) ks=some ((wot t ks).1.map K2,(wot t ks).2) ∧
  (∀k v,Has (wot t ks).1 k v↔k∉ks∧Has t k v)∧∀y,own (wot t ks).1 y+X4 (wot t ks).2 y=own t y:=by
 obtain⟨a,had,h1,h2,h3,h4,h5,h6,h7,h8,h9⟩:=b8F hT ks hks;have:wot t ks=(a,had):=by unfold wot;rw[h1];rfl
 rw[this];exact⟨h1,h2,h4,h5,h6,h9⟩
noncomputable def buH(x:Hp)(ds:List Int):Hp:=(ds.flatMap (outs x.S)++(wot x.T ds).2).foldl M9 (a4d x ds (wot x.T ds).1)
theorem a34:∀(l:List Int) {x:Hp},SR x.S→Kin x.S (l.foldl M9 x).S∧l.foldl M9 x=wS x (l.foldl M9 x).S
 | [],x,h=>⟨Kin.refl h,rfl⟩
 | v::l,x,h=>by
  have k1:=B5 h v (f:=a1T) λc=>E2;obtain⟨k2,e⟩:=a34 l (x:=M9 x v) k1.sr;refine⟨k1.trans k2,?_⟩;show l.foldl M9 (M9 x v)=wS x (l.foldl M9 (M9 x v)).S;rw[e,c9Z x v]
theorem b4G{x:Hp}(hx:I8 x){ds:List Int}(hn:ds.Nodup)(hm:∀d∈ds,d∈lv x.S)
  (ho:∀d∈ds,d∉otr x)(hf:∀h∈lv x.S,h∉ds→∀v∈(ob x.S h).Fields,v∉ds)(hp:∀k v,Has x.T k v→k∉ds→v∉ds):I8 (buH x ds):=by
 have hl:ds.length≤24:=Nat.le_trans (a3V hn hm) (D9 (p9.2 hx.sh.sr));obtain⟨_,w1,_,_,w2,w3⟩:=a4c hx.sh.hr ds (by omega);obtain⟨a,b,c⟩:=c1z hx hn hm ho hf hp w1 w2 w3;exact b3I _ a b c
theorem b5z{x:Hp}(hR:SR x.S){ds:List Int}(hn:ds.Nodup)(hm:∀d∈ds,d∈lv x.S):lv (buH x ds).S=(lv x.S).filter λh=>decide (h∉ds):=by
 have g:=a1w ds hR hn hm;exact (a34 (ds.flatMap (outs x.S)++(wot x.T ds).2) (x:=a4d x ds (wot x.T ds).1) g.sr).1.lv.trans g.lv
theorem b8W{x:Hp}(hR:SR x.S){ds:List Int}(hn:ds.Nodup)(hm:∀d∈ds,d∈lv x.S){k:Int}(hk:k∈lv x.S)(hd:k∉ds):∃n,ob (buH x ds).S k=stg (ob x.S k) n:=by
 have g:=a1w ds hR hn hm;have hr:=E0 hR hk;obtain⟨n,e⟩:=(a34 (ds.flatMap (outs x.S)++(wot x.T ds).2) (x:=a4d x ds (wot x.T ds).1) g.sr).1.ob k (by omega);refine⟨n,?_⟩;have e':ob (buH x ds).S k=_:=e;have g':ob (a4d x ds (wot x.T ds).1).S k=ob x.S k:=g.ob k hk hd;rw[e',g']
theorem a9N{x:Hp}(hR:SR x.S){ds:List Int}(hn:ds.Nodup)(hm:∀d∈ds,d∈lv x.S):(buH x ds).Roots=x.Roots∧(buH x ds).a8=clr x.a8 ds∧(buH x ds).T=(wot x.T ds).1∧(buH x ds).Q=⟨x.Q.L++clt x.a8 ds,x.Q.Cap⟩:=by
 have g:=a1w ds hR hn hm;have e:=(a34 (ds.flatMap (outs x.S)++(wot x.T ds).2) (x:=a4d x ds (wot x.T ds).1) g.sr).2;have e':buH x ds=wS (a4d x ds (wot x.T ds).1) (buH x ds).S:=e;rw[e'];exact⟨rfl,rfl,rfl,rfl⟩
theorem b4a{x:Hp}(hx:I8 x){z:Int}(hz:z∈zr x):I8 (buH x [z]):=by
 obtain⟨a,b⟩:=X5.1 hz;have h0:z≠0:=λe=>a3S hx.sh.sr (e▸a);have hn:=b66 hx hz;unfold nms at hn;refine b4G hx (by simp) (by simpa using a) (λd hd=>?_) (λh hh hne v hv q=>?_) (λk v hkv _ q=>?_)
 ·rw[List.mem_singleton] at hd;subst hd;exact b8x h0 (by omega)
 ·rw[List.mem_singleton] at q;subst q;have:=b56 (y:=v) hh;have h1:=a1Q.2 ⟨h0,show v∈outs x.S h from a59.2 ⟨hv,h0⟩⟩;omega
 ·rw[List.mem_singleton] at q;subst q;have:=b6k hkv h0;omega
def due(o:l5):Bool:=decide (0≤o.Prog) && !o.Started
noncomputable def stp(x:Hp):Hp:=match zr x with
 | []=>x
 | z::_=>if due (ob x.S z) then quH x z else buH x [z]
noncomputable def stN:Nat→Hp→Hp
 | 0,x=>x
 | n+1,x=>stN n (stp x)
theorem Z5(n:Nat)(x:Hp):stN (n+1) x=stp (stN n x):=by
 induction n generalizing x with
 | zero=>rfl
 | succ n ih=>exact ih (stp x)
theorem a8v{x:Hp}(h:zr x = []):stp x=x:=by unfold stp;rw[h]
theorem a1P{x:Hp}{z:Int}{l:List Int}(h:zr x=z::l):stp x=if due (ob x.S z) then quH x z else buH x [z]:=by unfold stp;rw[h]
theorem c2h{x:Hp}(hx:I8 x):I8 (stp x):=by
 cases h:zr x with
 | nil=>rw[a8v h];exact hx
 | cons z l=>
  have hz:z∈zr x:=by rw[h];exact List.mem_cons_self ..
  rw[a1P h];split
  ·rename_i q;unfold due at q;rw[Bool.and_eq_true,decide_eq_true_iff,Bool.not_eq_true'] at q;exact b1k hx (X5.1 hz).1 q.1 q.2
  ·exact b4a hx hz
theorem a0n{x:Hp}(hx:I8 x)(n:Nat):I8 (stN n x):=by
 induction n with
 | zero=>exact hx
 | succ n ih=>rw[Z5];exact c2h ih
section
variable{x:Hp}(hR:SR x.S){h:Int}(hh:h∈lv x.S)
include hR hh
theorem a4z:Kin (seO x.S h (srt (ob x.S h))) (quH x h).S∧(quH x h).Roots=x.Roots∧(quH x h).a8=x.a8∧(quH x h).T=x.T∧(quH x h).Q=⟨x.Q.L ++ [qtk x h],x.Q.Cap⟩:=by
 have oko:=H2 hR hh;have r1:=a0F (o:=srt (ob x.S h)) hR hh rfl ⟨oko.s1,oko.s2,oko.st,oko.wk,oko.p1,oko.p2,oko.fl⟩;refine⟨B5 (x:=⟨seO x.S h (srt (ob x.S h)),x.Roots,x.a8,x.T,⟨x.Q.L ++ [qtk x h],x.Q.Cap⟩⟩) r1 h λc=>A5,?_⟩;have e:quH x h=wS ⟨seO x.S h (srt (ob x.S h)),x.Roots,x.a8,x.T,⟨x.Q.L ++ [qtk x h],x.Q.Cap⟩⟩ (quH x h).S:=b1x _ h;rw[e];exact⟨rfl,rfl,rfl,rfl⟩
theorem b3t:lv (quH x h).S=lv x.S:=by
 have oko:=H2 hR hh;exact (a4z hR hh).1.lv.trans (a28 (o:=srt (ob x.S h)) hR hh rfl ⟨oko.s1,oko.s2,oko.st,oko.wk,oko.p1,oko.p2,oko.fl⟩)
theorem b1j{k:Int}(hk:k∈lv x.S):∃n,ob (quH x h).S k=stg (if k=h then srt (ob x.S h) else ob x.S k) n:=by
 have oko:=H2 hR hh;have hr:=E0 hR hk;obtain⟨n,e⟩:=(a4z hR hh).1.ob k (by omega);refine⟨n,?_⟩;rw[e,a2l (o:=srt (ob x.S h)) hR hh rfl ⟨oko.s1,oko.s2,oko.st,oko.wk,oko.p1,oko.p2,oko.fl⟩ (by omega)]
end
noncomputable def mu(x:Hp):Nat:=(lv x.S).length+((lv x.S).filter λh => !(ob x.S h).Started).length
theorem d0Z{x:Hp}(hR:SR x.S):mu x≤48:=by
 have h1:(lv x.S).length≤24:=D9 (p9.2 hR);have h2:((lv x.S).filter λh => !(ob x.S h).Started).length≤(lv x.S).length:=List.length_filter_le ..;unfold mu;omega
theorem d0a{x:Hp}(hx:I8 x)(h:zr x ≠ []):mu (stp x)<mu x:=by
 cases hz:zr x with
 | nil=>exact absurd hz h
 | cons z l=>
  have hzm:z∈zr x:=by rw[hz];exact List.mem_cons_self ..
  have hzl:=(X5.1 hzm).1;have hR:=hx.sh.sr;rw[a1P hz];split
  ·rename_i q;unfold due at q;rw[Bool.and_eq_true,decide_eq_true_iff,Bool.not_eq_true'] at q;unfold mu;rw[b3t hR hzl];have:=filter_lt (p:=λh => !(ob (quH x z).S h).Started) (q:=λh => !(ob x.S h).Started) (l:=lv x.S) (λk hk hp=>by
    obtain⟨n,e⟩:=b1j hR hzl hk;rw[e] at hp;split at hp;·exact absurd hp (by simp)
    ·exact hp) z hzl (by rw[q.2];rfl) (by
    obtain⟨n,e⟩:=b1j hR hzl hzl;rw[e,if_pos rfl];rfl)
   omega
  ·unfold mu;have hn:([z]:List Int).Nodup:=by simp
   have hm:∀d ∈ [z],d∈lv x.S:=by simpa using hzl
   rw[b5z hR hn hm,List.filter_filter];have h1:((lv x.S).filter λh=>decide (h ∉ [z])).length<((lv x.S).filter λ_=>true).length:=filter_lt (λ_ _ _=>rfl) z hzl rfl (by simp);rw[List.filter_eq_self.2 (λ_ _=>rfl)] at h1;have h2:((lv x.S).filter λa=>(!(ob (buH x [z]).S a).Started)&&decide (a ∉ [z])).length≤((lv x.S).filter λh => !(ob x.S h).Started).length:=by
    rw[←List.countP_eq_length_filter,←List.countP_eq_length_filter];refine List.countP_mono_left λa ha hp=>?_;rw[Bool.and_eq_true,decide_eq_true_iff] at hp;obtain⟨n,e⟩:=b8W hR hn hm ha hp.2;rw[e] at hp;exact hp.1
   omega
noncomputable def V3(x:Hp):Hp:=stN 100 x
theorem a5r{x:Hp}(hx:I8 x):∃n,n≤48∧zr (stN n x) = []∧(∀j,j<n→zr (stN j x) ≠ [])∧V3 x=stN n x:=by
 have key:∀m,(∃n,n≤m∧zr (stN n x) = [])∨mu (stN m x)+m≤mu x:=by
  intro m;induction m with
  | zero=>exact .inr (Nat.le_refl _)
  | succ m ih=>
   rcases ih with ⟨n,h1,h2⟩ | ih;·exact .inl ⟨n,by omega,h2⟩
   ·by_cases q:zr (stN m x) = []
    ·exact .inl ⟨m,by omega,q⟩
    ·have:=d0a (a0n hx m) q;rw[←Z5] at this;exact .inr (by omega)
 have h48:=d0Z hx.sh.sr;have hex:∃n,n≤48∧zr (stN n x) = []:=by
  rcases key 49 with ⟨n,h1,h2⟩ | h
  ·rcases Nat.lt_or_ge n 49 with q | q
   ·exact⟨n,by omega,h2⟩
   ·rcases key 48 with h | h
    ·exact h
    ·have:mu (stN 48 x)=0:=by omega
     refine⟨48,Nat.le_refl _,?_⟩;have hl:(lv (stN 48 x).S).length=0:=by unfold mu at this;omega
     unfold zr;rw[List.eq_nil_of_length_eq_zero hl];rfl
  ·omega
 obtain⟨n,⟨hn,hz⟩,hmin⟩:=a00 hex;refine⟨n,hn,hz,λj hj q=>?_,?_⟩
 ·have:=hmin j ⟨by omega,q⟩;omega
 ·have:∀k,stN (n+k) x=stN n x:=λk=>by
   induction k with
   | zero=>rfl
   | succ k ih=>rw[show n+(k+1)=(n+k)+1 by omega,Z5,ih,a8v hz]
  have h100:=this (100-n);rw[show n+(100-n)=100 by omega] at h100;exact h100
theorem a2m{x:Hp}(hx:I8 x):I8 (V3 x):=a0n hx 100
theorem b5j{x:Hp}(hx:I8 x):zr (V3 x) = []:=by
 obtain⟨n,_,h,_,e⟩:=a5r hx;rw[e];exact h
theorem a1M{x:Hp}(h:zr x = []):V3 x=x:=by
 have:∀n,stN n x=x:=λn=>by
  induction n with
  | zero=>rfl
  | succ n ih=>rw[Z5,ih,a8v h]
 exact this 100
end Go.Sh
namespace Go.Sh
section
variable{x:Hp}(hR:SR x.S)
include hR
theorem a1C{h:Int}(hh:h∈lv x.S):h≤9223372036854775807:=by have:=E0 hR hh;omega
theorem b07{h:Int}(hh:h∈lv x.S):r9 x.S h=some (ob x.S h,0):=by
 obtain⟨e,h1,h2⟩:=P5 (p9.2 hR) (a1C hR hh);rw[h1,h2.2 hh]
theorem a94{h:Int}(hh:h∈lv x.S):E4 (sO x.S) h=some (oo (ob x.S h),0):=by
 have:=hR.len;rw[a48 x.S (by omega) (a1C hR hh),b07 hR hh];rfl
theorem zero_eq:a1l x=some (zr x):=by
 have h24:(lv x.S).length≤24:=D9 (p9.2 hR);unfold a1l;simp only[jn];rw[a1B (p9.2 hR),d2I];rw[D8 (lv x.S) (λb h=>if (ob x.S h).Strong==0 then b ++ [h] else b) id (λk b=>b.length≤k) (by omega) (Nat.le_refl _) (λk hk b hb=>?_) (λb hb=>by simp)]
 ·rw[foldl_filter];rfl
 ·simp only[Int.ofNat_lt,hk,decide_true,if_true,n9 hk,d2I,b07 hR (List.getElem_mem hk)];by_cases c:((ob x.S (lv x.S)[k]).Strong==0)=true
  ·rw[if_pos c,if_pos c,u7 (by omega) (by simp;omega),d2I,k8];exact⟨rfl,by simp;omega⟩
  ·rw[if_neg c,if_neg c,k8];exact⟨rfl,by omega⟩
theorem c5i:b0w (hO x)=some (zr x):=by
 have h24:(lv x.S).length≤24:=D9 (p9.2 hR);unfold b0w;simp only[jn];rw[show (hO x).S=sO x.S from rfl,a9o (p9.2 hR),d2I];rw[D8 (lv x.S) (λb h=>if (ob x.S h).Strong==0 then b ++ [h] else b) id (λk b=>b.length≤k) (by omega) (Nat.le_refl _) (λk hk b hb=>?_) (λb hb=>by simp)]
 ·rw[foldl_filter];rfl
 ·simp only[Int.ofNat_lt,hk,decide_true,if_true,n9 hk,d2I,a94 hR (List.getElem_mem hk)];by_cases c:((ob x.S (lv x.S)[k]).Strong==0)=true
  ·rw[show ((oo (ob x.S (lv x.S)[k])).Strong==0)=true from c,if_pos rfl,if_pos c,u7 (by omega) (by simp;omega),d2I,k8];exact⟨rfl,by simp;omega⟩
  ·rw[if_neg (show ¬((oo (ob x.S (lv x.S)[k])).Strong==0)=true from c),if_neg c,k8];exact⟨rfl,by omega⟩
end
noncomputable def quD(x:Hp)(h:Int):Hp:=if h∈lv x.S∧due (ob x.S h)=true then quH x h else x
theorem b6R{s:a7}(hR:SR s){h:Int}(hl:h∈lv s):OkO s (srt (ob s h)):=by
 have oko:=H2 hR hl;exact⟨oko.s1,oko.s2,oko.st,oko.wk,oko.p1,oko.p2,oko.fl⟩
theorem c0S(o:l5):J4 o=some (due o):=by
 unfold J4 due;congr 1
section
variable{x:Hp}(hx:I8 x)(hS:SL x){h:Int}(hh:h≤9223372036854775807)
include hx hS hh
theorem b3v(hl:h∈lv x.S)(hd:due (ob x.S h)=true):x.Q.L.length<30:=by
 have hb:0≤(ob x.S h).Prog∧(ob x.S h).Started=false:=by
  unfold due at hd;rw[Bool.and_eq_true,decide_eq_true_iff,Bool.not_eq_true'] at hd;exact hd
 have:=(b1k hx hl hb.1 hb.2).sh.q30;rw[(a4z hx.sh.sr hl).2.2.2.2] at this;simp at this;omega
theorem b5b:P8 x h=some (quD x h):=by
 have hR:=hx.sh.sr;have cap:=hx.sh.cap;obtain⟨e,h1,h2⟩:=P5 (p9.2 hR) hh;unfold P8 quD;rw[h1,d2I];by_cases hl:h∈lv x.S
 ·have e0:e=0:=h2.2 hl;subst e0;have e1:(((0:Int) != 0)==false)=true:=rfl;simp only[e1,a3d,c0S,d2I];cases hd:due (ob x.S h);·rw[if_pos (by simp),if_neg (by simp)]
  ·rw[if_neg (by simp),if_pos ⟨hl,rfl⟩];have hr:=b3v hx hS hh hl hd;have hok:=b6R hR hl;have l1:=a28 (o:=srt (ob x.S h)) hR hl rfl hok;have r1:=a0F (o:=srt (ob x.S h)) hR hl rfl hok;rw[b0F (o:=srt (ob x.S h)) hR hl rfl hok,d2I,c70 _ (by omega),d2I];have et:tad x.Q ⟨1,h,(ob x.S h).Prog⟩=(⟨x.Q.L ++ [qtk x h],x.Q.Cap⟩,0):=by
    unfold tad;rw[if_neg (by omega)]
   rw[et];dsimp only;rw[a5m r1 hh (λk hk=>?_),d2I];·rfl
   ·dsimp only at hk ⊢;rw[l1] at hk;rw[a2l (o:=srt (ob x.S h)) hR hl rfl hok (a1C hR hk)];split;·exact hS h hl
    ·exact hS k hk
 ·have e0:e≠0:=λq=>hl (h2.1 q);have e1:(e != 0)=true:=by simpa using e0
  rw[e1];simp only[show ((true==false)=true)=False by simp,y7,if_false,d2I,Bool.true_or,if_true];rw[if_neg (λq=>hl q.1)]
theorem c3g:a8k (hO x) h=some (decide (h∈lv x.S)&&due (ob x.S h)):=by
 have hR:=hx.sh.sr;have hlen:=hR.len;obtain⟨e,h1,h2⟩:=P5 (p9.2 hR) hh;unfold a8k;rw[show (hO x).S=sO x.S from rfl,a48 x.S (by omega) hh,h1,Option.map_some,d2I,b2n hR hh,d2I];unfold due oo;rw[Bool.and_assoc]
theorem b77:a30 (hO x) h=some (hO (quD x h)):=by
 have hR:=hx.sh.sr;have cap:=hx.sh.cap;unfold a30 quD;rw[c3g hx hS hh,d2I];by_cases hl:h∈lv x.S
 ·rw[decide_eq_true hl,Bool.true_and];cases hd:due (ob x.S h);·rw[if_pos (by simp),if_neg (by simp)]
  ·rw[if_neg (by simp),if_pos ⟨hl,rfl⟩];have hr:=b3v hx hS hh hl hd;have hok:=b6R hR hl;have l1:=a28 (o:=srt (ob x.S h)) hR hl rfl hok;have r1:=a0F (o:=srt (ob x.S h)) hR hl rfl hok;rw[show (hO x).S=sO x.S from rfl,a94 hR hl,d2I];have es:L8 (sO x.S) h (oo (srt (ob x.S h)))=some (sO (seO x.S h (srt (ob x.S h))),0):=b0G hR hl rfl hok;have es':L8 (sO x.S) h ⟨(oo (ob x.S h)).Serial,(oo (ob x.S h)).Strong,(oo (ob x.S h)).Weak,(oo (ob x.S h)).Prog,true,(oo (ob x.S h)).Fields⟩=some (sO (seO x.S h (srt (ob x.S h))),0):=es;rw[es',d2I];have ea:a6f (hO x).Q ⟨1,h,(oo (ob x.S h)).Prog⟩=some (tqR ⟨x.Q.L ++ [qtk x h],x.Q.Cap⟩,0):=by
    have:=c7W (q:=x.Q) (qtk x h) (by omega);have et:tad x.Q (qtk x h)=(⟨x.Q.L ++ [qtk x h],x.Q.Cap⟩,0):=by
     unfold tad;rw[if_neg (by omega)]
    rw[et] at this;exact this
   rw[ea,d2I];have er:=a7B (x:=⟨seO x.S h (srt (ob x.S h)),x.Roots,x.a8,x.T,⟨x.Q.L ++ [qtk x h],x.Q.Cap⟩⟩) r1 hh (λk hk=>by
    dsimp only at hk ⊢;rw[l1] at hk;rw[a2l (o:=srt (ob x.S h)) hR hl rfl hok (a1C hR hk)];split;·exact hS h hl
    ·exact hS k hk)
   have er':a09 ⟨sO (seO x.S h (srt (ob x.S h))),(hO x).Roots,(hO x).a8,(hO x).T,tqR ⟨x.Q.L ++ [qtk x h],x.Q.Cap⟩⟩ h=_:=er;dsimp only;rw[er',d2I];rfl
 ·rw[decide_eq_false hl,Bool.false_and];rw[if_pos (by simp),if_neg (λq=>hl q.1)]
end
noncomputable def lvo(x:Hp)(l:List Int):List Int:=l.foldl (λb h=>if h∈lv x.S∧h∉b then b ++ [h] else b) []
theorem b7N{x:Hp}{z:Int}(hz:z∈lv x.S):lvo x [z] = [z]:=by
 unfold lvo;simp[hz]
section
variable{x:Hp}(hR:SR x.S)
include hR
theorem b0i(l:List Int)(hl:l.length≤1000)(hb:∀h∈l,h≤9223372036854775807):S0 x l=some (lvo x l):=by
 unfold S0;simp only[jn];have key:=D8 (f:=λ((s20,s21,s22):Int × (List (Int × Bool)) × (List Int))=>
   if (decide (s20<(l.length:Int))) then
     (ix l s20).bind λv32=>
     (r9 x.S v32).bind λv33=>
     if ((v33.2==0)==true) then
      if (!((A0 s21 v32).getD (false:Bool))) then
       (app 8 s22 [v32]).bind λv34=>
       some (Sum.inl (u5 (s20+1),(o0 s21 v32 true),v34))
      else
      some (.inl (u5 (s20+1),s21,s22))
     else
     some (.inl (u5 (s20+1),s21,s22))
   else
   some (.inr s22)) l (λ(b:List (Int × Bool) × List Int) h=>if h∈lv x.S∧h∉b.2 then (o0 b.1 h true,b.2 ++ [h]) else b) (λb=>b.2) (λk b=>b.2.length≤k∧∀d,(A0 b.1 d).getD false=decide (d∈b.2)) (b0:=([],[])) (by omega) ⟨Nat.le_refl _,λd=>by simp[A0]⟩ (λk hk b hb2=>?_) (λb hb2=>by simp)
 ·rw[key,d2I];congr 1;have:∀(l:List Int) (m:List (Int × Bool)) (b:List Int),(l.foldl (λ(b:List (Int × Bool) × List Int) h=>if h∈lv x.S∧h∉b.2 then (o0 b.1 h true,b.2 ++ [h]) else b) (m,b)).2=l.foldl (λb h=>if h∈lv x.S∧h∉b then b ++ [h] else b) b:=λl=>by
   induction l with
   | nil=>intro m b;rfl
   | cons h l ih=>
    intro m b;rw[List.foldl_cons,List.foldl_cons];by_cases c:h∈lv x.S∧h∉b
    ·rw[if_pos c,if_pos c,ih]
    ·rw[if_neg c,if_neg c,ih]
  exact this l [] []
 ·obtain⟨hb1,hb3⟩:=hb2;obtain⟨e,h1,h2⟩:=P5 (p9.2 hR) (hb _ (List.getElem_mem hk));simp only[Int.ofNat_lt,hk,decide_true,if_true,n9 hk,d2I,h1,hb3];by_cases hl:l[k]∈lv x.S
  ·have e0:e=0:=h2.2 hl;subst e0;by_cases hm:l[k]∈b.2
   ·rw[if_pos (by rfl),if_neg (by simp[hm]),if_neg (λq=>q.2 hm),k8];exact⟨rfl,by omega,hb3⟩
   ·rw[if_pos (by rfl),if_pos (by simp[hm]),if_pos ⟨hl,hm⟩,u7 (by omega) (by simp;omega),d2I,k8];refine⟨rfl,by simp;omega,λd=>?_⟩;rw[a8a];by_cases q:d=l[k]
    ·rw[if_pos q];simp[q]
    ·rw[if_neg q,hb3];simp[q]
  ·have e0:e≠0:=λq=>hl (h2.1 q);rw[if_neg (by simp[e0]),if_neg (λq=>hl q.1),k8];exact⟨rfl,by omega,hb3⟩
theorem c3h(l:List Int)(hl:l.length≤1000)(hb:∀h∈l,h≤9223372036854775807):b0x (hO x) l=some (lvo x l):=by
 unfold b0x;simp only[jn];rw[D8 l (λb h=>if h∈lv x.S∧h∉b then b ++ [h] else b) id (λk b=>b.length≤k) (by omega) (Nat.le_refl _) (λk hk b hb2=>?_) (λb hb=>by simp)];·rfl
 ·simp only[Int.ofNat_lt,hk,decide_true,if_true,n9 hk,d2I,b2n hR (hb _ (List.getElem_mem hk))];by_cases hl:l[k]∈lv x.S
  ·have h0:l[k]≠0:=λe=>a3S hR (e▸hl);rw[decide_eq_true hl];simp only[beq_self_eq_true,a3d,a96 b _ (by omega:b.length≤1000000),d2I,Bool.true_and];by_cases hm:l[k]∈b
   ·rw[if_neg (by simp[hm,h0]),if_neg (λq=>q.2 hm),k8];exact⟨rfl,by omega⟩
   ·rw[if_pos (by simp[hm]),if_pos ⟨hl,hm⟩,u7 (by omega) (by simp;omega),d2I,k8];exact⟨rfl,by simp;omega⟩
  ·rw[decide_eq_false hl];simp only[show ((false==true)=true)=False by simp,y7,if_false,d2I,Bool.false_and];rw[if_neg (by simp),if_neg (λq=>hl q.1),k8];exact⟨rfl,by omega⟩
end
end Go.Sh
namespace Go.Sh
theorem b26{α β:Type}(p:α→Bool)(f:α→β):∀(xs:List α) (acc:List β),xs.foldl (λb x=>if p x then b ++ [f x] else b) acc=acc++(xs.filter p).map f
 | [],acc=>by simp
 | x::xs,acc=>by
  rw[List.foldl_cons,b26 p f xs];by_cases h:p x=true
  ·simp[h]
  ·simp[h]
theorem a0T{α:Type}{l:List α}{i:Nat}(h:i<l.length)(d:α):l.getD i d=l[i]:=by
 rw[List.getD_eq_getElem?_getD,List.getElem?_eq_getElem h];rfl
theorem c1A(c:e6)(ds:List Int)(hl:ds.length≤1000):a0p c ds=some (a3h ds c):=by
 unfold a0p a3h;rw[contains_eq _ _ (by omega)];cases (c.Intact&&c.Target != 0);·rfl
 ·simp[y7]
def pks(l:List e6)(ds:List Int):List Nat:=(List.range l.length).filter λw=>a3h ds (l.getD w cz)
theorem c9G{l:List e6}{ds:List Int}{w:Nat}(h:w∈pks l ds):w<l.length:=by
 unfold pks at h;rw[List.mem_filter,List.mem_range] at h;exact h.1
theorem c6Q(l:List e6)(ds:List Int):(pks l ds).length≤l.length:=by
 unfold pks;exact Nat.le_trans (List.length_filter_le ..) (by simp)
theorem c9H(l:List e6)(ds:List Int):(pks l ds).Nodup:=List.Pairwise.filter _ List.nodup_range
theorem c50(l:List e6)(ds:List Int):cls l ds=(pks l ds).filter λw=>decide (0≤(l.getD w cz).Call):=by
 unfold cls pks;rw[List.filter_filter];refine List.filter_congr λw _=>?_;rw[Bool.and_comm]
def a54(l:List Nat):List Int:=l.map λ(n:Nat)=>(n:Int)
theorem b57{l:List Nat}{k:Nat}(h:k<l.length):ix (a54 l) (k:Int)=some ((l[k]:Nat):Int):=by
 unfold a54;rw[a0U,n9 h];rfl
theorem a5c(l:List Nat):(a54 l).length=l.length:=List.length_map ..
theorem c11(l:List e6)(ds:List Int)(hl:l.length≤1000)(hd:ds.length≤1000):G8 l ds=some (a54 (pks l ds)):=by
 unfold G8;simp only[jn];have hr:(List.range l.length).length=l.length:=by simp
 have key:=D8 (List.range l.length) (λ(b:List Int) (w:Nat)=>if a3h ds (l.getD w cz) then b ++ [(w:Int)] else b) id (λk b=>b.length≤k) (b0:=[]) (f:=λ((s17,s18):Int × (List Int))=>
   if (decide (s17<(l.length:Int))) then
     (ix l s17).bind λv26=>
     (a0p v26 ds).bind λv27=>
     if v27 then
      (app 8 s18 [s17]).bind λv28=>
      some (Sum.inl (u5 (s17+1),v28))
     else
     some (.inl (u5 (s17+1),s18))
   else
   some (.inr s18)) (by omega) (Nat.le_refl _) (λk hk b hb=>?_) (λb hb=>by simp)
 ·rw[key,b26];rfl
 ·rw[hr] at hk;simp only[Int.ofNat_lt,hk,decide_true,if_true,n9 hk,d2I,c1A _ _ hd,List.getElem_range,a0T hk];by_cases c:a3h ds l[k]=true
  ·rw[if_pos c,if_pos c,u7 (by omega) (by simp;omega),d2I,k8];exact⟨rfl,by simp;omega⟩
  ·rw[if_neg c,if_neg c,k8];exact⟨rfl,by omega⟩
theorem c1D(l:List e6)(hl:l.length≤1000):Z8 l=some l:=by
 unfold Z8;rw[a7l (by omega) (by omega),d2I];unfold cpy;rw[if_pos (by simp),d2I];simp
def a9Q(l:List e6)(K:List Nat):List e6:=(List.range l.length).map λi=>if i∈K then ⟨(l.getD i cz).Target,false,(l.getD i cz).Call⟩ else l.getD i cz
theorem a43(l:List e6)(K:List Nat):(a9Q l K).length=l.length:=by simp[a9Q]
theorem a9R{l:List e6}{K:List Nat}{i:Nat}(h:i<(a9Q l K).length):(a9Q l K)[i]=if i∈K then ⟨(l.getD i cz).Target,false,(l.getD i cz).Call⟩ else l.getD i cz:=by simp[a9Q]
theorem c25(l:List e6):a9Q l []=l:=by
 refine List.ext_getElem (a43 ..) λi h1 h2=>?_;rw[a9R,if_neg (by simp),a0T h2]
theorem c1C{l:List e6}{K:List Nat}{w:Nat}(hw:w<l.length):a9Q l (K ++ [w])=(a9Q l K).set w ⟨(l.getD w cz).Target,false,(l.getD w cz).Call⟩:=by
 refine List.ext_getElem (by rw[List.length_set,a43,a43]) λi h1 h2=>?_;rw[a9R,List.getElem_set];by_cases e:w=i
 ·subst e;rw[if_pos rfl,if_pos (by simp)]
 ·rw[if_neg e,a9R];by_cases q:i∈K
  ·rw[if_pos (List.mem_append_left _ q),if_pos q]
  ·rw[if_neg,if_neg q];rw[List.mem_append,List.mem_singleton];exact λq2=>q2.elim q λq3=>e q3.symm
theorem c24(l:List e6)(ds:List Int):a9Q l (pks l ds)=clr l ds:=by
 refine List.ext_getElem (by rw[a43];simp[clr]) λi h1 h2=>?_;have hi:i<l.length:=by rw[a43] at h1;exact h1
 have ec:(clr l ds)[i]=a62 ds l[i]:=List.getElem_map _;rw[a9R,ec,a0T hi];unfold a62;by_cases c:a3h ds l[i]=true
 ·rw[if_pos c,if_pos];unfold pks;rw[List.mem_filter,List.mem_range,a0T hi];exact⟨hi,c⟩
 ·rw[if_neg c,if_neg];unfold pks;rw[List.mem_filter,List.mem_range,a0T hi];exact λq=>c q.2
theorem K5{α:Type}{l:List α}{k:Nat}(h:k<l.length):l.take (k+1)=l.take k ++ [l[k]]:=List.take_succ_eq_append_getElem h
theorem c23(l:List e6)(ds:List Int)(hl:l.length≤1000)(hd:ds.length≤1000):a4b l ds=some (clr l ds,a54 (cls l ds)):=by
 unfold a4b;rw[c11 l ds hl hd,d2I,c1D l hl,d2I];simp only[jn,a5c];have hp:=c6Q l ds;refine N4 (pks l ds).length (λk (b:List e6 × List Int)=>b.1=a9Q l ((pks l ds).take k)∧b.2=a54 (((pks l ds).take k).filter λw=>decide (0≤(l.getD w cz).Call))) (by omega) ⟨by simp[c25],by simp[a54]⟩ ?_ ?_
 ·rintro k ⟨b1,b2⟩ hk ⟨rfl,rfl⟩;left;have hw:=c9G (List.getElem_mem hk);have hnm:(pks l ds)[k]∉(pks l ds).take k:=λq=>by
   have hn:=c9H l ds;rw[←List.take_append_drop k (pks l ds),List.nodup_append] at hn;exact hn.2.2 _ q (pks l ds)[k] (by rw[List.drop_eq_getElem_cons hk];exact List.mem_cons_self ..) rfl
  have h1:(pks l ds)[k]<(a9Q l ((pks l ds).take k)).length:=by rw[a43];exact hw
  have e1:ix (a9Q l ((pks l ds).take k)) (((pks l ds)[k]:Nat):Int)=some (l.getD (pks l ds)[k] cz):=by rw[n9 h1,a9R,if_neg hnm]
  have h2:(pks l ds)[k]<((a9Q l ((pks l ds).take k)).set (pks l ds)[k] ⟨(l.getD (pks l ds)[k] cz).Target,false,(l.getD (pks l ds)[k] cz).Call⟩).length:=by rw[List.length_set];exact h1
  have e2:ix ((a9Q l ((pks l ds).take k)).set (pks l ds)[k] ⟨(l.getD (pks l ds)[k] cz).Target,false,(l.getD (pks l ds)[k] cz).Call⟩) (((pks l ds)[k]:Nat):Int)=some ⟨(l.getD (pks l ds)[k] cz).Target,false,(l.getD (pks l ds)[k] cz).Call⟩:=by rw[n9 h2,List.getElem_set_self]
  dsimp only;simp only[Int.ofNat_lt,hk,decide_true,if_true,b57 hk,d2I,e1,Int.toNat_natCast,e2];have hle:(a54 (((pks l ds).take k).filter λw=>decide (0≤(l.getD w cz).Call))).length≤1000:=by
   rw[a5c];exact Nat.le_trans (List.length_filter_le ..) (by simp;omega)
  rw[K5 hk,c1C hw,List.filter_append];by_cases c:0≤(l.getD (pks l ds)[k] cz).Call
  ·rw[if_pos (decide_eq_true c),u7 (by omega) (by simp only[List.length_cons,List.length_nil];omega),d2I,k8];refine⟨_,rfl,rfl,?_⟩;rw[List.filter_cons,if_pos (decide_eq_true c)];simp[a54]
  ·rw[if_neg (λq=>c (of_decide_eq_true q)),k8];refine⟨_,rfl,rfl,?_⟩;rw[List.filter_cons,if_neg (λq=>c (of_decide_eq_true q))];simp[a54]
 ·rintro⟨b1,b2⟩ ⟨rfl,rfl⟩;refine⟨_,if_neg (by simp),?_⟩;dsimp only;rw[List.take_length,c24,←c50]
theorem d0O(c:e6)(ds:List Int)(hd:ds.length≤1000):((y7 ((wcR c).Intact==true) 0 (a3A ds (wcR c).Target)).bind λv=>some ((wcR c).Intact&&decide (v > 0)))=some (a3h ds c):=by
 unfold a3h wcR;dsimp only;cases hI:c.Intact;·rfl
 ·simp only[beq_self_eq_true,a3d];rw[a9A _ _ (by omega),d2I];congr 1;rw[Bool.true_and,Bool.true_and,Bool.eq_iff_iff];simp only[decide_eq_true_iff,Bool.and_eq_true,bne_iff_ne];have:=a1Q (l:=ds) (h:=c.Target);constructor
  ·intro q;exact this.1 (by omega)
  ·intro q;have:=this.2 q;omega
theorem c5Z(l:List e6)(ds:List Int)(hl:l.length≤1000)(hd:ds.length≤1000):b1n (l.map wcR) ds=some ((clr l ds).map wcR,a54 (cls l ds)):=by
 unfold b1n;simp only[jn,List.length_map];refine N4 l.length (λk (b:List E8 × List Int)=>b.1=((clr l ds).take k).map wcR∧b.2=a54 ((List.range k).filter λw=>a3h ds (l.getD w cz)&&decide (0≤(l.getD w cz).Call))) (by omega) ⟨by simp,by simp[a54]⟩ ?_ ?_
 ·rintro k ⟨b1,b2⟩ hk ⟨rfl,rfl⟩;left;have hk2:k<(clr l ds).length:=by simp[clr];exact hk
  have e1:ix (l.map wcR) (k:Int)=some (wcR l[k]):=by rw[a0U,n9 hk];rfl
  have hle:(a54 ((List.range k).filter λw=>a3h ds (l.getD w cz)&&decide (0≤(l.getD w cz).Call))).length≤1000:=by
   rw[a5c];exact Nat.le_trans (List.length_filter_le ..) (by simp;omega)
  dsimp only;simp only[Int.ofNat_lt,hk,decide_true,if_true,e1,d2I];obtain⟨v,hv,hv2⟩:=a9M (d0O l[k] ds hd);rw[hv,d2I];have hv2:=Option.some.inj hv2;rw[hv2,K5 hk2,List.map_append,List.range_succ,List.filter_append];have ec:(clr l ds)[k]=a62 ds l[k]:=List.getElem_map _;have lc:(List.map wcR (List.take k (clr l ds))).length≤1000:=by simp[clr];omega
  rw[ec];unfold a62;by_cases c:a3h ds l[k]=true
  ·rw[if_pos c,if_pos c];by_cases c2:0≤l[k].Call
   ·rw[if_pos (by simpa[wcR] using c2),u7 (by omega) (by simp only[List.length_cons,List.length_nil];omega),d2I,u7 (by omega) (by simp only[List.length_cons,List.length_nil];omega),d2I,k8];refine⟨_,rfl,rfl,?_⟩;simp only[List.filter_cons,List.filter_nil,a0T hk,c,c2,decide_true,Bool.and_self,if_true];simp[a54]
   ·rw[if_neg (by simpa[wcR] using c2),u7 (by omega) (by simp only[List.length_cons,List.length_nil];omega),d2I,k8];refine⟨_,rfl,rfl,?_⟩;simp only[List.filter_cons,List.filter_nil,a0T hk,c,c2,decide_false,Bool.and_false,Bool.false_eq_true,if_false,List.append_nil]
  ·rw[if_neg c,if_neg c,u7 (by omega) (by simp only[List.length_cons,List.length_nil];omega),d2I,k8];refine⟨_,rfl,rfl,?_⟩;have c:a3h ds l[k]=false:=by simpa using c
   simp only[List.filter_cons,List.filter_nil,a0T hk,c,Bool.false_and,Bool.false_eq_true,if_false,List.append_nil]
 ·rintro⟨b1,b2⟩ ⟨rfl,rfl⟩;refine⟨_,if_neg (by simp),?_⟩;dsimp only;rw[List.take_of_length_le (by simp[clr])];rfl
end Go.Sh
namespace Go.Sh
def clH(x:Hp)(ds:List Int):Hp:=⟨x.S,x.Roots,clr x.a8 ds,x.T,⟨x.Q.L++clt x.a8 ds,x.Q.Cap⟩⟩
theorem a2p(l:List e6)(ds:List Int):(clt l ds).length=(cls l ds).length:=List.length_map ..
theorem c26{l:List e6}{ds:List Int}{w:Nat}(h:w∈cls l ds):w<l.length:=by
 unfold cls at h;rw[List.mem_filter,List.mem_range] at h;exact h.1
theorem c27{l:List e6}{ds:List Int}{k:Nat}(h:k<(clt l ds).length):(clt l ds)[k]=⟨2,(((cls l ds)[k]'(by rw[←a2p];exact h):Nat):Int),(l.getD ((cls l ds)[k]'(by rw[←a2p];exact h)) cz).Call⟩:=List.getElem_map _
theorem b7m{l:List e6}{ds:List Int}{w:Nat}(h:w<l.length):ix (clr l ds) (w:Int)=some (a62 ds l[w]):=by
 unfold clr;rw[a0U,n9 h];rfl
section
variable{x:Hp}{ds:List Int}(hc:x.a8.length≤6)(hd:ds.length≤1000)(hq:(x.Q.L++clt x.a8 ds).length≤30)(hcap:x.Q.Cap=30)
include hc hd hq hcap
theorem b4E{k:Nat}(hk:k<(clt x.a8 ds).length):tad ⟨x.Q.L++(clt x.a8 ds).take k,x.Q.Cap⟩ (clt x.a8 ds)[k]=(⟨x.Q.L++(clt x.a8 ds).take (k+1),x.Q.Cap⟩,0):=by
 rw[List.length_append] at hq;unfold tad;rw[if_neg (by dsimp only;rw[List.length_append,List.length_take,hcap];omega),K5 hk,List.append_assoc]
theorem b8Y:a1N x ds=some (clH x ds):=by
 unfold a1N;rw[c23 _ _ (by omega) hd,d2I];dsimp only;simp only[jn,a5c];have hq2:=hq;rw[List.length_append] at hq2;refine N4 (cls x.a8 ds).length (λk (q:TQ)=>q=⟨x.Q.L++(clt x.a8 ds).take k,x.Q.Cap⟩) (by rw[←a2p];omega) (by simp) ?_ ?_
 ·rintro k q hk rfl;left;have hw:=c26 (List.getElem_mem hk);have hk2:k<(clt x.a8 ds).length:=by rw[a2p];exact hk
  simp only[Int.ofNat_lt,hk,decide_true,if_true,b57 hk,d2I,b7m hw];have et:(⟨2,(((cls x.a8 ds)[k]:Nat):Int),(a62 ds x.a8[(cls x.a8 ds)[k]]).Call⟩:g7)=(clt x.a8 ds)[k]:=by
   rw[c27,(b5C ds _).2.1,a0T hw]
  rw[et,c70 _ (by dsimp only;rw[List.length_append,List.length_take];omega),b4E hc hd hq hcap hk2,d2I,k8 (by rw[←a2p] at hk;omega)];exact⟨_,rfl,rfl⟩
 ·rintro q rfl;refine⟨_,if_neg (by simp),?_⟩;rw[←a2p,List.take_length];rfl
theorem c8v{K:C4→Option g8}:((lp (S:=Int × C4) (E:=C4) (λ((s68,s69):Int × C4)=>
   if (decide (s68<((a54 (cls x.a8 ds)).length:Int))) then
    (ix (a54 (cls x.a8 ds)) s68).bind λv72=>
    (ix ((clr x.a8 ds).map wcR) v72).bind λv73=>
    (a6f s69 (⟨2,v72,v73.Call⟩:O5)).bind λv74=>
    some (.inl (u5 (s68+1),v74.1))
   else
   some (.inr s69)) (0,tqR x.Q)).bind K)=K (tqR (clH x ds).Q):=by
 have hq2:=hq;rw[List.length_append] at hq2;have key:=a2c (f:=λ((s68,s69):Int × C4)=>
   if (decide (s68<((a54 (cls x.a8 ds)).length:Int))) then
    (ix (a54 (cls x.a8 ds)) s68).bind λv72=>
    (ix ((clr x.a8 ds).map wcR) v72).bind λv73=>
    (a6f s69 (⟨2,v72,v73.Call⟩:O5)).bind λv74=>
    some (Sum.inl (u5 (s68+1),v74.1))
   else
   some (.inr s69)) (t0:=tqR x.Q) (cls x.a8 ds).length (λk (q:C4)=>q=tqR ⟨x.Q.L++(clt x.a8 ds).take k,x.Q.Cap⟩) (λq=>q=tqR (clH x ds).Q) (by rw[←a2p];omega) (by simp) ?_ ?_
 ·obtain⟨e,h1,h2⟩:=key;rw[h1,d2I,h2]
 ·rintro k q hk rfl;left;have hw:=c26 (List.getElem_mem hk);have hk2:k<(clt x.a8 ds).length:=by rw[a2p];exact hk
  have ei:ix ((clr x.a8 ds).map wcR) (((cls x.a8 ds)[k]:Nat):Int)=some (wcR (a62 ds x.a8[(cls x.a8 ds)[k]])):=by rw[a0U,b7m hw];rfl
  simp only[a5c,Int.ofNat_lt,hk,decide_true,if_true,b57 hk,d2I,ei];have et:(⟨2,(((cls x.a8 ds)[k]:Nat):Int),(wcR (a62 ds x.a8[(cls x.a8 ds)[k]])).Call⟩:O5)=tkR (clt x.a8 ds)[k]:=by
   rw[c27,a0T hw];show (⟨2,_,(a62 ds x.a8[(cls x.a8 ds)[k]]).Call⟩:O5)=_;rw[(b5C ds _).2.1];rfl
  rw[et,c7W _ (by dsimp only;rw[List.length_append,List.length_take];omega),b4E hc hd hq hcap hk2,d2I,k8 (by rw[←a2p] at hk;omega)];exact⟨_,rfl,rfl⟩
 ·rintro q rfl;refine⟨_,if_neg (by rw[a5c];simp),?_⟩;rw[←a2p,List.take_length];rfl
end
theorem b1z(s:a7)(i:Nat)(c d:b7):E5 (E5 s i c) i d=E5 s i d:=by
 unfold E5;dsimp only;rw[List.set_set]
section
variable{s:a7}(hR:SR s){d:Int}(hd:d∈lv s)
include hR hd
def k1(s:a7)(d:Int):a7:=E5 s (A8 d) ⟨1,(ce s (A8 d)).Gen,ded (ob s d)⟩
def k2(s:a7)(d:Int):a7:=E5 s (A8 d) ⟨2,(ce s (A8 d)).Gen,ded (ob s d)⟩
theorem b5J:OkO s (ded (ob s d)):=by
 have ho:=H2 hR hd;exact⟨ho.s1,ho.s2,Int.le_refl _,ho.wk,ho.p1,ho.p2,Nat.zero_le _⟩
theorem b9n:seO s d (ded (ob s d))=k1 s d:=by
 have q:=w7 hR hd;unfold seO a1F k1 E5;rw[q.2.1]
theorem c7J:At (k1 s d) d (A8 d):=by
 have q:=w7 hR hd;refine⟨by unfold k1;rw[V2];exact q.1,?_,?_⟩;·unfold k1;rw[H9 q.1,if_pos rfl]
 ·unfold k1;rw[H9 q.1,if_pos rfl];exact q.2.2
theorem c7K:SR (k1 s d):=by rw[←b9n hR hd];exact a0F (o:=ded (ob s d)) hR hd rfl (b5J hR hd)
theorem c7N:SR (k2 s d):=by
 have q:=w7 hR hd;have hc:=hR.cell _ q.1;unfold k2;refine hR.E5 q.1 ⟨by simp,by simp,hc.2.2.1,hc.2.2.2⟩ (λq=>absurd (.inr rfl) q) (λ_=>⟨b5J hR hd,.inl q.2.1,?_⟩);show (ob s d).Serial=_;rw[K8 hR q]
theorem c7L:T3 (k2 s d) d (A8 d):=by
 have q:=w7 hR hd;refine⟨by unfold k2;rw[V2];exact q.1,?_,?_⟩;·unfold k2;rw[H9 q.1,if_pos rfl];exact .inr rfl
 ·unfold k2;rw[H9 q.1,if_pos rfl];exact q.2.2
theorem c6l:Q3 (k1 s d).S d=some ((k2 s d).S,0):=by
 have q:=w7 hR hd;have hR1:=c7K hR hd;have q1:=c7J hR hd;have hr:=E0 hR hd;have hlen:=hR1.len;have hH:Hnd d:=((a9k hR1).2 q1.d).2.1;have hsl:(d-1) % 32=(A8 d:Nat):=((a9k hR1).2 q1.d).2.2.1;have hg:(d-1) / 32=(ce s (A8 d)).Gen:=by
  have:=q.2.2;have h24:=hR.len;have:=q.1;omega
 unfold Q3 B7;rw[a5L hR1 q1.d,d2I,if_neg (by simp),b7G q1.1,d2I,q1.2.1,if_neg (by simp),d2I,if_neg (by simp),a3P (by omega),d2I,if_pos hH,hsl,a4R (by omega),d2I,if_pos hH,hg,a5A rfl q1.1 hlen,d2I];have e:(ce (k1 s d) (A8 d)).Val=ded (ob s d):=by unfold k1;rw[H9 q.1,if_pos rfl]
 rw[e];congr 2;show (E5 (k1 s d) (A8 d) _).S=(k2 s d).S;unfold k1 k2;rw[b1z]
theorem c7D(hw:(ob s d).Weak=0):gvA (k2 s d) (A8 d)=gnA s d:=by
 have q:=w7 hR hd;have e:ce (k2 s d) (A8 d)=⟨2,(ce s (A8 d)).Gen,ded (ob s d)⟩:=by unfold k2;rw[H9 q.1,if_pos rfl]
 unfold gvA gnA gnC;rw[e];rw[K8 hR q] at hw;rw[if_pos hw];unfold k2;rw[b1z];rfl
theorem c7M(hw:(ob s d).Weak≠0):k2 s d=gnA s d:=by
 have q:=w7 hR hd;unfold k2 gnA gnC;rw[K8 hR q] at hw ⊢;rw[if_neg hw]
end
theorem c1S{x:Hp}(hR:SR x.S){d:Int}(hd:d∈lv x.S):W0 x d=some (wS x (gnA x.S d)):=by
 unfold W0;rw[b07 hR hd,d2I];have e1:H6 x.S d (⟨(ob x.S d).Serial,0,(ob x.S d).Weak,(ob x.S d).Prog,(ob x.S d).Started,[]⟩:l5)=some (k1 x.S d,0):=by
  rw[←b9n hR hd];exact b0F (o:=ded (ob x.S d)) hR hd rfl (b5J hR hd)
 rw[e1,d2I,c6l hR hd,d2I];by_cases hw:(ob x.S d).Weak=0
 ·rw[if_pos (by simpa using hw),c0v (c7N hR hd) (c7L hR hd),d2I,c7D hR hd hw];rfl
 ·rw[if_neg (by simpa using hw)];show some (wS x (k2 x.S d))=_;rw[c7M hR hd hw]
theorem c9d{s:a7}(hR:SR s){d:Int}(hd:d∈lv s):b3x (sO (k1 s d)) d=some (sO (k2 s d)):=by
 have q:=w7 hR hd;have hR1:=c7K hR hd;have q1:=c7J hR hd;have hlen:=hR1.len;have hr:=E0 hR hd;have hi:=q1.1;have hi2:A8 d<(sO (k1 s d)).a8.length:=by rw[A7];exact hi
 have K2:A8 d<(pl (sO (k1 s d))).a8.length:=by rw[a07];exact hi2
 have hlen2:(sO (k1 s d)).a8.length≤24:=by rw[A7];exact hlen
 unfold b3x b8a b2v;rw[a4y _ (by omega),d2I,b04 (k1 s d) (by omega),a5L hR1 q1.d,d2I,if_neg (by simp),b70 hi2,d2I];have hst:(plc (A8 d) (sO (k1 s d)).a8[A8 d]).State=1:=by
  have:=q1.2.1;rw[C9 hi] at this;simpa[plc,sO,cO] using this
 have hgen:(plc (A8 d) (sO (k1 s d)).a8[A8 d]).Gen=(ce s (A8 d)).Gen:=by
  have:(ce (k1 s d) (A8 d)).Gen=(ce s (A8 d)).Gen:=by unfold k1;rw[H9 q.1,if_pos rfl]
  rw[C9 hi] at this;simpa[plc,sO,cO] using this
 rw[hst,if_neg (by simp),d2I,if_neg (by simp),d2I];dsimp only;rw[b70 hi2,d2I];have w3:∀c:L0,a0N (pl (sO (k1 s d))) ((A8 d:Nat):Int) c=some ⟨(pl (sO (k1 s d))).a8.set (A8 d) c,(pl (sO (k1 s d))).Last⟩:=λc=>by
  unfold a0N;rw[K1 (by omega) (by rw[a07];omega),d2I,n9 K2,d2I,Int.toNat_natCast]
 rw[w3,d2I,d2I,b30 _ _ (by omega) (by simp[a07]),d2I,hgen];unfold k2;rw[←b1z s (A8 d) ⟨1,(ce s (A8 d)).Gen,ded (ob s d)⟩,c1e];show some _=some (⟨(sO (k1 s d)).a8.set (A8 d) _,_,_⟩:o5);congr 1;congr 1;refine List.ext_getElem (by simp) λk h1 h2=>?_;have hk:k<(k1 s d).S.a8.length:=by simpa[A7] using h1
 have hk2:k<(sO (k1 s d)).a8.length:=by rw[A7];exact hk
 have hk3:k<(pl (sO (k1 s d))).a8.length:=by rw[a07];exact hk2
 simp only[List.getElem_map,List.getElem_range,List.getElem_set];rw[a3N K2,a0T hk2,a0T hk3];by_cases e:k=A8 d
 ·subst e;rw[if_pos rfl,if_pos rfl];have e2:(sO (k1 s d)).a8[A8 d].Val=oo (ded (ob s d)):=by
   have:(ce (k1 s d) (A8 d)).Val=ded (ob s d):=by unfold k1;rw[H9 q.1,if_pos rfl]
   rw[←this,C9 hi];simp[sO,cO]
  rw[e2];rfl
 ·rw[if_neg e,if_neg (Ne.symm e)];simp[sO,pl,plc,cO]
theorem c8Y{x:Hp}(hR:SR x.S){d:Int}(hd:d∈lv x.S):a7v (hO x) d=some (hO (wS x (gnA x.S d))):=by
 unfold a7v;rw[show (hO x).S=sO x.S from rfl,a94 hR hd,d2I];have e1:L8 (sO x.S) d (⟨(oo (ob x.S d)).Serial,0,(oo (ob x.S d)).Weak,(oo (ob x.S d)).Prog,(oo (ob x.S d)).Started,[]⟩:L7)=some (sO (k1 x.S d),0):=by
  rw[←b9n hR hd];exact b0G (o:=ded (ob x.S d)) hR hd rfl (b5J hR hd)
 rw[e1,d2I,c9d hR hd,d2I];by_cases hw:(ob x.S d).Weak=0
 ·rw[if_pos (by simpa[oo] using hw),c3A (c7N hR hd) (c7L hR hd),d2I,c7D hR hd hw];rfl
 ·rw[if_neg (by simpa[oo] using hw)];show some (hO (wS x (k2 x.S d)))=_;rw[c7M hR hd hw]
end Go.Sh
namespace Go.Sh
theorem c07:∀(l:List Int) {x:Hp},SR x.S→SR (l.foldl M9 x).S
 | [],x,h=>h
 | v::l,x,h=>c07 l (x:=M9 x v) (b9I h v)
theorem b6E:∀(l:List Int) {x:Hp},SR x.S→SL x→SL (l.foldl M9 x)
 | [],x,_,h=>h
 | v::l,x,hR,h=>b6E l (x:=M9 x v) (b9I hR v) (h.rls hR v)
theorem c14(l:List Int){k:Nat}(hk:k<l.length)(x:Hp):(l.take (k+1)).foldl M9 x=M9 ((l.take k).foldl M9 x) l[k]:=by
 rw[K5 hk,List.foldl_append];rfl
theorem b6B{y:Hp}(hR:SR y.S)(l:List Int)(hl:l.length≤1000000)(hb:∀v∈l,v≤9223372036854775807){K:Hp→Option Hp}:((lp (S:=Int × b6) (E:=b6) (λ((s35,s36):Int × b6)=>
     if (decide (s35<(l.length:Int))) then
      (ix l s35).bind λv39=>
      (B0 s36 v39).bind λv40=>
      some (.inl (u5 (s35+1),v40))
     else
     some (.inr s36)) (0,y)).bind K)=K (l.foldl M9 y):=by
 have key:=D8 l M9 id (λk z=>SR z.S) (b0:=y) (f:=λ((s35,s36):Int × b6)=>
     if (decide (s35<(l.length:Int))) then
      (ix l s35).bind λv39=>
      (B0 s36 v39).bind λv40=>
      some (Sum.inl (u5 (s35+1),v40))
     else
     some (.inr s36)) (by omega) hR (λk hk z hz=>?_) (λz hz=>by simp)
 ·rw[key,d2I];rfl
 ·simp only[Int.ofNat_lt,hk,decide_true,if_true,n9 hk,d2I,a2j hz (hb _ (List.getElem_mem hk))];rw[k8];exact⟨rfl,b9I hz _⟩
theorem b3G{y:Hp}(hR:SR y.S)(l:List Int)(hl:l.length≤1000000)(hb:∀v∈l,v≤9223372036854775807){K:g8→Option g8}:((lp (S:=Int × g8) (E:=g8) (λ((s45,s46):Int × g8)=>
      if (decide (s45<(l.length:Int))) then
       (ix l s45).bind λv49=>
       (D3 s46 v49).bind λv50=>
       some (.inl (u5 (s45+1),v50))
      else
      some (.inr s46)) (0,hO y)).bind K)=K (hO (l.foldl M9 y)):=by
 have key:=a2c (f:=λ((s45,s46):Int × g8)=>
      if (decide (s45<(l.length:Int))) then
       (ix l s45).bind λv49=>
       (D3 s46 v49).bind λv50=>
       some (Sum.inl (u5 (s45+1),v50))
      else
      some (.inr s46)) (t0:=hO y) l.length (λk z=>z=hO ((l.take k).foldl M9 y)) (λz=>z=hO (l.foldl M9 y)) (by omega) rfl ?_ ?_
 ·obtain⟨e,h1,h2⟩:=key;rw[h1,d2I,h2]
 ·rintro k z hk rfl;left;have hz:=c07 (l.take k) hR;simp only[Int.ofNat_lt,hk,decide_true,if_true,n9 hk,d2I,a3D hz (hb _ (List.getElem_mem hk))];rw[k8,←c14 l hk];exact⟨_,rfl,rfl⟩
 ·rintro z rfl;exact⟨_,if_neg (by simp),by rw[List.take_length]⟩
theorem b7A(s:a7)(ds:List Int){k:Nat}(hk:k<ds.length):gnL s (ds.take (k+1))=gnA (gnL s (ds.take k)) ds[k]:=by
 unfold gnL;rw[K5 hk,List.foldl_append];rfl
section
variable{y:Hp}(hR:SR y.S){ds:List Int}(hn:ds.Nodup)(hm:∀d∈ds,d∈lv y.S)
include hR hn hm
theorem b3g{k:Nat}(hk:k<ds.length):SR (gnL y.S (ds.take k))∧ds[k]∈lv (gnL y.S (ds.take k)):=by
 have g:=a1w (ds.take k) hR ((List.take_sublist k ds).nodup hn) λd hd=>hm d (List.mem_of_mem_take hd);refine⟨g.sr,?_⟩;rw[g.lv,List.mem_filter,decide_eq_true_iff];refine⟨hm _ (List.getElem_mem hk),λq=>?_⟩;rw[←List.take_append_drop k ds,List.nodup_append] at hn;exact hn.2.2 _ q ds[k] (by rw[List.drop_eq_getElem_cons hk];exact List.mem_cons_self ..) rfl
theorem c1R(hl:ds.length≤1000){K:Hp→Option Hp}:((lp (S:=Int × b6) (E:=b6) (λ((s42,s43):Int × b6)=>
    if (decide (s42<(ds.length:Int))) then
     (ix ds s42).bind λv46=>
     (W0 s43 v46).bind λv47=>
     some (.inl (u5 (s42+1),v47))
    else
    some (.inr s43)) (0,y)).bind K)=K (wS y (gnL y.S ds)):=by
 have key:=a2c (f:=λ((s42,s43):Int × b6)=>
    if (decide (s42<(ds.length:Int))) then
     (ix ds s42).bind λv46=>
     (W0 s43 v46).bind λv47=>
     some (Sum.inl (u5 (s42+1),v47))
    else
    some (.inr s43)) (t0:=y) ds.length (λk z=>z=wS y (gnL y.S (ds.take k))) (λz=>z=wS y (gnL y.S ds)) (by omega) rfl ?_ ?_
 ·obtain⟨e,h1,h2⟩:=key;rw[h1,d2I,h2]
 ·rintro k z hk rfl;left;obtain⟨h1,h2⟩:=b3g hR hn hm hk;simp only[Int.ofNat_lt,hk,decide_true,if_true,n9 hk,d2I,c1S (x:=wS y (gnL y.S (ds.take k))) h1 h2];rw[k8,b7A _ _ hk];exact⟨_,rfl,rfl⟩
 ·rintro z rfl;exact⟨_,if_neg (by simp),by rw[List.take_length]⟩
theorem b7J(hl:ds.length≤1000){K:g8→Option g8}:((lp (S:=Int × g8) (E:=g8) (λ((s52,s53):Int × g8)=>
     if (decide (s52<(ds.length:Int))) then
      (ix ds s52).bind λv56=>
      (a7v s53 v56).bind λv57=>
      some (.inl (u5 (s52+1),v57))
     else
     some (.inr s53)) (0,hO y)).bind K)=K (hO (wS y (gnL y.S ds))):=by
 have key:=a2c (f:=λ((s52,s53):Int × g8)=>
     if (decide (s52<(ds.length:Int))) then
      (ix ds s52).bind λv56=>
      (a7v s53 v56).bind λv57=>
      some (Sum.inl (u5 (s52+1),v57))
     else
     some (.inr s53)) (t0:=hO y) ds.length (λk z=>z=hO (wS y (gnL y.S (ds.take k)))) (λz=>z=hO (wS y (gnL y.S ds))) (by omega) rfl ?_ ?_
 ·obtain⟨e,h1,h2⟩:=key;rw[h1,d2I,h2]
 ·rintro k z hk rfl;left;obtain⟨h1,h2⟩:=b3g hR hn hm hk;simp only[Int.ofNat_lt,hk,decide_true,if_true,n9 hk,d2I,c8Y (x:=wS y (gnL y.S (ds.take k))) h1 h2];rw[k8,b7A _ _ hk];exact⟨_,rfl,rfl⟩
 ·rintro z rfl;exact⟨_,if_neg (by simp),by rw[List.take_length]⟩
end
section
variable{x:Hp}(hx:I8 x){ds:List Int}(hn:ds.Nodup)(hm:∀d∈ds,d∈lv x.S)
include hx hn hm
theorem b5M:ds.length≤24:=Nat.le_trans (a3V hn hm) (D9 (p9.2 hx.sh.sr))
theorem b5S{d:Int}(hd:d∈lv x.S):(ob x.S d).Fields.length≤4:=(H2 hx.sh.sr hd).fl
theorem b6h{d:Int}(hd:d∈lv x.S):(outs x.S d).length≤4:=Nat.le_trans (c37 _) (b5S hx hn hm hd)
theorem a74:∀(l:List Int),(∀d∈l,d∈lv x.S)→(l.flatMap (outs x.S)).length≤4*l.length
 | [],_=>by simp
 | d::l,h=>by
  rw[List.flatMap_cons,List.length_append,List.length_cons];have:=a74 l λe he=>h e (List.mem_cons_of_mem _ he);have:=b6h hx hn hm (h d (List.mem_cons_self ..));omega
theorem c0Q:∀v∈ds.flatMap (outs x.S)++(wot x.T ds).2,v≤9223372036854775807:=λv hv=>by
 rcases List.mem_append.1 hv with q | q
 ·obtain⟨d,hd,q⟩:=List.mem_flatMap.1 q;obtain⟨q,_⟩:=a59.1 q;rcases hx.sh.fl d (hm d hd) v q with e | e
  ·omega
  ·exact a1C hx.sh.sr e
 ·by_cases h0:v=0
  ·omega
  ·have hl:=b5M hx hn hm;have h3:=(a4c hx.sh.hr ds (by omega)).2.2.2.2.2 v;have h4:=a1Q.2 ⟨h0,q⟩;have h5:0<own x.T v:=by omega
   obtain⟨p,hp,hq⟩:=List.countP_pos_iff.1 h5;have hq:(v != 0&&p.Val==v)=true:=hq;rw[Bool.and_eq_true,beq_iff_eq] at hq;have:=(hx.sh.pr _ _ (a3k.1 hp)).2;rw[hq.2] at this;exact a1C hx.sh.sr this
theorem b7X:(ds.flatMap (outs x.S)++(wot x.T ds).2).length≤200:=by
 have hl:=b5M hx hn hm;have h1:=a74 hx hn hm ds hm;have h2:=(a4c hx.sh.hr ds (by omega)).2.2.1;rw[List.length_append];omega
theorem c0l(hq:(x.Q.L++clt x.a8 ds).length≤30){l:List Int}(h1:S0 x l=some ds):Z3 x l=some (buH x ds):=by
 have hl:=b5M hx hn hm;have hR:=hx.sh.sr;obtain⟨w1,w2,w3,w4,w5,w6⟩:=a4c hx.sh.hr ds (by omega);have ol:=b7X hx hn hm;have fl:=a74 hx hn hm ds hm;unfold Z3;rw[h1,d2I,b8Y (by have:=hx.sh.c6;omega) (by omega) hq hx.sh.cap,d2I];simp only[jn];have key:=D8 ds (λb d=>b++outs x.S d) id (λk b=>b.length≤4*k) (b0:=[]) (f:=λ((s49,s50):Int × (List Int))=>
   if (decide (s49<(ds.length:Int))) then
    (ix ds s49).bind λv53=>
    (r9 (clH x ds).S v53).bind λv54=>
    (a3G v54.1.Fields).bind λv55=>
    (app 8 s50 v55).bind λv56=>
    some (Sum.inl (u5 (s49+1),v56))
   else
   some (.inr s50)) (by omega) (by simp) (λk hk b hb=>?_) (λb hb=>by simp)
 ·rw[key,d2I,a18,List.nil_append];dsimp only[id];rw[show (clH x ds).T=x.T from rfl,w1,d2I];have ol2:=ol;rw[List.length_append] at ol2;rw[u7 (by omega) (by omega),d2I];have k1:=c1R (y:=⟨(clH x ds).S,(clH x ds).Roots,(clH x ds).a8,(wot x.T ds).1,(clH x ds).Q⟩) hR hn hm (by omega) (K:=λe=>(lp (S:=Int × b6) (E:=b6) (λ((s35,s36):Int × b6)=>
     if (decide (s35<((ds.flatMap (outs x.S)++(wot x.T ds).2).length:Int))) then
      (ix (ds.flatMap (outs x.S)++(wot x.T ds).2) s35).bind λv39=>
      (B0 s36 v39).bind λv40=>
      some (.inl (u5 (s35+1),v40))
     else
     some (.inr s36)) (0,e)).bind λe34=>some e34)
  refine Eq.trans k1 ?_;have g:=a1w ds hR hn hm;have k2:=b6B (y:=wS (⟨(clH x ds).S,(clH x ds).Roots,(clH x ds).a8,(wot x.T ds).1,(clH x ds).Q⟩:Hp) (gnL x.S ds)) g.sr _ (by omega) (c0Q hx hn hm) (K:=λe34=>some e34);refine Eq.trans k2 ?_;rfl
 ·have hd:=hm _ (List.getElem_mem hk);have f4:=b5S hx hn hm hd;have o4:=b6h hx hn hm hd;simp only[Int.ofNat_lt,hk,decide_true,if_true,n9 hk,d2I,show (clH x ds).S=x.S from rfl,b07 hR hd,b7R _ (by omega:(ob x.S ds[k]).Fields.length≤1000000)];have e:nz (ob x.S ds[k]).Fields=outs x.S ds[k]:=rfl;rw[e,u7 (by omega) (by omega),d2I,k8];exact⟨rfl,by rw[List.length_append];omega⟩
theorem b4H(hq:(x.Q.L++clt x.a8 ds).length≤30){l:List Int}(h1:b0x (hO x) l=some ds):a7u (hO x) l=some (hO (buH x ds)):=by
 have hl:=b5M hx hn hm;have hR:=hx.sh.sr;obtain⟨w1,w2,w3,w4,w5,w6⟩:=a4c hx.sh.hr ds (by omega);have ol:=b7X hx hn hm;have fl:=a74 hx hn hm ds hm;have c6:=hx.sh.c6;unfold a7u;rw[h1,d2I,show (hO x).a8=x.a8.map wcR from rfl,c5Z _ _ (by omega) (by omega),d2I];simp only[jn];rw[show (hO x).Q=tqR x.Q from rfl,c8v (by omega) (by omega) hq hx.sh.cap];have key:=D8 ds (λb d=>b++outs x.S d) id (λk b=>b.length≤4*k) (b0:=[]) (f:=λ((s59,s60):Int × (List Int))=>
    if (decide (s59<(ds.length:Int))) then
     (ix ds s59).bind λv63=>
     (E4 (hO x).S v63).bind λv64=>
     (a3y v64.1.Fields).bind λv65=>
     (app 8 s60 v65).bind λv66=>
     some (Sum.inl (u5 (s59+1),v66))
    else
    some (.inr s60)) (by omega) (by simp) (λk hk b hb=>?_) (λb hb=>by simp)
 ·rw[key,d2I,a18,List.nil_append];dsimp only[id];rw[show (hO x).T=x.T.map K2 from rfl,w4,d2I];dsimp only;have ol2:=ol;rw[List.length_append] at ol2;rw[u7 (by omega) (by omega),d2I];have k1:=b7J (y:=⟨(clH x ds).S,(clH x ds).Roots,(clH x ds).a8,(wot x.T ds).1,(clH x ds).Q⟩) hR hn hm (by omega) (K:=λe=>(lp (S:=Int × g8) (E:=g8) (λ((s45,s46):Int × g8)=>
      if (decide (s45<((ds.flatMap (outs x.S)++(wot x.T ds).2).length:Int))) then
       (ix (ds.flatMap (outs x.S)++(wot x.T ds).2) s45).bind λv49=>
       (D3 s46 v49).bind λv50=>
       some (.inl (u5 (s45+1),v50))
      else
      some (.inr s46)) (0,e)).bind λe44=>some e44)
  refine Eq.trans k1 ?_;have g:=a1w ds hR hn hm;have k2:=b3G (y:=wS (⟨(clH x ds).S,(clH x ds).Roots,(clH x ds).a8,(wot x.T ds).1,(clH x ds).Q⟩:Hp) (gnL x.S ds)) g.sr _ (by omega) (c0Q hx hn hm) (K:=λe44=>some e44);refine Eq.trans k2 ?_;rfl
 ·have hd:=hm _ (List.getElem_mem hk);have f4:=b5S hx hn hm hd;have o4:=b6h hx hn hm hd;simp only[Int.ofNat_lt,hk,decide_true,if_true,n9 hk,d2I,show (hO x).S=sO x.S from rfl,a94 hR hd];have e:a3y (oo (ob x.S ds[k])).Fields=some (outs x.S ds[k]):=b3m _ (by show (ob x.S ds[k]).Fields.length≤_;omega);rw[e,d2I,u7 (by omega) (by omega),d2I,k8];exact⟨rfl,by rw[List.length_append];omega⟩
end
end Go.Sh
namespace Go.Sh
theorem c5X{x:Hp}(hR:SR x.S)(hS:SL x){ds:List Int}(hn:ds.Nodup)(hm:∀d∈ds,d∈lv x.S)(t:Tb):SL (a4d x ds t):=λk hk=>by
 have g:=a1w ds hR hn hm;have hk:k∈lv (gnL x.S ds):=hk;rw[g.lv,List.mem_filter,decide_eq_true_iff] at hk;have e:ob (a4d x ds t).S k=ob x.S k:=g.ob k hk.1 hk.2;rw[e];exact hS k hk.1
theorem c2Y{x:Hp}(hR:SR x.S)(hS:SL x){ds:List Int}(hn:ds.Nodup)(hm:∀d∈ds,d∈lv x.S):SL (buH x ds):=
 b6E _ (x:=a4d x ds (wot x.T ds).1) (a1w ds hR hn hm).sr (c5X hR hS hn hm _)
theorem c4A{x:Hp}(hR:SR x.S)(hS:SL x){h:Int}(hh:h∈lv x.S):SL (quH x h):=by
 have hok:=b6R hR hh;have r1:=a0F (o:=srt (ob x.S h)) hR hh rfl hok;refine SL.z1 (x:=⟨seO x.S h (srt (ob x.S h)),x.Roots,x.a8,x.T,⟨x.Q.L ++ [qtk x h],x.Q.Cap⟩⟩) (λk hk=>?_) r1 h;dsimp only at hk ⊢;rw[a28 (o:=srt (ob x.S h)) hR hh rfl hok] at hk;rw[a2l (o:=srt (ob x.S h)) hR hh rfl hok (a1C hR hk)];split;·exact hS h hh
 ·exact hS k hk
theorem d0b{x:Hp}(hx:I8 x)(hS:SL x):SL (stp x):=by
 cases h:zr x with
 | nil=>rw[a8v h];exact hS
 | cons z l=>
  have hz:=(X5.1 (show z∈zr x by rw[h];exact List.mem_cons_self ..)).1;rw[a1P h];split;·exact c4A hx.sh.sr hS hz
  ·exact c2Y hx.sh.sr hS (by simp) (by simpa using hz)
theorem b6S{x:Hp}(hx:I8 x)(hS:SL x)(n:Nat):SL (stN n x):=by
 induction n with
 | zero=>exact hS
 | succ n ih=>rw[Z5];exact d0b (a0n hx n) ih
theorem c1i{x:Hp}(hx:I8 x)(hS:SL x):SL (V3 x):=b6S hx hS 100
section
variable{x:Hp}(hx:I8 x)(hS:SL x)
include hx hS
theorem b5o{z:Int}(hz:z∈zr x):(x.Q.L++clt x.a8 [z]).length≤30:=by
 have h1:=(b4a hx hz).sh.q30;have hzl:=(X5.1 hz).1;rw[(a9N hx.sh.sr (ds:=[z]) (by simp) (by simpa using hzl)).2.2.2] at h1;exact h1
theorem c17(h:zr x = []):((a1l x).bind λv4=>
  if ((v4.length:Int)==0) then
   some (Sum.inr x)
  else
  (ix v4 0).bind λv5=>
  (r9 x.S v5).bind λv6=>
  (J4 v6.1).bind λv7=>
  if v7 then
   (P8 x v5).bind λv8=>
   some (.inl v8)
  else
  (cut v4 0 1).bind λv9=>
  (Z3 x v9).bind λv10=>
  some (Sum.inl (α:=Hp) (β:=Hp) v10))=some (.inr x):=by
 rw[zero_eq hx.sh.sr,d2I,h];rfl
theorem d0G(z:Int)(l:List Int):cut (z::l) 0 1=some [z]:=by
 unfold cut;rw[if_pos (by simp;omega)];simp
theorem b9L(h:zr x ≠ []):((a1l x).bind λv4=>
  if ((v4.length:Int)==0) then
   some (Sum.inr x)
  else
  (ix v4 0).bind λv5=>
  (r9 x.S v5).bind λv6=>
  (J4 v6.1).bind λv7=>
  if v7 then
   (P8 x v5).bind λv8=>
   some (.inl v8)
  else
  (cut v4 0 1).bind λv9=>
  (Z3 x v9).bind λv10=>
  some (Sum.inl (α:=Hp) (β:=Hp) v10))=some (.inl (stp x)):=by
 cases hz:zr x with
 | nil=>exact absurd hz h
 | cons z l=>
  have hzm:z∈zr x:=by rw[hz];exact List.mem_cons_self ..
  have hzl:=(X5.1 hzm).1;have hR:=hx.sh.sr;rw[zero_eq hR,d2I,hz,if_neg (by simp;omega),show ix (z::l) 0=some z from rfl,d2I,b07 hR hzl,d2I,c0S,d2I,a1P hz];by_cases hd:due (ob x.S z)=true
  ·rw[if_pos hd,if_pos hd,b5b hx hS (a1C hR hzl),d2I];unfold quD;rw[if_pos ⟨hzl,hd⟩]
  ·rw[if_neg hd,if_neg hd,d0G hx hS,d2I,c0l hx (ds:=[z]) (by simp) (by simpa using hzl) (b5o hx hS hzm) (by rw[b0i hR [z] (by simp) (by simpa using a1C hR hzl),b7N hzl]),d2I]
theorem a3E:L9 x=some (V3 x):=by
 obtain⟨n,hn,h1,h2,h3⟩:=a5r hx;unfold L9;refine a1A (λj=>stN j x) rfl n (λ_=>True) (by omega) trivial (λk hk _=>.inl ⟨?_,trivial⟩) (λ_=>⟨stN n x,?_,by rw[h3]⟩)
 ·have:=b9L (a0n hx k) (b6S hx hS k) (h2 k hk);rw[←Z5] at this;exact this
 ·exact c17 (a0n hx n) (b6S hx hS n) h1
theorem c64{k:Nat}(hk:k<100)(h:zr x ≠ []){E:Type}{e:E}:((b0w (hO x)).bind λv35=>
     if ((v35.length:Int)==0) then
      some (Sum.inr e)
     else
     (ix v35 0).bind λv36=>
     (a8k (hO x) v36).bind λv37=>
     if v37 then
      (a30 (hO x) v36).bind λv38=>
      some (.inl (u5 ((k:Int)+1),v38))
     else
     (cut v35 0 1).bind λv39=>
     (a7u (hO x) v39).bind λv40=>
     some (Sum.inl (u5 ((k:Int)+1),v40)))=some (.inl (((k+1:Nat):Int),hO (stp x))):=by
 cases hz:zr x with
 | nil=>exact absurd hz h
 | cons z l=>
  have hzm:z∈zr x:=by rw[hz];exact List.mem_cons_self ..
  have hzl:=(X5.1 hzm).1;have hR:=hx.sh.sr;rw[c5i hR,d2I,hz,if_neg (by simp;omega),show ix (z::l) 0=some z from rfl,d2I,c3g hx hS (a1C hR hzl),d2I,decide_eq_true hzl,Bool.true_and,a1P hz,k8];by_cases hd:due (ob x.S z)=true
  ·rw[if_pos hd,if_pos hd,b77 hx hS (a1C hR hzl),d2I];unfold quD;rw[if_pos ⟨hzl,hd⟩]
  ·rw[if_neg hd,if_neg hd,d0G hx hS,d2I,b4H hx (ds:=[z]) (by simp) (by simpa using hzl) (b5o hx hS hzm) (by rw[c3h hR [z] (by simp) (by simpa using a1C hR hzl),b7N hzl]),d2I]
theorem a5s:M8 (hO x)=some (hO (V3 x)):=by
 obtain⟨n,hn,h1,h2,h3⟩:=a5r hx;unfold M8;simp only[jn];refine a1A (λj=>((j:Int),hO (stN j x))) (by rfl) n (λ_=>True) (by omega) trivial (λk hk _=>.inl ⟨?_,trivial⟩) (λ_=>⟨.inl (hO (stN n x)),?_,by rw[h3]⟩)
 ·dsimp only;rw[if_pos (by simp;omega)];have:=c64 (a0n hx k) (b6S hx hS k) (k:=k) (by omega) (h2 k hk) (e:=(Sum.inl (hO (stN k x)):g8 ⊕ g8));rw[←Z5] at this;exact this
 ·dsimp only;rw[if_pos (by simp;omega),c5i (a0n hx n).sh.sr,d2I,h1];rfl
end
end Go.Sh
namespace Go.Sh
def J9(n l m e:Int):Int:=if n<l∨n > m then e else 0
def a0r(a b c:Int):Int:=if a≠0 then a else if b≠0 then b else c
def w9(k a b c:Int):Int:=
 if k=1 then a0r (J9 a 0 5 6) (J9 b 0 4 1) (J9 c (-1) 5 13)
 else if k=2∨k=9∨k=10 then a0r (J9 a 0 5 6) (J9 b 0 5 6) 0
 else if k=3 then J9 a 0 5 6
 else if k=4 then a0r (J9 a 0 5 6) (J9 b 0 5 6) (J9 c 0 3 5)
 else if k=5 then a0r (J9 a 0 5 6) (J9 b 0 3 5) (J9 c (-1) 5 6)
 else if k=6 then a0r (J9 a 0 5 7) (J9 b (-1) 5 6) (J9 c (-1) 5 13)
 else if k=7 then a0r (J9 a 0 5 6) (J9 b 0 5 7) 0
 else if k=8 then a0r (J9 a 0 5 6) (J9 b (-1) 5 6) 0
 else if k=11 then 0
 else if k=12 then J9 a 0 200 12
 else 14
def b6A:g5:=⟨some 114,0,5,6⟩
def c6Z:g5:=⟨some 115,0,5,6⟩
def d00:g5:=⟨some 115,-1,5,6⟩
def d07:g5:=⟨some 117,-1,5,13⟩
def b1K:List (Int × List g5):=[(1,[b6A,⟨some 115,0,4,1⟩,d07]),(2,[b6A,c6Z]),(3,[b6A]),(4,[b6A,c6Z,⟨some 117,0,3,5⟩]),
 (5,[b6A,⟨some 115,0,3,5⟩,⟨some 117,-1,5,6⟩]),(6,[⟨some 114,0,5,7⟩,d00,d07]),(7,[b6A,⟨some 115,0,5,7⟩]),(8,[b6A,d00]),(9,[b6A,c6Z]),(10,[b6A,c6Z]),(11,[]),(12,[⟨some 114,0,200,12⟩])]
theorem b8Z:a5P=some b1K:=by kernel_rfl
def a2K(o:c5)(d:g5):Int:=if d.part=some 114 then o.A else if d.part=some 115 then o.B else o.C
def a8M(o:c5)(d:g5):Bool:=decide (a2K o d<d.least)||decide (a2K o d > d.most)
def a90(o:c5):List g5→Int ⊕ Unit
 | []=>.inr ()
 | d::ds=>if a8M o d then .inl d.e else a90 o ds
theorem b7x(o:c5)(d:g5)(ds:List g5):a90 o (d::ds)=if a8M o d then .inl d.e else a90 o ds:=rfl
def b95(d:g5):Prop:=d.part=some 114∨d.part=some 115∨d.part=some 117
theorem c9K(o:c5){d:g5}(h:b95 d):a92 d.part o=some (a2K o d):=by
 unfold a2K;rcases h with h | h | h
 ·rw[h];rfl
 ·rw[h];rfl
 ·rw[h];rfl
theorem c9g(o:c5)(ds:List g5)(hl:ds.length≤10)(hp:∀d∈ds,b95 d):lp (S:=Int) (E:=Int ⊕ Unit) (λ(s11:Int)=>
   if (decide (s11<(ds.length:Int))) then
    (ix ds s11).bind λv13=>
    (a92 v13.part o).bind λv14=>
    if ((decide (v14<v13.least))||(decide (v14 > v13.most))) then
     some (.inr (.inl v13.e))
    else
    some (.inl (u5 (s11+1)))
   else
   some (.inr (.inr ()))) 0=some (a90 o ds):=by
 refine a3p (b7M ds.length (λk=>a90 o ds=a90 o (ds.drop k)) (λe=>e=a90 o ds) (by omega) rfl (λk hk hP=>?_) (λhP=>?_))
 ·rw[if_pos (by simpa using hk),n9 hk,d2I,c9K o (hp _ (List.getElem_mem hk)),d2I];rw[List.drop_eq_getElem_cons hk,b7x] at hP;by_cases c:a8M o ds[k]=true
  ·rw[if_pos (show ((decide (a2K o ds[k]<ds[k].least))||(decide (a2K o ds[k] > ds[k].most)))=true from c)];rw[if_pos c] at hP;exact .inr ⟨_,rfl,hP.symm⟩
  ·rw[if_neg (show ¬((decide (a2K o ds[k]<ds[k].least))||(decide (a2K o ds[k] > ds[k].most)))=true from c),k8];rw[if_neg c] at hP;exact .inl ⟨rfl,hP⟩
 ·rw[List.drop_length] at hP;exact⟨_,if_neg (by simp),hP.symm⟩
theorem c54:∀p∈b1K,p.2.length≤10∧∀d∈p.2,b95 d:=by
 have:b1K.all (λp=>decide (p.2.length≤10)&&p.2.all λd=>(d.part==some 114)||(d.part==some 115)||(d.part==some 117))=true:=by kernel_rfl
 intro p hp;have:=List.all_eq_true.1 this p hp;rw[Bool.and_eq_true,decide_eq_true_iff,List.all_eq_true] at this;refine⟨this.1,λd hd=>?_⟩;have:=this.2 d hd;simp only[Bool.or_eq_true,beq_iff_eq] at this;unfold b95;rcases this with (h | h) | h
 ·exact .inl h
 ·exact .inr (.inl h)
 ·exact .inr (.inr h)
theorem c0I{m:List (Int × List g5)}{k:Int}{v:List g5}(h:A0 m k=some v):(k,v)∈m:=by
 induction m with
 | nil=>cases h
 | cons p m ih=>
  unfold A0 at h;split at h
  ·rename_i c;have:k=p.1:=by simpa using c
   cases h;subst this;exact List.mem_cons_self ..
  ·exact List.mem_cons_of_mem _ (ih h)
def b0L(o:c5)(ds:List g5):Int:=match a90 o ds with
 | .inl e=>e
 | .inr _=>0
theorem c7n(o:c5):b0L o []=0:=rfl
theorem b0M(o:c5)(d:g5)(ds:List g5):b0L o (d::ds)=if a8M o d then d.e else b0L o ds:=by
 unfold b0L;rw[b7x];cases a8M o d <;> rfl
theorem b55(o:c5)(d:g5):J9 (a2K o d) d.least d.most d.e=if a8M o d then d.e else 0:=by
 unfold J9 a8M;by_cases h:a2K o d<d.least∨a2K o d > d.most
 ·rw[if_pos h,if_pos (by simpa using h)]
 ·rw[if_neg h,if_neg (by simpa using h)]
theorem c7l(o:c5)(d:g5):b0L o [d]=J9 (a2K o d) d.least d.most d.e:=by rw[b0M,c7n,b55]
theorem c46(o:c5)(d e:g5)(h1:d.e≠0):b0L o [d,e]=a0r (J9 (a2K o d) d.least d.most d.e) (J9 (a2K o e) e.least e.most e.e) 0:=by
 rw[b0M,c7l,b55 o d];unfold a0r;cases a8M o d
 ·simp only[Bool.false_eq_true,if_false,ne_eq,not_true_eq_false];split;·rfl
  ·rename_i h;simpa using h
 ·simp[h1]
theorem c7m(o:c5)(d e f:g5)(h1:d.e≠0)(h2:e.e≠0):b0L o [d,e,f]=a0r (J9 (a2K o d) d.least d.most d.e) (J9 (a2K o e) e.least e.most e.e) (J9 (a2K o f) f.least f.most f.e):=by
 rw[b0M,b0M,c7l,b55 o d,b55 o e];unfold a0r;cases a8M o d <;> cases a8M o e <;> simp[h1,h2]
theorem c3N(o:c5):(match A0 b1K o.Kind with
  | none=>14
  | some ds=>b0L o ds)=w9 o.Kind o.A o.B o.C:=by
 obtain⟨k,a,b,c⟩:=o;dsimp only;by_cases h:1≤k∧k≤12
 ·have:k=1∨k=2∨k=3∨k=4∨k=5∨k=6∨k=7∨k=8∨k=9∨k=10∨k=11∨k=12:=by omega
  rcases this with rfl | rfl | rfl | rfl | rfl | rfl | rfl | rfl | rfl | rfl | rfl | rfl
  ·exact c7m _ _ _ _ (by decide) (by decide)
  ·exact c46 _ _ _ (by decide)
  ·exact c7l _ _
  ·exact c7m _ _ _ _ (by decide) (by decide)
  ·exact c7m _ _ _ _ (by decide) (by decide)
  ·exact c7m _ _ _ _ (by decide) (by decide)
  ·exact c46 _ _ _ (by decide)
  ·exact c46 _ _ _ (by decide)
  ·exact c46 _ _ _ (by decide)
  ·exact c46 _ _ _ (by decide)
  ·rfl
  ·exact c7l _ _
 ·have e:A0 b1K k=none:=by
   cases hm:A0 b1K k with
   | none=>rfl
   | some v=>
    have:=c0I hm;simp only[b1K,List.mem_cons,Prod.mk.injEq,List.not_mem_nil,or_false] at this;omega
  rw[e];unfold w9;repeat rw[if_neg (by omega)]
theorem a61(o:c5):P3 o=some (w9 o.Kind o.A o.B o.C):=by
 rw[←c3N];unfold P3;rw[b8Z,d2I];cases h:A0 b1K o.Kind with
 | none=>rfl
 | some ds=>
  obtain⟨h1,h2⟩:=c54 _ (c0I h);rw[if_neg (by simp)];simp only[jn,Option.getD_some];rw[c9g o ds h1 h2,d2I];unfold b0L;cases a90 o ds <;> rfl
theorem c6h(n l m e:Int):a0E n l m e=some (J9 n l m e):=by
 unfold a0E J9;by_cases h:n<l∨n > m
 ·rw[if_pos h,if_pos (by simpa using h)]
 ·rw[if_neg h,if_neg (by simpa using h)]
theorem c3x(a b c:Int):V8 a b c=some (a0r a b c):=by
 unfold V8 a0r;by_cases h:a=0
 ·by_cases g:b=0
  ·rw[if_neg (by simpa using h),if_neg (by simpa using g),if_neg (by simpa using h),if_neg (by simpa using g)]
  ·rw[if_neg (by simpa using h),if_pos (by simpa using g),if_neg (by simpa using h),if_pos (by simpa using g)]
 ·rw[if_pos (by simpa using h),if_pos (by simpa using h)]
theorem a4k(o:o8):a0k o=some (w9 o.Kind o.A o.B o.C):=by
 unfold a0k w9;simp only[c6h,c3x,d2I,jn];by_cases h:1≤o.Kind∧o.Kind≤12
 ·have:o.Kind=1∨o.Kind=2∨o.Kind=3∨o.Kind=4∨o.Kind=5∨o.Kind=6∨o.Kind=7∨o.Kind=8∨o.Kind=9∨o.Kind=10∨o.Kind=11∨o.Kind=12:=by omega
  rcases this with h | h | h | h | h | h | h | h | h | h | h | h <;> rw[h] <;> rfl
 ·have n:∀j:Int,1≤j→j≤12→(o.Kind==j)=false:=λj h1 h2=>by
   rw[beq_eq_false_iff_ne];omega
  simp only[n 1 (by omega) (by omega),n 2 (by omega) (by omega),n 3 (by omega) (by omega),n 4 (by omega) (by omega),n 5 (by omega) (by omega),n 6 (by omega) (by omega),n 7 (by omega) (by omega),n 8 (by omega) (by omega),n 9 (by omega) (by omega),n 10 (by omega) (by omega),n 11 (by omega) (by omega),n 12 (by omega) (by omega),Bool.false_eq_true,if_false];repeat rw[if_neg (by omega)]
end Go.Sh
namespace Go.Sh
end Go.Sh
namespace Go.Sh
end Go.Sh
namespace Go.Sh
end Go.Sh
namespace Go.Sh
def ooI(o:L7):l5:=⟨o.Serial,o.Strong,o.Weak,o.Prog,o.Started,o.Fields⟩
def sOI(s:o5):a7:=⟨⟨s.a8.map λc=>⟨c.State,c.Gen,ooI c.Val⟩,s.Last⟩,s.Serial⟩
def hOI(x:g8):Hp:=⟨sOI x.S,x.Roots,x.a8.map λc=>⟨c.Target,c.Intact,c.Call⟩,x.T.map λp=>⟨p.State,p.Key,p.Val⟩,⟨x.Q.L.map λt=>⟨t.Kind,t.At,t.Prog⟩,x.Q.Cap⟩⟩
theorem c82(x:Hp):hOI (hO x)=x:=by
 obtain⟨⟨⟨cs,l⟩,n⟩,r,w,t,⟨q,c⟩⟩:=x;unfold hOI hO sOI sO tqR;dsimp only;have a1:(cs.map cO).map (λc=>(⟨c.State,c.Gen,ooI c.Val⟩:b7))=cs:=by
  rw[List.map_map];refine Eq.trans (List.map_congr_left λa _=>?_) (List.map_id cs);rfl
 have a2:(w.map wcR).map (λc=>(⟨c.Target,c.Intact,c.Call⟩:e6))=w:=by
  rw[List.map_map];refine Eq.trans (List.map_congr_left λa _=>?_) (List.map_id w);rfl
 have a3:(t.map K2).map (λp=>(⟨p.State,p.Key,p.Val⟩:b8))=t:=by
  rw[List.map_map];refine Eq.trans (List.map_congr_left λa _=>?_) (List.map_id t);rfl
 have a4:(q.map tkR).map (λt=>(⟨t.Kind,t.At,t.Prog⟩:g7))=q:=by
  rw[List.map_map];refine Eq.trans (List.map_congr_left λa _=>?_) (List.map_id q);rfl
 rw[a1,a2,a3,a4]
theorem c09{x:Hp}(hx:I8 x){ds:List Int}:(x.Q.L++clt x.a8 ds).length≤30:=by
 have hS:=hx.sh;have c6:=hS.c6;have h24:(lv x.S).length≤24:=D9 (p9.2 hS.sr);have htd:(x.Q.L++clt x.a8 ds).Pairwise λa b=>¬(a.Kind=b.Kind∧a.At=b.At):=by
  rw[List.pairwise_append];refine⟨hS.td,b4J ..,λa ha b hb q=>?_⟩;obtain⟨w,hw,rfl,hh,_⟩:=a3j.1 hb;have hi:x.a8[w].Intact=true:=by
   unfold a3h at hh;rw[Bool.and_eq_true,Bool.and_eq_true] at hh;exact hh.1.1
  have:=((hS.cl w hw).2.2.2.2 hi).2;rw[Bool.eq_false_iff] at this;exact this (a4H.2 ⟨a,ha,q.1,q.2⟩)
 have:=b3W (m:=lv x.S) htd λt ht=>by
  rcases List.mem_append.1 ht with q | q
  ·rcases (hS.tk t q).2.2 with c | c
   ·exact .inl ⟨c.1,c.2.1⟩
   ·exact .inr c
  ·obtain⟨w,hw,rfl,_,_⟩:=a3j.1 q;exact .inr ⟨rfl,by dsimp only;omega,by dsimp only;omega⟩
 omega
section
variable{x:Hp}(hB:HB x)
include hB
end
end Go.Sh
namespace Go.Sh
structure Stl (x y:Hp):Prop where
 lv:∀h∈lv y.S,h∈lv x.S
 U5:y.S.Serial=x.S.Serial
 len:y.S.S.a8.length=x.S.S.a8.length
 ob:∀h∈Sh.lv y.S,(ob y.S h).Serial=(ob x.S h).Serial∧(Sh.ob y.S h).Prog=(Sh.ob x.S h).Prog∧(Sh.ob y.S h).Fields=(Sh.ob x.S h).Fields∧((Sh.ob x.S h).Started=true→(Sh.ob y.S h).Started=true)
 rt:y.Roots=x.Roots
 cn:y.a8.length=x.a8.length
 cl:∀i (h:i<y.a8.length) (h':i<x.a8.length),y.a8[i]=⟨x.a8[i].Target,x.a8[i].Intact&&decide (x.a8[i].Target∈Sh.lv y.S),x.a8[i].Call⟩
 q:∃l,y.Q=⟨x.Q.L++l,x.Q.Cap⟩∧(∀t∈l,t.Kind=1→t.At∈Sh.lv x.S∧(Sh.ob x.S t.At).Started=false)∧∀h∈Sh.lv y.S,(Sh.ob y.S h).Started=true→(Sh.ob x.S h).Started=false→∃t∈l,t.Kind=1∧t.At=h
 rc:∀h,a0v x.S x.T (otr x) h→a0v y.S y.T (otr y) h
 has:∀k v,Has y.T k v→Has x.T k v
theorem Stl.refl{x:Hp}(hx:HpS x):Stl x x:=by
 refine⟨λ_ h=>h,rfl,rfl,λh _=>⟨rfl,rfl,rfl,id⟩,rfl,rfl,λi h h'=>?_,⟨[],by simp,by simp,λh _ a b=>?_⟩,λ_ h=>h,λ_ _ h=>h⟩
 ·have:=(hx.cl i h).2.2.2.2;cases hI:x.a8[i].Intact;·rw[Bool.false_and,←hI]
  ·rw[decide_eq_true (this hI).1,Bool.and_self,←hI]
 ·rw[a] at b;cases b
theorem Stl.trans{x y z:Hp}(a:Stl x y)(b:Stl y z):Stl x z:=by
 obtain⟨l1,q1,q2,q3⟩:=a.q;obtain⟨l2,r1,r2,r3⟩:=b.q;refine⟨λh hh=>a.lv h (b.lv h hh),b.U5.trans a.U5,b.len.trans a.len,λh hh=>?_,b.rt.trans a.rt,b.cn.trans a.cn,λi h h'=>?_,⟨l1++l2,?_,λt ht hk=>?_,λh hh s1 s2=>?_⟩,λh hh=>b.rc h (a.rc h hh),λk v hh=>a.has k v (b.has k v hh)⟩
 ·obtain⟨b1,b2,b3,b4⟩:=b.ob h hh;obtain⟨a1,a2,a3,a4⟩:=a.ob h (b.lv h hh);exact⟨b1.trans a1,b2.trans a2,b3.trans a3,λq=>b4 (a4 q)⟩
 ·have hy:i<y.a8.length:=by rw[a.cn];exact h'
  rw[b.cl i h hy,a.cl i hy h'];dsimp only;congr 1;rw[Bool.and_assoc];congr 1;by_cases q:x.a8[i].Target∈Sh.lv z.S
  ·rw[decide_eq_true q,decide_eq_true (b.lv _ q)];rfl
  ·rw[decide_eq_false q,Bool.and_false]
 ·rw[r1,q1,List.append_assoc]
 ·rcases List.mem_append.1 ht with q | q
  ·exact q2 t q hk
  ·obtain⟨e1,e2⟩:=r2 t q hk;refine⟨a.lv _ e1,?_⟩;cases hs:(Sh.ob x.S t.At).Started;·rfl
   ·rw[(a.ob _ e1).2.2.2 hs] at e2;cases e2
 ·cases hs:(Sh.ob y.S h).Started
  ·obtain⟨t,ht,e⟩:=r3 h hh s1 hs;exact⟨t,List.mem_append_right _ ht,e⟩
  ·obtain⟨t,ht,e⟩:=q3 h (b.lv h hh) hs s2;exact⟨t,List.mem_append_left _ ht,e⟩
theorem c1f(s:a7)(h:Int)(o:l5):(seO s h o).S.a8.length=s.S.a8.length:=K4 ..
theorem c6V{x:Hp}(hx:I8 x){z:Int}(hz:z∈lv x.S)(hs:(ob x.S z).Started=false):Stl x (quH x z):=by
 have hR:=hx.sh.sr;obtain⟨k,e1,e2,e3,e4⟩:=a4z hR hz;have l1:=b3t hR hz;have hob:∀h∈lv x.S,(ob (quH x z).S h).Serial=(ob x.S h).Serial∧(ob (quH x z).S h).Prog=(ob x.S h).Prog∧(ob (quH x z).S h).Fields=(ob x.S h).Fields∧((ob (quH x z).S h).Started=true↔(ob x.S h).Started=true∨h=z):=λh hh=>by
  obtain⟨n,e⟩:=b1j hR hz hh;rw[e];by_cases q:h=z
  ·subst q;rw[if_pos rfl];exact⟨rfl,rfl,rfl,by simp⟩
  ·rw[if_neg q];exact⟨rfl,rfl,rfl,by simp[q]⟩
 have hot:∀h∈otr x,h∈otr (quH x z):=λh hh=>by
  unfold otr at hh ⊢;rw[e1,e4];rcases List.mem_append.1 hh with q | q
  ·exact List.mem_append_left _ q
  ·refine List.mem_append_right _ ?_;obtain⟨t,ht,a,b⟩:=b0n.1 q;exact b0n.2 ⟨t,List.mem_append_left _ ht,a,b⟩
 have rf:=Stl.refl hx.sh;refine⟨λh hh=>by rw[l1] at hh;exact hh,k.U5,k.len.trans (c1f ..),λh hh=>?_,e1,by rw[e2],λi h h'=>?_,⟨[qtk x z],by rw[e4],λt ht hk=>?_,λh hh s1 s2=>?_⟩,λh hh=>?_,λk v hh=>by rw[e3] at hh;exact hh⟩
 ·rw[l1] at hh;obtain⟨a,b,c,d⟩:=hob h hh;exact⟨a,b,c,λq=>d.2 (.inl q)⟩
 ·have e5:(quH x z).a8[i]=x.a8[i]:=by simp only[e2]
  rw[e5,l1];exact rf.cl i h' h'
 ·rw[List.mem_singleton] at ht;subst ht;exact⟨hz,hs⟩
 ·rw[l1] at hh;rcases (hob h hh).2.2.2.1 s1 with q | q
  ·rw[q] at s2;cases s2
  ·exact⟨qtk x z,List.mem_singleton_self _,rfl,q.symm⟩
 ·induction hh with
  | base h1 h2=>exact .base (hot _ h1) (by rw[l1];exact h2)
  | step h0 h1 h2 ih=>
   refine .step ih ?_ (by rw[l1];exact h2);unfold outs at h1 ⊢;rw[(hob _ h0.live).2.2.1];exact h1
  | pair h1 h0 h2 ih=>exact .pair (by rw[e3];exact h1) ih (by rw[l1];exact h2)
theorem c5Y{x:Hp}(hx:I8 x){z:Int}(hz:z∈zr x):Stl x (buH x [z]):=by
 have hR:=hx.sh.sr;have hzl:=(X5.1 hz).1;have h0:z≠0:=λe=>a3S hR (e▸hzl);have hfree:=b66 hx hz;have hn:([z]:List Int).Nodup:=by simp
 have hm:∀d ∈ [z],d∈lv x.S:=by simpa using hzl
 have g:=a1w [z] hR hn hm;have k:=(a34 ([z].flatMap (outs x.S)++(wot x.T [z]).2) (x:=a4d x [z] (wot x.T [z]).1) g.sr).1;obtain⟨e1,e2,e3,e4⟩:=a9N hR hn hm;obtain⟨_,w2,_,_,w5,w6⟩:=a4c hx.sh.hr [z] (by simp);have l1:∀h,h∈lv (buH x [z]).S↔h∈lv x.S∧h≠z:=λh=>by
  rw[b5z hR hn hm,List.mem_filter,decide_eq_true_iff,List.mem_singleton]
 have hob:∀h∈lv (buH x [z]).S,(ob (buH x [z]).S h).Serial=(ob x.S h).Serial∧(ob (buH x [z]).S h).Prog=(ob x.S h).Prog∧(ob (buH x [z]).S h).Fields=(ob x.S h).Fields∧(ob (buH x [z]).S h).Started=(ob x.S h).Started:=λh hh=>by
  obtain⟨a,b⟩:=(l1 h).1 hh;obtain⟨n,e⟩:=b8W hR hn hm a (by simpa using b);rw[e];exact⟨rfl,rfl,rfl,rfl⟩
 refine⟨λh hh=>((l1 h).1 hh).1,k.U5.trans g.U5,k.len.trans g.len,λh hh=>?_,e1,by rw[e2];simp[clr],λi h h'=>?_,⟨clt x.a8 [z],by rw[e4],λt ht hk=>?_,λh hh s1 s2=>?_⟩,λh hh=>?_,λk v hh=>?_⟩
 ·obtain⟨a,b,c,d⟩:=hob h hh;exact⟨a,b,c,λq=>d.trans q⟩
 ·have e5:(buH x [z]).a8[i]=a62 [z] x.a8[i]:=by
   simp only[e2];exact List.getElem_map _
  rw[e5];have hc:=(hx.sh.cl i h').2.2.2.2;unfold a62 a3h;cases hI:x.a8[i].Intact;·rw[if_neg (by simp),Bool.false_and,←hI]
  ·have ht:=(hc hI).1;have ht0:x.a8[i].Target≠0:=λe=>a3S hR (e▸ht);by_cases q:x.a8[i].Target=z
   ·rw[if_pos (by simp[q,h0]),decide_eq_false (λr=>((l1 _).1 r).2 q)];rfl
   ·rw[if_neg (by simp[q]),decide_eq_true ((l1 _).2 ⟨ht,q⟩),Bool.and_self,←hI]
 ·obtain⟨w,hw,rfl,_,_⟩:=a3j.1 ht;simp at hk
 ·rw[(hob h hh).2.2.2,s2] at s1;cases s1
 ·unfold nms at hfree;have key:a0v (buH x [z]).S (buH x [z]).T (otr (buH x [z])) h∧h≠z:=by
   induction hh with
   | base h1 h2=>
    rename_i a;have hne:a≠z:=λe=>by
     subst e;exact b8x h0 (by omega:X4 (otr x) a=0) h1
    refine⟨.base ?_ ((l1 _).2 ⟨h2,hne⟩),hne⟩;unfold otr at h1 ⊢;rw[e1,e4,b3b _ _ _ λt ht=>by
     obtain⟨w,_,rfl,_⟩:=a3j.1 ht;simp]
    exact h1
   | step q0 q1 q2 ih=>
    rename_i a b;have hne:b≠z:=λe=>by
     subst e;have:=b56 (y:=b) q0.live;have h1:=a1Q.2 ⟨h0,q1⟩;omega
    refine⟨.step ih.1 ?_ ((l1 _).2 ⟨q2,hne⟩),hne⟩;unfold outs at q1 ⊢;rw[(hob _ ((l1 _).2 ⟨q0.live,ih.2⟩)).2.2.1];exact q1
   | pair q1 q0 q2 ih=>
    rename_i a b;have hne:b≠z:=λe=>by
     subst e;have:=b6k q1 h0;omega
    exact⟨.pair (by rw[e3];exact (w5 _ _).2 ⟨by simpa using ih.2,q1⟩) ih.1 ((l1 _).2 ⟨q2,hne⟩),hne⟩
  exact key.1
 ·rw[e3] at hh;exact ((w5 _ _).1 hh).2
theorem c7d{x:Hp}(hx:I8 x):Stl x (stp x):=by
 cases h:zr x with
 | nil=>rw[a8v h];exact Stl.refl hx.sh
 | cons z l=>
  have hz:z∈zr x:=by rw[h];exact List.mem_cons_self ..
  rw[a1P h];split
  ·rename_i q;unfold due at q;rw[Bool.and_eq_true,decide_eq_true_iff,Bool.not_eq_true'] at q;exact c6V hx (X5.1 hz).1 q.2
  ·exact c5Y hx hz
theorem c7c{x:Hp}(hx:I8 x)(n:Nat):Stl x (stN n x):=by
 induction n with
 | zero=>exact Stl.refl hx.sh
 | succ n ih=>rw[Z5];exact ih.trans (c7d (a0n hx n))
theorem a2T{x:Hp}(hx:I8 x):Stl x (V3 x):=c7c hx 100
theorem Rch.fr{s:a7}{t:Tb}{l:List Int}{h:Int}(q:Rch s l h):a0v s t l h:=by
 induction q with
 | base a b=>exact .base a b
 | step _ b c ih=>exact .step ih b c
end Go.Sh
namespace Go.Sh
section
variable{x:Hp}(hB:HB x)
include hB
end
end Go.Sh
namespace Go.Sh
end Go.Sh
namespace Go.Sh
end Go.Sh
namespace Go.Sh
end Go.Sh
namespace Go.Sh
structure Ks (s s':a7):Prop where
 sr:SR s'
 U5:s'.Serial=s.Serial
 lv:lv s'=lv s
 ob:∀h∈Sh.lv s,(ob s' h).Serial=(ob s h).Serial
theorem Ks.refl{s:a7}(hR:SR s):Ks s s:=⟨hR,rfl,rfl,λ_ _=>rfl⟩
theorem Ks.trans{a b c:a7}(h:Ks a b)(q:Ks b c):Ks a c:=⟨q.sr,q.U5.trans h.U5,q.lv.trans h.lv,λk hk=>(q.ob k (by rw[h.lv];exact hk)).trans (h.ob k hk)⟩
theorem Kin.ks{s s':a7}(hR:SR s)(k:Kin s s'):Ks s s':=⟨k.sr,k.U5,k.lv,λh hh=>by
 obtain⟨n,e⟩:=k.ob h (by have:=E0 hR hh;omega);rw[e]⟩
theorem Kn.ks{s s':a7}(k:Kn s s')(e:s'.Serial=s.Serial):Ks s s':=⟨k.sr,e,k.lv,λh hh=>by
 obtain⟨n,m,e⟩:=k.ob h hh;rw[e]⟩
theorem c92{s:a7}(hR:SR s){h:Int}(hh:h∈lv s){o:l5}(hs:o.Serial=(ob s h).Serial)(ho:OkO s o):Ks s (seO s h o):=⟨a0F hR hh hs ho,rfl,a28 hR hh hs ho,λk hk=>by
 rw[a2l hR hh hs ho (by have:=E0 hR hk;omega)];split;·rename_i e;subst e;exact hs
 ·rfl⟩
theorem b6J{x:Hp}(hR:SR x.S)(h:Int):Ks x.S (z1 x h).S:=(B5 hR h λc=>A5).ks hR
theorem b6F{x:Hp}(hR:SR x.S)(h:Int):Ks x.S (M9 x h).S:=(B5 hR h λc=>E2).ks hR
theorem b3K(x:Hp)(h:Int):(M9 x h).Roots=x.Roots∧(M9 x h).a8=x.a8∧(M9 x h).T=x.T∧(M9 x h).Q=x.Q:=b3U x h a1T
theorem V1{x:Hp}(hR:SR x.S)(r:Nat)(h:Int):Ks x.S (u6 x r h).S:=
 (b6J hR h).trans (b6F (x:=wR (z1 x h) (x.Roots.set r h)) (a27 hR h) _)
theorem b4L{x:Hp}(hR:SR x.S){h:Int}(hh:h∈lv x.S){n:Nat}(hn:n<(ob x.S h).Fields.length)(v:Int):Ks x.S (a01 x h n v).S:=by
 have k1:=b6J hR v;have hh1:h∈lv (z1 x v).S:=by rw[k1.lv];exact hh
 have hof:(ob (z1 x v).S h).Fields=(ob x.S h).Fields:=by
  obtain⟨n,e⟩:=(B5 hR v (f:=M0) λc=>A5).ob h (by have:=E0 hR hh;omega);show (ob (stO x v M0).S h).Fields=_;rw[e]
 have ho:OkO (z1 x v).S (flg (ob (z1 x v).S h) ((ob x.S h).Fields.set n v)):=by
  have:=H2 k1.sr hh1;refine⟨this.s1,this.s2,this.st,this.wk,this.p1,this.p2,?_⟩;have h4:=this.fl;rw[hof] at h4;simpa using h4
 have k2:=c92 (o:=flg (ob (z1 x v).S h) ((ob x.S h).Fields.set n v)) k1.sr hh1 rfl ho;exact (k1.trans k2).trans (b6F (x:=wS (z1 x v) (seO (z1 x v).S h (flg (ob (z1 x v).S h) ((ob x.S h).Fields.set n v)))) k2.sr _)
theorem a69(x:Hp)(h:Int)(n:Nat)(v:Int):(a01 x h n v).Roots=x.Roots∧(a01 x h n v).a8=x.a8∧(a01 x h n v).T=x.T∧(a01 x h n v).Q=x.Q:=by
 obtain⟨a,b,c,d⟩:=b3K (wS (z1 x v) (seO (z1 x v).S h (flg (ob (z1 x v).S h) ((ob x.S h).Fields.set n v)))) ((ob x.S h).Fields.getD n 0);obtain⟨a',b',c',d'⟩:=a5o x v;exact⟨a.trans a',b.trans b',c.trans c',d.trans d'⟩
theorem b7Y{x:Hp}(hR:SR x.S)(v:Int)(t:Tb)(old:Int):Ks x.S (a5g x v t old).S:=
 (b6J hR v).trans (b6F (x:=wT (z1 x v) t) (a27 hR v) old)
theorem a9t(x:Hp)(v:Int)(t:Tb)(old:Int):(a5g x v t old).Roots=x.Roots∧(a5g x v t old).a8=x.a8∧(a5g x v t old).T=t∧(a5g x v t old).Q=x.Q:=by
 obtain⟨a,b,c,d⟩:=b3K (wT (z1 x v) t) old;obtain⟨a',b',c',d'⟩:=a5o x v;exact⟨a.trans a',b.trans b',c,d.trans d'⟩
end Go.Sh
namespace Go.Sh
theorem c80{s:a7}(hR:SR s){i:Nat}(hi:i<s.S.a8.length)(h2:(ce s i).State=2):Ks s (gvA s i):=⟨b51 hR hi,rfl,b50 hR hi h2,λh hh=>by rw[b3a hR hi h2 hh]⟩
theorem c9i{x:Hp}(hR:SR x.S)(h:Int){d:Int}(hd:T3 x.S h (A8 h)→0≤(ce x.S (A8 h)).Val.Weak+d):Ks x.S (mkd x h d).S:=by
 unfold mkd;split
 ·rename_i q;exact (a3U hR q.1 q.2.1 (hd q)).ks rfl
 ·exact Ks.refl hR
theorem c32(x:Hp)(h d:Int):(mkd x h d).Roots=x.Roots∧(mkd x h d).a8=x.a8∧(mkd x h d).T=x.T∧(mkd x h d).Q=x.Q:=by
 unfold mkd;split <;> exact⟨rfl,rfl,rfl,rfl⟩
theorem c2j(x:Hp)(h:Int):(a6w x h).Roots=x.Roots∧(a6w x h).a8=x.a8∧(a6w x h).T=x.T∧(a6w x h).Q=x.Q:=by
 unfold a6w;split;·split <;> exact⟨rfl,rfl,rfl,rfl⟩
 ·exact⟨rfl,rfl,rfl,rfl⟩
theorem c1o{x:Hp}(hR:SR x.S)(h:Int)(hd:T3 x.S h (A8 h)→1≤(ce x.S (A8 h)).Val.Weak):Ks x.S (a6w x h).S:=by
 unfold a6w;split
 ·rename_i q;have hd:=hd q;have kn:=a3U (d:=-1) hR q.1 q.2.1 (by omega);split
  ·rename_i c;have hi1:A8 h<(mkA x.S (A8 h) (-1)).S.a8.length:=by rw[kn.len];exact q.1
   have hce:ce (mkA x.S (A8 h) (-1)) (A8 h)=⟨(ce x.S (A8 h)).State,(ce x.S (A8 h)).Gen,wkg (ce x.S (A8 h)).Val ((ce x.S (A8 h)).Val.Weak + -1)⟩:=by
    rw[a06 hR q.1 q.2.1,if_pos rfl]
   have h2:(ce (mkA x.S (A8 h) (-1)) (A8 h)).State=2:=by rw[hce];exact c.1
   exact (kn.ks rfl).trans (c80 kn.sr hi1 h2)
  ·exact kn.ks rfl
 ·exact Ks.refl hR
theorem b34{x:Hp}(hx:I8 x){n:Nat}(hn:n<6)(h call:Int):Ks x.S (a0Q x n h call).S:=by
 have hR:=hx.sh.sr;have hnl:n<x.a8.length:=by have:=hx.sh.c6;omega
 have ok:∀k i,T3 x.S k i→0≤(ce x.S i).Val.Weak:=λk i q=>(hR.ok i q.1 q.2.1).wk;have tw:∀i,T3 x.S (tgt x n) i→1≤(ce x.S i).Val.Weak:=λi q=>by
  have htg:tgt x n=x.a8[n].Target:=by
   unfold tgt;rw[List.getD_eq_getElem?_getD,List.getElem?_eq_getElem hnl];rfl
  have r:=q.rng hR;have p:=a8b hnl (by rw[←htg];omega);rw[←htg,q.2.2] at p;have:=(hx.wk i q.1 q.2.1).1;omega
 unfold a0Q;have s1:Ks x.S (mkd (wC x (x.a8.set n (wcl h call))) h 1).S:=c9i (x:=wC x (x.a8.set n (wcl h call))) hR h λq=>by
  have:=ok _ _ q;dsimp only;omega
 by_cases q:T3 x.S h (A8 h)
 ·have e:mkd (wC x (x.a8.set n (wcl h call))) h 1=wS (wC x (x.a8.set n (wcl h call))) (mkA x.S (A8 h) 1):=by
   unfold mkd;rw[if_pos q]
  have hd:=ok _ _ q;have kn:=a3U (d:=1) hR q.1 q.2.1 (by omega);rw[e] at s1 ⊢;refine s1.trans (c1o (x:=wS (wC x (x.a8.set n (wcl h call))) (mkA x.S (A8 h) 1)) kn.sr _ λq2=>?_);dsimp only at q2 ⊢;have q3:=(kn.ad _ _).1 q2;have:=tw _ q3;rw[a06 hR q.1 q.2.1];split
  ·rename_i e2;rw[e2] at this;show 1≤(ce x.S (A8 h)).Val.Weak+1;omega
  ·exact this
 ·have e:mkd (wC x (x.a8.set n (wcl h call))) h 1=wC x (x.a8.set n (wcl h call)):=by
   unfold mkd;rw[if_neg q]
  rw[e] at s1 ⊢;exact s1.trans (c1o (x:=wC x (x.a8.set n (wcl h call))) hR _ λq2=>tw _ q2)
theorem a9E(x:Hp)(n:Nat)(h call:Int):(a0Q x n h call).Roots=x.Roots∧(a0Q x n h call).a8=x.a8.set n (wcl h call)∧(a0Q x n h call).T=x.T∧(a0Q x n h call).Q=x.Q:=by
 obtain⟨a,b,c,d⟩:=c2j (mkd (wC x (x.a8.set n (wcl h call))) h 1) (tgt x n);obtain⟨a',b',c',d'⟩:=c32 (wC x (x.a8.set n (wcl h call))) h 1;exact⟨a.trans a',b.trans b',c.trans c',d.trans d'⟩
end Go.Sh
namespace Go.Sh
abbrev nwo(s:a7)(n:Nat)(p:Int):l5:=⟨s.Serial+1,0,0,p,false,List.replicate n 0⟩
def Y1(s:a7)(i n:Nat)(p:Int):a7:=⟨⟨s.S.a8.set i ⟨1,(ce s i).Gen,nwo s n p⟩,s.S.Last⟩,s.Serial+1⟩
section
variable{s:a7}(hR:SR s){i:Nat}(hi:i<s.S.a8.length)(h0:(ce s i).State=0){n:Nat}(hn:n≤4){p:Int}(hp : -1≤p∧p≤5)
include hR hi h0 hn hp
theorem a4U:(Y1 s i n p).S.a8.length=s.S.a8.length:=by simp[Y1]
theorem a6I(j:Nat):ce (Y1 s i n p) j=if j=i then ⟨1,(ce s i).Gen,nwo s n p⟩ else ce s j:=a3N hi _ _ j
theorem b44:SR (Y1 s i n p):=by
 have hser:=hR.U5;have hc:=hR.cell i hi;have hnt:¬Th (ce s i):=λh=>by
  rcases h with h | h <;> omega
 refine⟨by rw[a4U hR hi h0 hn hp];exact hR.len,hR.l0,hR.l9,by show 0≤s.Serial+1;omega,λj hj=>?_,λj hj ht=>?_,λj hj ht=>?_,λj k hj hk a b e=>?_⟩
 ·rw[a4U hR hi h0 hn hp] at hj;rw[a6I hR hi h0 hn hp];split;·exact⟨show (0:Int)≤1 by decide,show (1:Int)≤3 by decide,hc.2.2.1,hc.2.2.2⟩
  ·exact hR.cell j hj
 ·rw[a4U hR hi h0 hn hp] at hj;rw[a6I hR hi h0 hn hp] at ht ⊢;split at ht;·exact absurd (.inl rfl) ht
  ·rename_i e;rw[if_neg e];exact hR.no j hj ht
 ·rw[a4U hR hi h0 hn hp] at hj;rw[a6I hR hi h0 hn hp] at ht ⊢;split at ht
  ·rename_i e;rw[if_pos e];exact⟨by show 1≤s.Serial+1;omega,Int.le_refl _,Int.le_refl 0,Int.le_refl 0,hp.1,hp.2,by simpa using hn⟩
  ·rename_i e;rw[if_neg e];have:=hR.ok j hj ht;exact⟨this.s1,by show _≤s.Serial+1;have:=this.s2;omega,this.st,this.wk,this.p1,this.p2,this.fl⟩
 ·rw[a4U hR hi h0 hn hp] at hj hk;rw[a6I hR hi h0 hn hp] at a e;rw[a6I hR hi h0 hn hp] at b e;have old:∀m,m<s.S.a8.length→Th (ce s m)→(ce s m).Val.Serial≠s.Serial+1:=λm hm t q=>by
   have:=(hR.ok m hm t).s2;omega
  by_cases ej:j=i <;> by_cases ek:k=i
  ·rw[ej,ek]
  ·rw[if_neg ek] at b e;rw[if_pos ej] at e;exact absurd e.symm (old k hk b)
  ·rw[if_neg ej] at a e;rw[if_pos ek] at e;exact absurd e (old j hj a)
  ·rw[if_neg ej] at a e;rw[if_neg ek] at b e;exact hR.dif j k hj hk a b e
theorem b9q{k:Int}{j:Nat}(q:T3 s k j):j≠i:=λe=>by
 subst e;rcases q.2.1 with h | h <;> omega
theorem c9h{k:Int}{j:Nat}:T3 (Y1 s i n p) k j↔T3 s k j∨(j=i∧k=J8 s i):=by
 unfold T3;rw[a4U hR hi h0 hn hp,a6I hR hi h0 hn hp];by_cases e:j=i
 ·rw[if_pos e];subst e;constructor
  ·rintro⟨a,b,c⟩;exact .inr ⟨rfl,c⟩
  ·rintro (⟨a,b,c⟩ | ⟨_,c⟩);·exact absurd rfl (b9q hR hi h0 hn hp ⟨a,b,c⟩)
   ·exact⟨hi,.inl rfl,c⟩
 ·rw[if_neg e];constructor;·exact .inl
  ·rintro (h | ⟨h,_⟩);·exact h
   ·exact absurd h e
theorem b7Q:lv (Y1 s i n p)=lv s ++ [J8 s i]:=by
 have e:=b9p (s:=s) (p9.2 hR) hi (by rw[←C9 hi];exact h0) (nwo s n p) rfl (a1B (p9.2 hR));unfold Y1;rw[show (ce s i).Gen=s.S.a8[i].Gen by rw[C9 hi]];have e2:J8 s i=1+(i:Int)+32*s.S.a8[i].Gen:=by unfold J8;rw[C9 hi]
 rw[e2];have:=a1B (p9.2 (by have:=b44 hR hi h0 hn hp;unfold Y1 at this;rw[show (ce s i).Gen=s.S.a8[i].Gen by rw[C9 hi]] at this;exact this));rw[e] at this;exact (Option.some.inj this).symm
theorem c30:J8 s i∉lv s:=λh=>by
 obtain⟨j,q⟩:=(a1Y hR).1 h;have:i=j:=by
  have a:=q.2.2;have b:=q.1;unfold J8 at a;have:=hR.len;omega
 subst this;have:=q.2.1;omega
theorem b43{k:Int}(hk:k∈lv s):ob (Y1 s i n p) k=ob s k:=by
 obtain⟨j,q⟩:=(a1Y hR).1 hk;have hj:=b9q hR hi h0 hn hp q.d;have q2:At (Y1 s i n p) k j:=by
  refine⟨by rw[a4U hR hi h0 hn hp];exact q.1,?_,?_⟩ <;> rw[a6I hR hi h0 hn hp,if_neg hj]
  ·exact q.2.1
  ·exact q.2.2
 rw[K8 (b44 hR hi h0 hn hp) q2,K8 hR q,a6I hR hi h0 hn hp,if_neg hj]
theorem a9q:ob (Y1 s i n p) (J8 s i)=nwo s n p:=by
 have q2:At (Y1 s i n p) (J8 s i) i:=by
  refine⟨by rw[a4U hR hi h0 hn hp];exact hi,?_,?_⟩ <;> rw[a6I hR hi h0 hn hp,if_pos rfl]
  rfl
 rw[K8 (b44 hR hi h0 hn hp) q2,a6I hR hi h0 hn hp,if_pos rfl]
end
theorem c1m{l:List Int}{h:Int}(e:h∉l):X4 l h=0:=Nat.eq_zero_of_not_pos λq=>e (a1Q.1 q).2
theorem c31{x:Hp}(hx:I8 x){i:Nat}(hi:i<x.S.S.a8.length)(h0:(ce x.S i).State=0){n:Nat}(hn:n≤4){p:Int}(hp : -1≤p∧p≤5):I8 (wS x (Y1 x.S i n p)):=by
 have hR:=hx.sh.sr;have hS:=b44 hR hi h0 hn hp;have hl:=b7Q hR hi h0 hn hp;have hnew:=c30 hR hi h0 hn hp;have mem:∀ {k},k∈lv x.S→k∈lv (Y1 x.S i n p):=λhk=>by rw[hl];exact List.mem_append_left _ hk
 have mem0:∀ {k},k=0∨k∈lv x.S→k=0∨k∈lv (Y1 x.S i n p):=λhk=>hk.imp id mem;have hpos:=a78 hR hi;have split:∀ {k},k∈lv (Y1 x.S i n p)→k∈lv x.S∨k=J8 x.S i:=λhk=>by
  rw[hl] at hk;rcases List.mem_append.1 hk with q | q
  ·exact .inl q
  ·exact .inr (List.mem_singleton.1 q)
 have rep:∀v∈List.replicate n (0:Int),v=0:=λv hv=>(List.mem_replicate.1 hv).2;have ntgt:∀j (hj:j<x.a8.length),x.a8[j].Target≠J8 x.S i:=λj hj e=>by
  obtain⟨q,hq⟩:=(hx.sh.cl j hj).2.2.2.1 (by rw[e];omega);rw[e] at hq;have:q=i:=by
   have a:=hq.2.2;have b:=hq.1;unfold J8 at a;have:=hR.len;omega
  exact b9q hR hi h0 hn hp hq this
 refine⟨⟨hS,hx.sh.hr,hx.sh.r6,hx.sh.c6,hx.sh.cap,hx.sh.q30,λt ht=>?_,hx.sh.td,λh hh=>mem0 (hx.sh.rt h hh),λh hh v hv=>?_,λk v hk=>?_,λj hj=>?_⟩,λj hj ht=>?_,λh hh hs=>?_⟩
 ·obtain⟨a,b,c⟩:=hx.sh.tk t ht;refine⟨a,b,c.imp (λ⟨d,e,f⟩=>⟨d,mem e,?_⟩) id⟩;show (ob (Y1 x.S i n p) t.At).Started=true;rw[b43 hR hi h0 hn hp e];exact f
 ·rcases split hh with q | q
  ·have hv':v∈(ob (Y1 x.S i n p) h).Fields:=hv;rw[b43 hR hi h0 hn hp q] at hv';exact mem0 (hx.sh.fl h q v hv')
  ·subst q;have hv':v∈(ob (Y1 x.S i n p) (J8 x.S i)).Fields:=hv;rw[a9q hR hi h0 hn hp] at hv';exact .inl (rep v hv')
 ·obtain⟨a,b⟩:=hx.sh.pr k v hk;exact⟨mem a,mem b⟩
 ·obtain⟨a,b,c,d,e⟩:=hx.sh.cl j hj;refine⟨a,b,c,λq=>?_,λq=>⟨mem (e q).1,(e q).2⟩⟩;obtain⟨m,hm⟩:=d q;exact⟨m,(c9h hR hi h0 hn hp).2 (.inl hm)⟩
 ·have hj':j<x.S.S.a8.length:=by have:j<(Y1 x.S i n p).S.a8.length:=hj;rwa [a4U hR hi h0 hn hp] at this
  show (ce (Y1 x.S i n p) j).Val.Weak=(nmg x.a8 (1+(j:Int)+32*(ce (Y1 x.S i n p) j).Gen):Int)∧_;have ht':Th (ce (Y1 x.S i n p) j):=ht;rw[a6I hR hi h0 hn hp] at ht' ⊢;by_cases e:j=i
  ·subst e;rw[if_pos rfl];refine⟨?_,λq=>absurd (show (1:Int)=2 from q) (by decide)⟩;show (0:Int)=(nmg x.a8 (J8 x.S j):Int);have:nmg x.a8 (J8 x.S j)=0:=by
    unfold nmg;rw[List.countP_eq_zero];intro c hc;obtain⟨m,hm,rfl⟩:=List.getElem_of_mem hc;have:=ntgt m hm;simp[this]
   rw[this];rfl
  ·rw[if_neg e] at ht' ⊢;exact hx.wk j hj' ht'
 ·have hinn:∀y,inn (Y1 x.S i n p) y=inn x.S y:=λy=>by
   unfold inn;rw[hl,List.map_append,List.sum_append];have e1:(lv x.S).map (λk=>X4 (outs (Y1 x.S i n p) k) y)=(lv x.S).map λk=>X4 (outs x.S k) y:=List.map_congr_left λk hk=>by
    unfold outs;rw[b43 hR hi h0 hn hp hk]
   rw[e1];have e2:outs (Y1 x.S i n p) (J8 x.S i) = []:=by
    refine List.eq_nil_iff_forall_not_mem.2 λv hv=>?_;have h1:=a59.1 hv;rw[a9q hR hi h0 hn hp] at h1;exact h1.2 (rep v h1.1)
   simp[e2,N5]
  have hnm:∀y,nms (wS x (Y1 x.S i n p)) y=nms x y:=λy=>by
   unfold nms;show inn (Y1 x.S i n p) y+own x.T y+X4 (otr x) y=_;rw[hinn]
  rw[hnm];have hs':(ob (Y1 x.S i n p) h).Strong<12:=hs;show (ob (Y1 x.S i n p) h).Strong=_;rcases split hh with q | q
  ·rw[b43 hR hi h0 hn hp q] at hs' ⊢;exact hx.fair h q hs'
  ·subst q;rw[a9q hR hi h0 hn hp];have h1:nms x (J8 x.S i)=0:=by
    unfold nms;have a1:inn x.S (J8 x.S i)=0:=by
     unfold inn;have:=b6V (λk=>X4 (outs x.S k) (J8 x.S i)) 0 (lv x.S) λk hk=>Nat.le_of_eq<|c1m λq=>by
      have q2:=a59.1 q;rcases hx.sh.fl k hk _ q2.1 with e | e
      ·exact q2.2 e
      ·exact hnew e
     omega
    have a2:own x.T (J8 x.S i)=0:=by
     unfold own;rw[List.countP_eq_zero];intro c hc;have:=(hx.sh.pr _ _ (a3k.1 hc)).2;have hne:c.Val≠J8 x.S i:=λe=>hnew (e▸this);simp[hne]
    have a3:X4 (otr x) (J8 x.S i)=0:=c1m λq=>by
     unfold otr at q;rcases List.mem_append.1 q with q | q
     ·have q2:=a59.1 q;rcases hx.sh.rt _ q2.1 with e | e
      ·exact q2.2 e
      ·exact hnew e
     ·obtain⟨t,ht,k1,k2⟩:=b0n.1 q;rcases (hx.sh.tk t ht).2.2 with ⟨_,b,_⟩ | ⟨b,_⟩;·exact hnew (k2▸b)
      ·omega
    omega
   rw[h1,N5];rfl
end Go.Sh
namespace Go.Sh
structure Ev (x y:Hp):Prop where
 lv:∀h∈lv y.S,(h∈Sh.lv x.S∧(ob y.S h).Serial=(ob x.S h).Serial)∨(h∉Sh.lv x.S∧(ob y.S h).Serial=x.S.Serial+1)
 s1:x.S.Serial≤y.S.Serial
 s2:y.S.Serial≤x.S.Serial+1
theorem Ev.refl(x:Hp):Ev x x:=⟨λh hh=>.inl ⟨hh,rfl⟩,by omega,by omega⟩
theorem Ks.ev{x y:Hp}(k:Ks x.S y.S):Ev x y:=⟨λh hh=>by
 rw[k.lv] at hh;exact .inl ⟨hh,k.ob h hh⟩,by rw[k.U5];omega,by rw[k.U5];omega⟩
theorem Ev.ks{x y z:Hp}(e:Ev x y)(k:Ks y.S z.S):Ev x z:=⟨λh hh=>by
 rw[k.lv] at hh;rw[k.ob h hh];exact e.lv h hh,by rw[k.U5];exact e.s1,by rw[k.U5];exact e.s2⟩
theorem Ev.stl{x y z:Hp}(e:Ev x y)(s:Stl y z):Ev x z:=⟨λh hh=>by
 rw[(s.ob h hh).1];exact e.lv h (s.lv h hh),by rw[s.U5];exact e.s1,by rw[s.U5];exact e.s2⟩
theorem d0V{x:Hp}(hx:I8 x){i:Nat}(hi:i<x.S.S.a8.length)(h0:(ce x.S i).State=0){n:Nat}(hn:n≤4){p:Int}(hp : -1≤p∧p≤5):Ev x (wS x (Y1 x.S i n p)):=⟨λh hh=>by
 have hR:=hx.sh.sr;have hh':h∈lv (Y1 x.S i n p):=hh;show (_∧(ob (Y1 x.S i n p) h).Serial=_)∨_∧(ob (Y1 x.S i n p) h).Serial=_;rw[b7Q hR hi h0 hn hp] at hh';rcases List.mem_append.1 hh' with q | q
 ·exact .inl ⟨q,by rw[b43 hR hi h0 hn hp q]⟩
 ·rw[List.mem_singleton.1 q];exact .inr ⟨c30 hR hi h0 hn hp,by rw[a9q hR hi h0 hn hp]⟩,by show _≤x.S.Serial+1;omega,Int.le_refl _⟩
def Cw(x y:Hp)(w:Int):Prop:=∀i:Nat,(i:Int)≠w→(y.a8.getD i cz).Target=(x.a8.getD i cz).Target∧((y.a8.getD i cz).Intact=true→(x.a8.getD i cz).Intact=true)
theorem Cw.refl(x:Hp)(w:Int):Cw x x w:=λi _=>⟨rfl,id⟩
theorem Cw.same{x y:Hp}(h:y.a8=x.a8)(w:Int):Cw x y w:=λi _=>by rw[h];exact⟨rfl,id⟩
theorem Cw.trans{x y z:Hp}{w:Int}(a:Cw x y w)(b:Cw y z w):Cw x z w:=λi hi=>⟨(b i hi).1.trans (a i hi).1,λq=>(a i hi).2 ((b i hi).2 q)⟩
theorem Stl.cw{x y:Hp}(s:Stl x y)(w:Int):Cw x y w:=λi _=>by
 by_cases h:i<x.a8.length
 ·have h':i<y.a8.length:=by rw[s.cn];exact h
  rw[c0t h,c0t h',s.cl i h' h];exact⟨rfl,λq=>(Bool.and_eq_true _ _▸q).1⟩
 ·have h':¬i<y.a8.length:=by rw[s.cn];exact h
  rw[List.getD_eq_getElem?_getD,List.getD_eq_getElem?_getD,List.getElem?_eq_none (by omega),List.getElem?_eq_none (by omega)];exact⟨rfl,id⟩
theorem Cw.set{x y:Hp}{w:Nat}{c:e6}(h:y.a8=x.a8.set w c):Cw x y w:=λi hi=>by
 rw[h,List.getD_eq_getElem?_getD,List.getD_eq_getElem?_getD,List.getElem?_set_ne (by omega)];exact⟨rfl,id⟩
end Go.Sh
namespace Go.Sh
def Fst(s:a7)(i:Nat):Prop:=i<s.S.a8.length∧(ce s i).State=0∧∀j,j<i→(ce s j).State≠0
theorem c7Q{s:a7}(hR:SR s)(hb:s.Serial<9223372036854775807)(a p:Int) :
  (¬(0≤a∧a≤4)∧Q0 s a p=some (s,0,1)) ∨
  ((0≤a∧a≤4)∧¬(-1≤p∧p≤5)∧Q0 s a p=some (s,0,13)) ∨
  ((0≤a∧a≤4)∧(-1≤p∧p≤5)∧(∀i,i<s.S.a8.length→(ce s i).State≠0)∧Q0 s a p=some (s,0,4)) ∨
  ((0≤a∧a≤4)∧(-1≤p∧p≤5)∧∃i,Fst s i∧Q0 s a p=some (Y1 s i a.toNat p,J8 s i,0)):=by
 have hs':=hR.U5;have hR':=p9.2 hR;unfold Q0 b61;by_cases ha:0≤a∧a≤4
 ·right;obtain⟨ha1,ha2⟩:=ha;obtain⟨n,rfl⟩:∃n:Nat,a=n:=⟨a.toNat,by omega⟩;rw[if_neg (by simp;omega),a7l (by omega) (by omega)];simp only[d2I];by_cases hp : -1≤p∧p≤5
  ·right;unfold O9;simp only[d2I];have e1:(decide (p ≥ -1)&&decide (p<6))=true:=by simp;omega
   rw[e1];have hl:SlO s.S:=⟨a1L hR',hR'.l0,hR'.l9,λi hi=>b6H hR' i hi⟩;rcases b6X hl ⟨s.Serial+1,0,0,p,false,List.replicate n 0⟩ with ⟨i,hi,h0,hf,e⟩ | ⟨hf,e⟩
   ·right;refine⟨⟨ha1,ha2⟩,hp,i,⟨hi,by rw[C9 hi];exact h0,λj hj=>by rw[C9 (by omega)];exact hf j hj⟩,?_⟩;simp only[bne_self_eq_false,Bool.false_eq_true,if_false,Bool.not_true];rw[show u5 (s.Serial+1)=s.Serial+1 from C3 (by omega) (by omega),e];unfold Y1 J8;rw[C9 hi];simp
   ·left;refine⟨⟨ha1,ha2⟩,hp,λi hi=>by rw[C9 hi];exact hf i hi,?_⟩;simp only[bne_self_eq_false,Bool.false_eq_true,if_false,Bool.not_true];rw[show u5 (s.Serial+1)=s.Serial+1 from C3 (by omega) (by omega),e];simp
  ·left;refine⟨⟨ha1,ha2⟩,hp,?_⟩;unfold O9;simp only[d2I];have e1:(decide (p ≥ -1)&&decide (p<6))=false:=by rw[Bool.eq_false_iff];simp;omega
   rw[e1];simp
 ·left;refine⟨ha,?_⟩;rw[if_pos (by simp;omega)];simp
end Go.Sh
namespace Go.Sh
def sd(x:Hp)(r:Int):Int:=if r<0 then 0 else x.Roots.getD r.toNat 0
def asd(x:Hp)(r:Int):Int × Int:=if sd x r=0 then (0,2) else (sd x r,0)
def U5(x:Hp)(h:Int):Int:=(ob x.S h).Serial
theorem in0{n l m e:Int}(he:e≠0)(h:J9 n l m e=0):l≤n∧n≤m:=by
 unfold J9 at h;split at h;·exact absurd h he
 ·omega
theorem b9c{a b c:Int}(h:a0r a b c=0):a=0∧b=0∧c=0:=by
 unfold a0r at h;split at h;·contradiction
 ·split at h;·contradiction
  ·omega
theorem c0C{k a b c:Int}(h:w9 k a b c=0):1≤k∧k≤12:=by
 refine Decidable.byContradiction λq=>?_;have:w9 k a b c=14:=by
  unfold w9;repeat rw[if_neg (by omega)]
 omega
theorem d1K{a b c:Int}(h:w9 1 a b c=0):(0≤a∧a≤5)∧(0≤b∧b≤4) ∧ -1≤c∧c≤5:=by
 obtain⟨h1,h2,h3⟩:=b9c (show a0r (J9 a 0 5 6) (J9 b 0 4 1) (J9 c (-1) 5 13)=0 from h);exact⟨in0 (by decide) h1,in0 (by decide) h2,in0 (by decide) h3⟩
theorem c8E{a b c:Int}(h:w9 2 a b c=0):(0≤a∧a≤5)∧(0≤b∧b≤5):=by
 obtain⟨h1,h2,_⟩:=b9c (show a0r (J9 a 0 5 6) (J9 b 0 5 6) 0=0 from h);exact⟨in0 (by decide) h1,in0 (by decide) h2⟩
theorem d0D{a b c:Int}(h:w9 3 a b c=0):0≤a∧a≤5:=in0 (by decide) (show J9 a 0 5 6=0 from h)
theorem d1L{a b c:Int}(h:w9 4 a b c=0):(0≤a∧a≤5)∧(0≤b∧b≤5)∧0≤c∧c≤3:=by
 obtain⟨h1,h2,h3⟩:=b9c (show a0r (J9 a 0 5 6) (J9 b 0 5 6) (J9 c 0 3 5)=0 from h);exact⟨in0 (by decide) h1,in0 (by decide) h2,in0 (by decide) h3⟩
theorem d1M{a b c:Int}(h:w9 5 a b c=0):(0≤a∧a≤5)∧(0≤b∧b≤3) ∧ -1≤c∧c≤5:=by
 obtain⟨h1,h2,h3⟩:=b9c (show a0r (J9 a 0 5 6) (J9 b 0 3 5) (J9 c (-1) 5 6)=0 from h);exact⟨in0 (by decide) h1,in0 (by decide) h2,in0 (by decide) h3⟩
theorem d0E{a b c:Int}(h:w9 6 a b c=0):(0≤a∧a≤5)∧(-1≤b∧b≤5) ∧ -1≤c∧c≤5:=by
 obtain⟨h1,h2,h3⟩:=b9c (show a0r (J9 a 0 5 7) (J9 b (-1) 5 6) (J9 c (-1) 5 13)=0 from h);exact⟨in0 (by decide) h1,in0 (by decide) h2,in0 (by decide) h3⟩
theorem d1N{a b c:Int}(h:w9 7 a b c=0):(0≤a∧a≤5)∧(0≤b∧b≤5):=by
 obtain⟨h1,h2,_⟩:=b9c (show a0r (J9 a 0 5 6) (J9 b 0 5 7) 0=0 from h);exact⟨in0 (by decide) h1,in0 (by decide) h2⟩
theorem d1O{a b c:Int}(h:w9 8 a b c=0):(0≤a∧a≤5)∧(-1≤b∧b≤5):=by
 obtain⟨h1,h2,_⟩:=b9c (show a0r (J9 a 0 5 6) (J9 b (-1) 5 6) 0=0 from h);exact⟨in0 (by decide) h1,in0 (by decide) h2⟩
theorem d1P{a b c:Int}(h:w9 9 a b c=0):(0≤a∧a≤5)∧(0≤b∧b≤5):=c8E (show w9 2 a b c=0 from h)
theorem d0C{a b c:Int}(h:w9 10 a b c=0):(0≤a∧a≤5)∧(0≤b∧b≤5):=c8E (show w9 2 a b c=0 from h)
section
variable{x:Hp}(hx:HpS x)
include hx
theorem b1U{r:Int}(h:0≤r∧r≤5):ix x.Roots r=some (sd x r):=by
 have:=hx.r6;obtain⟨n,rfl⟩:∃n:Nat,r=n:=⟨r.toNat,by omega⟩;have hn:n<x.Roots.length:=by omega
 rw[n9 hn];unfold sd;rw[if_neg (by omega),Int.toNat_natCast,List.getD_eq_getElem?_getD,List.getElem?_eq_getElem hn];rfl
theorem b3Q{r:Int}(h:¬(0≤r∧r≤5)):sd x r=0:=by
 have:=hx.r6;unfold sd;split;·rfl
 ·rw[List.getD_eq_getElem?_getD,List.getElem?_eq_none (by omega)];rfl
theorem b1V(r:Int):sd x r=0∨sd x r∈lv x.S:=by
 by_cases h:0≤r∧r≤5
 ·have e:=b1U hx h;unfold ix at e;rw[if_pos h.1] at e;exact hx.rt _ (List.mem_of_getElem? e)
 ·exact .inl (b3Q hx h)
theorem b1W(r:Int):sd x r≤9223372036854775807:=by
 rcases b1V hx r with h | h
 ·omega
 ·have:=E0 hx.sr h;omega
theorem a6l(r:Int):I3 x r=some (sd x r):=by
 have h6:=hx.r6;unfold I3;by_cases h:0≤r∧r≤5
 ·rw[if_neg (by simp;omega),b1U hx h];rfl
 ·rw[if_pos (by simp;omega),b3Q hx h]
theorem c4R{r:Int}(h:r≤5):a5k (hO x) r=some (sd x r):=by
 unfold a5k;by_cases q:r<0
 ·rw[if_pos (by simpa using q),b3Q hx (by omega)]
 ·rw[if_neg (by simpa using q),show (hO x).Roots=x.Roots from rfl,b1U hx (by omega)];rfl
theorem a5e(r:Int):J3 x r=some (asd x r):=by
 unfold J3 asd;rw[a6l hx,d2I];by_cases h:sd x r=0
 ·rw[if_pos (by simpa using h),if_pos h]
 ·rw[if_neg (by simpa using h),if_neg h]
theorem a9L{r:Int}(h:0≤r∧r≤5):V9 (hO x) r=some (asd x r):=by
 unfold V9 asd;rw[show (hO x).Roots=x.Roots from rfl,b1U hx h,d2I];by_cases h:sd x r=0
 ·rw[if_pos (by simpa using h),if_pos h]
 ·rw[if_neg (by simpa using h),if_neg h]
theorem c4U{h:Int}(hh:h≤9223372036854775807):Z1 x h=some (U5 x h):=by
 obtain⟨e,h1,_⟩:=P5 (p9.2 hx.sr) hh;unfold Z1;rw[h1];rfl
theorem c7Y{h:Int}(hh:h≤9223372036854775807):a31 (hO x) h=some (U5 x h):=by
 obtain⟨e,h1,_⟩:=P5 (p9.2 hx.sr) hh;unfold a31;rw[show (hO x).S=sO x.S from rfl,a48 x.S (by have:=hx.sr.len;omega) hh,h1];rfl
theorem c0k(r:Int):a05 x r=some (U5 x (sd x r)):=by
 unfold a05;rw[a6l hx,d2I,c4U hx (b1W hx r)];rfl
theorem c1g:U5 x 0=0:=by
 unfold U5;rw[a8Z (p9.2 hx.sr) (by omega) (a3S hx.sr)]
theorem d0A(r:Int):b1r (hO x) r=some (U5 x (sd x r)):=by
 unfold b1r;by_cases h:0≤r∧r≤5
 ·rw[if_neg (by simp;omega),show (hO x).Roots=x.Roots from rfl,b1U hx h,d2I,c7Y hx (b1W hx r)];rfl
 ·rw[if_pos (by simp;omega),b3Q hx h,c1g hx]
end
theorem c94{x z:Hp}(hx:HpS x)(k:Ks x.S z.S){h:Int}(hh:h=0∨h∈lv x.S):U5 z h=U5 x h:=by
 rcases hh with e | e
 ·subst e;unfold U5;rw[a8Z (p9.2 hx.sr) (by omega) (a3S hx.sr),a8Z (p9.2 k.sr) (by omega) (a3S k.sr)]
 ·exact k.ob h e
theorem c68{x z:Hp}(h:z.Roots=x.Roots)(r:Int):sd z r=sd x r:=by unfold sd;rw[h]
noncomputable def doR(x:Hp)(o:c5)(v:Hp × Int):Option (Hp × Int × Int):=
 if (v.2 != 0) then some (x,0,v.2) else (L9 v.1).bind λv5=>(R5 v.1 v5 o).bind λv6=>some (v5,v6,0)
theorem a8R{x:Hp}{o:c5}{n:Option Nat}(hc:w9 o.Kind o.A o.B o.C=0)(hk:∃l,a2u=some l∧A0 l o.Kind=some n):p8 x o=(b2k n ⟨x,o⟩).bind (doR x o):=by
 obtain⟨l,h1,h2⟩:=hk;unfold p8;rw[a61,hc,d2I,if_neg (by simp),h1,d2I,h2,if_neg (by simp)];rfl
theorem b80{x:Hp}{o:c5}(hc:w9 o.Kind o.A o.B o.C≠0):p8 x o=some (x,0,w9 o.Kind o.A o.B o.C)∧B3 (hO x) ⟨o.Kind,o.A,o.B,o.C⟩=some (hO x,0,w9 o.Kind o.A o.B o.C):=by
 constructor
 ·unfold p8;rw[a61,d2I,if_pos (by simpa using hc)]
 ·unfold B3;rw[a4k,d2I,if_pos (by simpa using hc)]
section
variable{x:Hp}{a b c:Int}
theorem d1Q(hc:w9 1 a b c=0):p8 x ⟨1,a,b,c⟩=(Q1 ⟨x,⟨1,a,b,c⟩⟩).bind (doR x ⟨1,a,b,c⟩):=a8R (o:=⟨1,a,b,c⟩) (n:=some 65) hc ⟨_,rfl,rfl⟩
theorem d1R(hc:w9 2 a b c=0):p8 x ⟨2,a,b,c⟩=(F7 ⟨x,⟨2,a,b,c⟩⟩).bind (doR x ⟨2,a,b,c⟩):=a8R (o:=⟨2,a,b,c⟩) (n:=some 66) hc ⟨_,rfl,rfl⟩
theorem d1S(hc:w9 3 a b c=0):p8 x ⟨3,a,b,c⟩=(X8 ⟨x,⟨3,a,b,c⟩⟩).bind (doR x ⟨3,a,b,c⟩):=a8R (o:=⟨3,a,b,c⟩) (n:=some 67) hc ⟨_,rfl,rfl⟩
theorem d1T(hc:w9 4 a b c=0):p8 x ⟨4,a,b,c⟩=(X9 ⟨x,⟨4,a,b,c⟩⟩).bind (doR x ⟨4,a,b,c⟩):=a8R (o:=⟨4,a,b,c⟩) (n:=some 68) hc ⟨_,rfl,rfl⟩
theorem d1U(hc:w9 5 a b c=0):p8 x ⟨5,a,b,c⟩=(U0 ⟨x,⟨5,a,b,c⟩⟩).bind (doR x ⟨5,a,b,c⟩):=a8R (o:=⟨5,a,b,c⟩) (n:=some 69) hc ⟨_,rfl,rfl⟩
theorem d1V(hc:w9 6 a b c=0):p8 x ⟨6,a,b,c⟩=(Q2 ⟨x,⟨6,a,b,c⟩⟩).bind (doR x ⟨6,a,b,c⟩):=a8R (o:=⟨6,a,b,c⟩) (n:=some 70) hc ⟨_,rfl,rfl⟩
theorem d1W(hc:w9 7 a b c=0):p8 x ⟨7,a,b,c⟩=(U9 ⟨x,⟨7,a,b,c⟩⟩).bind (doR x ⟨7,a,b,c⟩):=a8R (o:=⟨7,a,b,c⟩) (n:=some 71) hc ⟨_,rfl,rfl⟩
theorem d1X(hc:w9 8 a b c=0):p8 x ⟨8,a,b,c⟩=(Y0 ⟨x,⟨8,a,b,c⟩⟩).bind (doR x ⟨8,a,b,c⟩):=a8R (o:=⟨8,a,b,c⟩) (n:=some 72) hc ⟨_,rfl,rfl⟩
theorem d1Y(hc:w9 9 a b c=0):p8 x ⟨9,a,b,c⟩=(a0i ⟨x,⟨9,a,b,c⟩⟩).bind (doR x ⟨9,a,b,c⟩):=a8R (o:=⟨9,a,b,c⟩) (n:=some 73) hc ⟨_,rfl,rfl⟩
theorem d0I(hc:w9 10 a b c=0):p8 x ⟨10,a,b,c⟩=(M5 ⟨x,⟨10,a,b,c⟩⟩).bind (doR x ⟨10,a,b,c⟩):=a8R (o:=⟨10,a,b,c⟩) (n:=some 74) hc ⟨_,rfl,rfl⟩
theorem b5L{k:Int}(hk:k=11∨k=12)(hc:w9 k a b c=0):p8 x ⟨k,a,b,c⟩=some (x,0,14)∧B3 (hO x) ⟨k,a,b,c⟩=some (hO x,0,14):=by
 constructor
 ·unfold p8;rw[a61,hc,d2I,if_neg (by simp)];rcases hk with rfl | rfl <;> rfl
 ·unfold B3 N9;rw[a4k,hc,d2I,if_neg (by simp)];rcases hk with rfl | rfl <;> rfl
variable{y:g8}
def rT(y:g8)(a:Int)(v:Int × Int):Option (g8 × Int × Int):=
 if (v.2 != 0) then some (y,0,v.2) else (V0 y a v.1).bind λv15=>(M8 v15.1).bind λv16=>(b1r v16 a).bind λv17=>some (v16,v17,0)
def rO(y:g8)(v:g8 × Int × Int):Option (g8 × Int × Int):=
 if (v.2.2 != 0) then some (y,0,v.2.2) else (M8 v.1).bind λv8=>(a31 y v.2.1).bind λv9=>some (v8,v9,0)
theorem c03{k:Int}(hk:k=2∨k=3∨k=4∨k=7∨k=9)(hc:w9 k a b c=0):B3 y ⟨k,a,b,c⟩=(a2i y ⟨k,a,b,c⟩).bind (rT y a):=by
 unfold B3 N9;rw[a4k,hc,d2I,if_neg (by simp)];rcases hk with rfl | rfl | rfl | rfl | rfl <;> rfl
theorem c02{k:Int}(hk:k=5∨k=6∨k=8)(hc:w9 k a b c=0):B3 y ⟨k,a,b,c⟩=(a1k y ⟨k,a,b,c⟩).bind (rO y):=by
 unfold B3 N9;rw[a4k,hc,d2I,if_neg (by simp)];rcases hk with rfl | rfl | rfl <;> rfl
theorem d1f(hc:w9 1 a b c=0):B3 y ⟨1,a,b,c⟩=(a2N y.S b c).bind λv10=>if (v10.2.2 != 0) then some (y,0,v10.2.2) else (V0 ⟨v10.1,y.Roots,y.a8,y.T,y.Q⟩ a v10.2.1).bind λv11=>(M8 v11.1).bind λv12=>(b1r v12 a).bind λv13=>some (v12,v13,0):=by
 unfold B3 N9;rw[a4k,hc,d2I,if_neg (by simp)];rfl
theorem c9X(hc:w9 10 a b c=0):B3 y ⟨10,a,b,c⟩=(ix y.Roots a).bind λv3=>(ix y.Roots b).bind λv4=>if (v3==v4) then some (y,1,0) else some (y,0,0):=by
 unfold B3 N9;rw[a4k,hc,d2I,if_neg (by simp)];rfl
end
end Go.Sh
namespace Go.Sh
section
variable{s:a7}(hR:SR s){i:Nat}(hi:i<s.S.a8.length)
include hR hi
theorem d0f(st g:Int):a08 (sO s) ⟨(pl (sO s)).a8.set i ⟨st,g,0⟩,(pl (sO s)).Last⟩=some ⟨(sO s).a8.set i ⟨st,g,oo (ce s i).Val⟩,s.S.Last,s.Serial⟩:=by
 have hlen:=hR.len;have K2:i<(pl (sO s)).a8.length:=by rw[a07,A7];exact hi
 rw[b30 _ _ (by rw[A7];omega) (by simp[a07])];congr 1;congr 1;refine List.ext_getElem (by simp) λk h1 h2=>?_;have hk:k<s.S.a8.length:=by simpa[A7] using h1
 have hk2:k<(sO s).a8.length:=by rw[A7];exact hk
 have hk3:k<(pl (sO s)).a8.length:=by rw[a07];exact hk2
 simp only[List.getElem_map,List.getElem_range,List.getElem_set];have e1:(sO s).a8.getD k ⟨0,0,oo z0⟩=cO (ce s k):=by
  rw[List.getD_eq_getElem?_getD,List.getElem?_eq_getElem hk2,C9 hk];simp[sO]
 have e2:((pl (sO s)).a8.set i ⟨st,g,0⟩).getD k ⟨0,0,0⟩=if k=i then ⟨st,g,0⟩ else plc k (cO (ce s k)):=by
  rw[a3N K2];split;·rfl
  ·rw[List.getD_eq_getElem?_getD,List.getElem?_eq_getElem hk3,C9 hk];simp[pl,sO]
 rw[e1,e2];by_cases e:k=i
 ·subst e;rw[if_pos rfl,if_pos rfl];rfl
 ·rw[if_neg e,if_neg (Ne.symm e)];rw[C9 hk];simp[sO,plc,cO]
theorem d0g(st g:Int)(o:L7):a2O ⟨(sO s).a8.set i ⟨st,g,oo (ce s i).Val⟩,s.S.Last,s.Serial⟩ (i:Int) o=some ⟨(sO s).a8.set i ⟨st,g,o⟩,s.S.Last,s.Serial⟩:=by
 have hlen:=hR.len;unfold a2O;have hi2:i<((sO s).a8.set i ⟨st,g,oo (ce s i).Val⟩).length:=by simp[A7];exact hi
 rw[K1 (by omega) (by simp[A7];omega),d2I,n9 hi2,d2I];simp[List.set_set]
theorem c4w:∃h:i<(pl (sO s)).a8.length,(pl (sO s)).a8[i]=⟨(ce s i).State,(ce s i).Gen,(i:Int)⟩:=by
 have K2:i<(pl (sO s)).a8.length:=by rw[a07,A7];exact hi
 refine⟨K2,?_⟩;rw[C9 hi];simp[pl,sO,plc,cO]
end
theorem d0d{s:a7}(hR:SR s):(∀i,i<s.S.a8.length→(ce s i).State≠0)→a7p (pl (sO s)) 0=some (pl (sO s),0,4):=λhf=>by
 have hlen:=hR.len;have el:(pl (sO s)).a8.length=s.S.a8.length:=by rw[a07,A7]
 unfold a7p;simp only[jn];refine a0A (pl (sO s)).a8.length (λk=>True) (by omega) trivial (λk hk _=>?_) (λhP=>⟨.inr (),by simp,rfl⟩);refine .inl ⟨?_,trivial⟩;obtain⟨h1,h2⟩:=c4w hR (show k<s.S.a8.length by omega);have:=hf k (by omega);simp only[Int.ofNat_lt,hk,decide_true,if_true,n9 hk,d2I];rw[h2,if_neg (by simpa using this),k8]
theorem c7f{s:a7}(hR:SR s){i:Nat}(hF:Fst s i):a7p (pl (sO s)) 0=some (⟨(pl (sO s)).a8.set i ⟨1,(ce s i).Gen,0⟩,(pl (sO s)).Last⟩,J8 s i,0):=by
 have hlen:=hR.len;have el:(pl (sO s)).a8.length=s.S.a8.length:=by rw[a07,A7]
 obtain⟨hi,h0,hmin⟩:=hF;have hc:=hR.cell i hi;have l9:=hR.l9;unfold a7p;simp only[jn];refine a0A (pl (sO s)).a8.length (λk=>k≤i) (by omega) (by omega) (λk hk hP=>?_) (λhP=>by omega);obtain⟨h1,h2⟩:=c4w hR (show k<s.S.a8.length by omega);rcases Nat.lt_or_ge k i with g | g
 ·refine .inl ⟨?_,g⟩;have:=hmin k g;simp only[Int.ofNat_lt,hk,decide_true,if_true,n9 hk,d2I];rw[h2,if_neg (by simpa using this),k8]
 ·have:k=i:=by omega
  subst this;refine .inr ⟨.inl _,?_,rfl⟩;simp only[Int.ofNat_lt,hk,decide_true,if_true,n9 hk,d2I];rw[h2,if_pos (by simpa using h0)];have w3:∀c:L0,a0N (pl (sO s)) (k:Int) c=some ⟨(pl (sO s)).a8.set k c,(pl (sO s)).Last⟩:=λc=>by
   unfold a0N;rw[K1 (by omega) (by omega),d2I,n9 hk,d2I,Int.toNat_natCast]
  rw[w3,d2I,a7m,if_pos (by dsimp only;omega),d2I];rfl
theorem d0T{s:a7}(hR:SR s)(hb:s.Serial<9223372036854775807)(a p:Int) :
  (∃e,e≠0∧Q0 s a p=some (s,0,e)∧a2N (sO s) a p=some (sO s,0,e)) ∨
  ((0≤a∧a≤4)∧(-1≤p∧p≤5)∧∃i,Fst s i∧Q0 s a p=some (Y1 s i a.toNat p,J8 s i,0)∧a2N (sO s) a p=some (sO (Y1 s i a.toNat p),J8 s i,0)):=by
 have hser:=hR.U5;have hlen:=hR.len;have r1:∀n:Nat,n≤4→b2x (n:Int)=some (List.replicate n 0,0):=λn hn=>by
  unfold b2x;rw[if_neg (by simp;omega),a7l (by omega) (by omega)];rfl
 rcases c7Q hR hb a p with ⟨h1,e⟩ | ⟨h1,h2,e⟩ | ⟨h1,h2,h3,e⟩ | ⟨h1,h2,i,h3,e⟩
 ·refine .inl ⟨1,by decide,e,?_⟩;unfold a2N b2x;rw[if_pos (by simp;omega)];rfl
 ·refine .inl ⟨13,by decide,e,?_⟩;obtain⟨n,rfl⟩:∃n:Nat,a=n:=⟨a.toNat,by omega⟩;unfold a2N;rw[r1 n (by omega),d2I,if_neg (by simp),if_pos (by simp;omega)]
 ·refine .inl ⟨4,by decide,e,?_⟩;obtain⟨n,rfl⟩:∃n:Nat,a=n:=⟨a.toNat,by omega⟩;unfold a2N;rw[r1 n (by omega),d2I,if_neg (by simp),if_neg (by simp;omega),a4y _ (by rw[A7];omega),d2I,d0d hR h3,d2I,if_pos (by simp)]
 ·refine .inr ⟨h1,h2,i,h3,e,?_⟩;obtain⟨n,rfl⟩:∃n:Nat,a=n:=⟨a.toNat,by omega⟩;have hi:=h3.1;have hc:=hR.cell i hi;have l9:=hR.l9;unfold a2N;rw[r1 n (by omega),d2I,if_neg (by simp),if_neg (by simp;omega),a4y _ (by rw[A7];omega),d2I,c7f hR h3,d2I,if_neg (by simp),d0f hR hi,d2I,a7o,if_pos (by unfold Hnd J8;dsimp only;omega),d2I,
   show (J8 s i-1) % 32=(i:Int) by unfold J8;omega,d0g hR hi,d2I,C3 (by show _≤s.Serial+1;omega) (by show s.Serial+1≤_;omega)]
  unfold Y1;rw[Int.toNat_natCast];simp only[sO,List.map_set];rfl
end Go.Sh
namespace Go.Sh
abbrev opR(o:c5):o8:=⟨o.Kind,o.A,o.B,o.C⟩
structure Dn (x:Hp) (o:c5) (z:Hp) (v:Int):Prop where
 rt:I8 z
 sl:SL z
 ev:Ev x z
 cw:Cw x z (if o.Kind=6 then o.A else -1)
 mc:p8 x o=some (V3 z,v,0)
 rf:B3 (hO x) (opR o)=some (hO (V3 z),v,0)
def Er(x:Hp)(o:c5)(e:Int):Prop:=e≠0∧p8 x o=some (x,0,e)∧B3 (hO x) (opR o)=some (hO x,0,e)
theorem d0W{x:Hp}(hx:I8 x)(hS:SL x){i:Nat}(hi:i<x.S.S.a8.length)(h0:(ce x.S i).State=0){n:Nat}(hn:n≤4){p:Int}(hp : -1≤p∧p≤5):SL (wS x (Y1 x.S i n p)):=λk hk=>by
 have hR:=hx.sh.sr;have hk':k∈lv (Y1 x.S i n p):=hk;show (ob (Y1 x.S i n p) k).Strong≤_;rw[b7Q hR hi h0 hn hp] at hk';rcases List.mem_append.1 hk' with q | q
 ·rw[b43 hR hi h0 hn hp q];exact hS k q
 ·rw[List.mem_singleton.1 q,a9q hR hi h0 hn hp];show (0:Int)≤_;decide
theorem a8p{y:Hp}(hy:I8 y){a:Int}(ha:0≤a∧a≤5){h:Int}(hh:h=0∨h∈lv y.S):sd (V3 (u6 y a.toNat h)) a=h∧U5 (V3 (u6 y a.toNat h)) h=U5 y h:=by
 have hz:=O6 hy (r:=a.toNat) (by omega) hh;have st:=a2T hz;have w:=a2m hz;have e1:(V3 (u6 y a.toNat h)).Roots=y.Roots.set a.toNat h:=st.rt.trans (U2 y a.toNat h).1;have h6:=hy.sh.r6;have e2:sd (V3 (u6 y a.toNat h)) a=h:=by
  unfold sd;rw[if_neg (by omega),e1,List.getD_eq_getElem?_getD,List.getElem?_set_self (by omega)];rfl
 refine⟨e2,?_⟩;have k:=V1 hy.sh.sr a.toNat h;rcases b1V w.sh a with q | q
 ·rw[e2] at q;subst q;rw[c1g w.sh,c1g hy.sh]
 ·rw[e2] at q;have h1:=(st.ob h q).1;have h2:=st.lv h q;rw[k.lv] at h2;exact h1.trans (k.ob h h2)
section
variable{x:Hp}{a b c:Int}
theorem a6B{o:c5}{y:Hp}{e:Int}(he:e≠0):doR x o (y,e)=some (x,0,e):=by
 unfold doR;rw[if_pos (by simpa using he)]
theorem c7x{z:Hp}(hz:I8 z)(hS:SL z){k:Int}(hk:k≠5∧k≠6∧k≠8∧k≠10):doR x ⟨k,a,b,c⟩ (z,0)=some (V3 z,U5 (V3 z) (sd (V3 z) a),0):=by
 unfold doR R5;rw[if_neg (by simp),a3E hz hS,d2I];simp only[jn];rw[if_neg (by simp;omega),if_neg (by simp;omega)];have:(k==8)=false:=by simp;omega
 rw[this,if_neg (by simp),if_neg (by simp;omega),c0k (a2m hz).sh];rfl
theorem b9Y{o:c5}{v e:Int}(he:e≠0):A2 ⟨x,o⟩ v e=some (x,e):=by
 unfold A2;rw[if_pos (by simpa using he)]
theorem c4B{y:g8}{v e:Int}(he:e≠0):rT y a (v,e)=some (y,0,e):=by
 unfold rT;rw[if_pos (by simpa using he)]
theorem c12{y z:g8}{v e:Int}(he:e≠0):rO y (z,v,e)=some (y,0,e):=by
 unfold rO;rw[if_pos (by simpa using he)]
variable(hx:I8 x)(hS:SL x)
include hx hS
theorem a8x{k:Int}(ha:0≤a∧a≤5){h:Int}(hh:h=0∨h∈lv x.S):A2 ⟨x,⟨k,a,b,c⟩⟩ h 0=some (u6 x a.toNat h,0):=by
 unfold A2;rw[if_neg (by simp),c1a hx hS a (b0j hx hS hh),if_neg (by omega),if_pos hh];rfl
theorem d1b(ha:0≤a∧a≤5){h:Int}(hh:h=0∨h∈lv x.S):rT (hO x) a (h,0)=some (hO (V3 (u6 x a.toNat h)),U5 x h,0):=by
 have hz:=O6 hx (r:=a.toNat) (by omega) hh;have zS:=a2S hx.sh.sr hS a.toNat h;obtain⟨e1,e2⟩:=a8p hx ha hh;unfold rT;rw[if_neg (by simp),b9K hx hS a (b0j hx hS hh),if_neg (by omega),if_pos hh,d2I,a5s hz zS,d2I,d0A (a2m hz).sh,e1,e2];rfl
theorem a5w{k:Int}(hk:k=2∨k=3∨k=4∨k=7∨k=9)(hc:w9 k a b c=0)(ha:0≤a∧a≤5){h:Int}(hh:h=0∨h∈lv x.S)
  (h1:p8 x ⟨k,a,b,c⟩=doR x ⟨k,a,b,c⟩ (u6 x a.toNat h,0))(h2:a2i (hO x) ⟨k,a,b,c⟩=some (h,0)):Dn x ⟨k,a,b,c⟩ (u6 x a.toNat h) (U5 x h):=by
 have hz:=O6 hx (r:=a.toNat) (by omega) hh;have zS:=a2S hx.sh.sr hS a.toNat h;obtain⟨e1,e2⟩:=a8p hx ha hh;refine⟨hz,zS,(V1 hx.sh.sr a.toNat h).ev,Cw.same (U2 x a.toNat h).2.1 _,?_,?_⟩;·rw[h1,c7x hz zS (by omega),e1,e2]
 ·show B3 (hO x) ⟨k,a,b,c⟩=_;rw[c03 hk hc,h2,d2I,d1b hx hS ha hh]
theorem d2(hc:w9 2 a b c=0):Dn x ⟨2,a,b,c⟩ (u6 x a.toNat (sd x b)) (U5 x (sd x b)):=by
 obtain⟨ha,hb⟩:=c8E hc;refine a5w hx hS (.inl rfl) hc ha (b1V hx.sh b) ?_ ?_
 ·rw[d1R hc];unfold F7;rw[a6l hx.sh,d2I,a8x hx hS ha (b1V hx.sh b)];rfl
 ·unfold a2i;rw[if_pos (by rfl),show (hO x).Roots=x.Roots from rfl,b1U hx.sh hb];rfl
theorem d3(hc:w9 3 a b c=0):Dn x ⟨3,a,b,c⟩ (u6 x a.toNat 0) 0:=by
 have ha:=d0D hc;have:=a5w (b:=b) (c:=c) hx hS (.inr (.inl rfl)) hc ha (h:=0) (.inl rfl) ?_ ?_;·rwa [c1g hx.sh] at this
 ·rw[d1S hc];unfold X8;rw[a8x hx hS ha (.inl rfl)];rfl
 ·rfl
theorem d4(hc:w9 4 a b c=0):(sd x b=0∧Er x ⟨4,a,b,c⟩ 2)∨(∃e,Z7 x.S (sd x b) c=some (0,e)∧Er x ⟨4,a,b,c⟩ e) ∨
  (sd x b∈lv x.S∧∃n:Nat,c=n∧∃hn:n<(ob x.S (sd x b)).Fields.length,Dn x ⟨4,a,b,c⟩ (u6 x a.toNat (ob x.S (sd x b)).Fields[n]) (U5 x (ob x.S (sd x b)).Fields[n])):=by
 obtain⟨ha,hb,_⟩:=d1L hc;have hm:p8 x ⟨4,a,b,c⟩=_:=d1T hc;unfold X9 at hm;rw[a5e hx.sh,d2I] at hm;have hr:B3 (hO x) ⟨4,a,b,c⟩=_:=c03 (by omega) hc;have hnm:a2i (hO x) ⟨4,a,b,c⟩=(V9 (hO x) b).bind λv2=>if (v2.2 != 0) then some (0,v2.2) else (a3z (hO x).S v2.1 c).bind λv3=>some (v3.1,v3.2):=rfl
 rw[a9L hx.sh hb,d2I] at hnm;by_cases h0:sd x b=0
 ·refine .inl ⟨h0,by decide,?_,?_⟩
  ·rw[hm];unfold asd;rw[if_pos h0,if_pos (by simp),d2I,a6B (by decide)]
  ·show B3 (hO x) ⟨4,a,b,c⟩=_;rw[hr,hnm];unfold asd;rw[if_pos h0,if_pos (by simp),d2I,c4B (by decide)]
 ·have has:asd x b=(sd x b,0):=by unfold asd;rw[if_neg h0]
  rw[has,if_neg (by simp)] at hm hnm;right;rcases b1L hx hS (sd x b) c (b1W hx.sh b) with ⟨e,he,f1,f2⟩ | ⟨hl,n,hn0,hn,f1,f2⟩
  ·refine .inl ⟨e,f1,he,?_,?_⟩
   ·rw[hm];dsimp only;rw[f1,d2I,b9Y he,d2I,d2I,a6B he]
   ·show B3 (hO x) ⟨4,a,b,c⟩=_;rw[hr,hnm];dsimp only;rw[show (hO x).S=sO x.S from rfl,f2,d2I,d2I,c4B he]
  ·refine .inr ⟨hl,n,hn0,hn,?_⟩;have hv:=hx.sh.fl _ hl _ (List.getElem_mem hn);refine a5w hx hS (by omega) hc ha hv ?_ ?_
   ·rw[hm];dsimp only;rw[f1,d2I,a8x hx hS ha hv];rfl
   ·rw[hnm];dsimp only;rw[show (hO x).S=sO x.S from rfl,f2];rfl
theorem c6n{n:Nat}(hn:n<6):∃h:n<x.a8.length,a5y x.a8 n=some (if x.a8[n].Target=0∨x.a8[n].Intact=false then (0,9) else (x.a8[n].Target,0))∧b0s (hO x).a8 n=some (if x.a8[n].Target=0∨x.a8[n].Intact=false then (0,9) else (x.a8[n].Target,0)):=by
 have c6:=hx.sh.c6;have hl:n<x.a8.length:=by omega
 have hl2:n<(x.a8.map wcR).length:=by simp;exact hl
 refine⟨hl,?_,?_⟩
 ·unfold a5y a5z;have:(decide ((n:Int)≥0)&&decide ((n:Int)<(x.a8.length:Int)))=true:=by simp;omega
  rw[this,d2I,if_neg (by simp),n9 hl,d2I];by_cases q:x.a8[n].Target=0∨x.a8[n].Intact=false
  ·rw[if_pos q,if_pos (by rcases q with q | q <;> simp[q])]
  ·rw[if_neg q,if_neg (by simpa using q)]
 ·unfold b0s;show (if _ then _ else (ix (x.a8.map wcR) (n:Int)).bind _)=_;rw[if_neg (by simp[hO];omega),n9 hl2,d2I,List.getElem_map];by_cases q:x.a8[n].Target=0∨x.a8[n].Intact=false
  ·rw[if_pos q,if_pos (by rcases q with q | q <;> simp[wcR,q])]
  ·rw[if_neg q,if_neg (by simpa[wcR] using q)];rfl
theorem d7(hc:w9 7 a b c=0):∃h:b.toNat<x.a8.length,((x.a8[b.toNat].Intact=false∧Er x ⟨7,a,b,c⟩ 9) ∨
  (x.a8[b.toNat].Intact=true∧Dn x ⟨7,a,b,c⟩ (u6 x a.toNat x.a8[b.toNat].Target) (U5 x x.a8[b.toNat].Target))):=by
 obtain⟨ha,hb⟩:=d1N hc;obtain⟨n,rfl⟩:∃n:Nat,b=n:=⟨b.toNat,by omega⟩;obtain⟨hl,l1,l2⟩:=c6n hx hS (n:=n) (by omega);rw[Int.toNat_natCast];refine⟨hl,?_⟩;have hm:p8 x ⟨7,a,n,c⟩=_:=d1W hc;unfold U9 at hm;rw[show a5y (o6.mk x ⟨7,a,n,c⟩).x.a8 (o6.mk x ⟨7,a,n,c⟩).o.B=_ from l1,d2I] at hm;have hr:B3 (hO x) ⟨7,a,n,c⟩=_:=c03 (by omega) hc;have hnm:a2i (hO x) ⟨7,a,n,c⟩=(b0s (hO x).a8 n).bind λv4=>some (v4.1,v4.2):=rfl;rw[l2,d2I] at hnm;have cl:=hx.sh.cl n hl;cases hI:x.a8[n].Intact
 ·left;rw[if_pos (.inr hI)] at hm hnm;refine⟨rfl,by decide,?_,?_⟩
  ·rw[hm];dsimp only;rw[b9Y (by decide),d2I,d2I];exact a6B (e:=9) (by decide)
  ·show B3 (hO x) ⟨7,a,n,c⟩=_;rw[hr,hnm,d2I,c4B (by decide)]
 ·right;have ht:=(cl.2.2.2.2 hI).1;have ht0:x.a8[n].Target≠0:=λe=>a3S hx.sh.sr (e▸ht);rw[if_neg (by simp[ht0,hI])] at hm hnm;refine⟨rfl,a5w hx hS (by omega) hc ha (.inr ht) ?_ hnm⟩;rw[hm];dsimp only;rw[a8x hx hS ha (.inr ht)];rfl
theorem d9(hc:w9 9 a b c=0):(sd x b=0∧Er x ⟨9,a,b,c⟩ 2)∨(sd x b∈lv x.S∧(∀v,¬Has x.T (sd x b) v)∧Er x ⟨9,a,b,c⟩ 9) ∨
  (sd x b∈lv x.S∧∃v,Has x.T (sd x b) v∧Dn x ⟨9,a,b,c⟩ (u6 x a.toNat v) (U5 x v)):=by
 obtain⟨ha,hb⟩:=d1P hc;have hT:=hx.sh.hr;have hm:p8 x ⟨9,a,b,c⟩=_:=d1Y hc;unfold a0i at hm;rw[a5e hx.sh,d2I] at hm;have hr:B3 (hO x) ⟨9,a,b,c⟩=_:=c03 (by omega) hc;have hnm:a2i (hO x) ⟨9,a,b,c⟩=(V9 (hO x) b).bind λv2=>if (v2.2 != 0) then some (0,v2.2) else (b2z (hO x).T v2.1).bind λv3=>some (v3.1,v3.2):=rfl
 rw[a9L hx.sh hb,d2I] at hnm;by_cases h0:sd x b=0
 ·refine .inl ⟨h0,by decide,?_,?_⟩
  ·rw[hm];unfold asd;rw[if_pos h0,if_pos (by simp),d2I,a6B (by decide)]
  ·show B3 (hO x) ⟨9,a,b,c⟩=_;rw[hr,hnm];unfold asd;rw[if_pos h0,if_pos (by simp),d2I,c4B (by decide)]
 ·have has:asd x b=(sd x b,0):=by unfold asd;rw[if_neg h0]
  have hl:=(b1V hx.sh b).resolve_left h0;rw[has,if_neg (by simp)] at hm hnm;dsimp only at hm hnm;have g2:b2z (hO x).T (sd x b)=(J2 x.T (sd x b)).bind λv=>some (v.1,v.2):=by
   unfold b2z;rw[show (hO x).T=x.T.map K2 from rfl,c4G hT]
  unfold b0Z at hm;rw[g2] at hnm;right;by_cases hv:∃v,Has x.T (sd x b) v
  ·obtain⟨v,hv⟩:=hv;rw[c0u hT hv] at hm hnm;refine .inr ⟨hl,v,hv,a5w hx hS (by omega) hc ha (.inr (hx.sh.pr _ _ hv).2) ?_ hnm⟩;rw[hm,d2I,d2I];dsimp only;rw[a8x hx hS ha (.inr (hx.sh.pr _ _ hv).2)];rfl
  ·have hv':∀v,¬Has x.T (sd x b) v:=λv q=>hv ⟨v,q⟩;rw[c1M hT hv'] at hm hnm;refine .inl ⟨hl,hv',by decide,?_,?_⟩
   ·rw[hm,d2I,d2I];dsimp only;rw[b9Y (by decide),d2I,d2I];exact a6B (e:=9) (by decide)
   ·show B3 (hO x) ⟨9,a,b,c⟩=_;rw[hr,hnm,d2I,d2I,d2I];exact c4B (e:=9) (by decide)
end
end Go.Sh
namespace Go.Sh
section
variable{x:Hp}{a b c:Int}
theorem d0H{z:Hp}(hz:I8 z)(hS:SL z){k:Int}{r:Int}(hk:k=5∧r=c∨(k=6∨k=8)∧r=b):doR x ⟨k,a,b,c⟩ (z,0)=some (V3 z,U5 z (sd z r),0):=by
 unfold doR R5;rw[if_neg (by simp),a3E hz hS,d2I];simp only[jn];rcases hk with ⟨rfl,rfl⟩ | ⟨rfl | rfl,rfl⟩
 ·rw[if_pos (by rfl),c0k hz.sh];rfl
 ·rw[if_neg (by decide),if_pos (by rfl),if_pos (by rfl),c0k hz.sh];rfl
 ·rw[if_neg (by decide),if_neg (by decide),if_pos (by rfl),c0k hz.sh];rfl
variable(hx:I8 x)(hS:SL x)
include hx hS
theorem d1a{z:Hp}(hz:I8 z)(zS:SL z){h:Int}(hh:h=0∨h∈lv x.S):rO (hO x) (hO z,h,0)=some (hO (V3 z),U5 x h,0):=by
 unfold rO;rw[if_neg (by simp),a5s hz zS,d2I,c7Y hx.sh (b0j hx hS hh)];rfl
theorem a9s{z:Hp}(hz:I8 z)(zS:SL z)(k:Ks x.S z.S)(er:z.Roots=x.Roots){kd r:Int}(hk:kd=5∧r=c∨(kd=6∨kd=8)∧r=b)(hc:w9 kd a b c=0)(cw:Cw x z (if kd=6 then a else -1))
  (h1:p8 x ⟨kd,a,b,c⟩=doR x ⟨kd,a,b,c⟩ (z,0))(h2:a1k (hO x) ⟨kd,a,b,c⟩=some (hO z,sd x r,0)):Dn x ⟨kd,a,b,c⟩ z (U5 x (sd x r)):=by
 refine⟨hz,zS,k.ev,cw,?_,?_⟩;·rw[h1,d0H hz zS hk,c68 er,c94 hx.sh k (b1V hx.sh r)]
 ·show B3 (hO x) ⟨kd,a,b,c⟩=_;rw[c02 (by omega) hc,h2,d2I,d1a hx hS hz zS (b1V hx.sh r)]
theorem d5(hc:w9 5 a b c=0):(sd x a=0∧Er x ⟨5,a,b,c⟩ 2)∨(∃e,a2a x (sd x a) b (sd x c)=some (x,e)∧Er x ⟨5,a,b,c⟩ e) ∨
  (sd x a∈lv x.S∧∃n:Nat,b=n∧n<(ob x.S (sd x a)).Fields.length∧Dn x ⟨5,a,b,c⟩ (a01 x (sd x a) n (sd x c)) (U5 x (sd x c))):=by
 obtain⟨ha,hb,hcc⟩:=d1M hc;have hm:p8 x ⟨5,a,b,c⟩=_:=d1U hc;unfold U0 at hm;rw[a5e hx.sh,d2I] at hm;have hr:B3 (hO x) ⟨5,a,b,c⟩=_:=c02 (by omega) hc;have hnm:a1k (hO x) ⟨5,a,b,c⟩=(V9 (hO x) a).bind λv4=>if (v4.2 != 0) then some (hO x,0,v4.2) else (a5k (hO x) c).bind λv5=>(a5j (hO x) v4.1 b v5).bind λv6=>some (v6.1,v5,v6.2):=rfl
 rw[a9L hx.sh ha,d2I,c4R hx.sh (by omega)] at hnm;by_cases h0:sd x a=0
 ·have has:asd x a=(0,2):=by unfold asd;rw[if_pos h0]
  rw[has,if_pos (by simp)] at hm hnm;refine .inl ⟨h0,by decide,?_,?_⟩
  ·rw[hm,d2I];exact a6B (e:=2) (by decide)
  ·show B3 (hO x) ⟨5,a,b,c⟩=_;rw[hr,hnm,d2I];exact c12 (e:=2) (by decide)
 ·have has:asd x a=(sd x a,0):=by unfold asd;rw[if_neg h0]
  rw[has,if_neg (by simp)] at hm hnm;dsimp only at hm hnm;rw[a6l hx.sh,d2I] at hm;rw[d2I] at hnm;right;rcases c3t hx hS (sd x a) b (sd x c) (b1W hx.sh a) (b1W hx.sh c) with ⟨e,he,f1,f2⟩ | ⟨hl,hv,n,hn0,hn,f1,f2⟩
  ·refine .inl ⟨e,f1,he,?_,?_⟩;·rw[hm,f1,d2I,d2I,a6B he]
   ·show B3 (hO x) ⟨5,a,b,c⟩=_;rw[hr,hnm,f2,d2I,d2I,c12 he]
  ·refine .inr ⟨hl,n,hn0,hn,a9s hx hS (b5R hx hl hn hv) (c1H hx.sh.sr hS hl _ _) (b4L hx.sh.sr hl hn _) (a69 _ _ _ _).1 (.inl ⟨rfl,rfl⟩) hc (Cw.same (a69 _ _ _ _).2.1 _) ?_ ?_⟩
   ·rw[hm,f1];rfl
   ·rw[hnm,f2];rfl
theorem d6(hc:w9 6 a b c=0):(sd x b=0∧Er x ⟨6,a,b,c⟩ 2)∨(∃e,a0h x a (sd x b) c=some (x,e)∧Er x ⟨6,a,b,c⟩ e) ∨
  (wts x.Q a=false∧Dn x ⟨6,a,b,c⟩ (a0Q x a.toNat (sd x b) c) (U5 x (sd x b))):=by
 obtain⟨ha,hb,hcc⟩:=d0E hc;have hm:p8 x ⟨6,a,b,c⟩=_:=d1V hc;unfold Q2 at hm;have hr:B3 (hO x) ⟨6,a,b,c⟩=_:=c02 (by omega) hc;have key:(p8 x ⟨6,a,b,c⟩=(((a0h x a (sd x b) c).bind λv1=>some (v1.1,v1.2)).bind (doR x ⟨6,a,b,c⟩))∧a1k (hO x) ⟨6,a,b,c⟩=(a3Z (hO x) a (sd x b) c).bind λv1=>some (v1.1,sd x b,v1.2))∨(sd x b=0∧Er x ⟨6,a,b,c⟩ 2):=by
  by_cases h1:b = -1
  ·subst h1;left;rw[b3Q hx.sh (r:=-1) (by omega)];refine⟨?_,rfl⟩;rw[hm,if_pos (by rfl)]
  ·rw[if_neg (by simpa using h1),a5e hx.sh,d2I] at hm;have hnm:a1k (hO x) ⟨6,a,b,c⟩=(V9 (hO x) b).bind λv4=>if (v4.2 != 0) then some (hO x,0,v4.2) else (a3Z (hO x) a v4.1 c).bind λv7=>some (v7.1,v4.1,v7.2):=by
    unfold a1k;rw[if_neg (by simp;omega)];rfl
   rw[a9L hx.sh (by omega),d2I] at hnm;by_cases h0:sd x b=0
   ·have has:asd x b=(0,2):=by unfold asd;rw[if_pos h0]
    rw[has,if_pos (by simp)] at hm hnm;refine .inr ⟨h0,by decide,?_,?_⟩
    ·rw[hm,d2I];exact a6B (e:=2) (by decide)
    ·show B3 (hO x) ⟨6,a,b,c⟩=_;rw[hr,hnm,d2I];exact c12 (e:=2) (by decide)
   ·have has:asd x b=(sd x b,0):=by unfold asd;rw[if_neg h0]
    rw[has,if_neg (by simp)] at hm hnm;exact .inl ⟨hm,hnm⟩
 rcases key with ⟨hm,hnm⟩ | key
 ·right;rcases c7o hx a (sd x b) c (b1W hx.sh b) hcc with ⟨e,he,f1,f2⟩ | ⟨hh,n,rfl,hn,hw,f1,f2⟩
  ·refine .inl ⟨e,f1,he,?_,?_⟩;·rw[hm,f1,d2I,d2I,a6B he]
   ·show B3 (hO x) ⟨6,a,b,c⟩=_;rw[hr,hnm,f2,d2I,d2I,c12 he]
  ·rw[Int.toNat_natCast];obtain⟨r1,r2,_,_⟩:=a9E x n (sd x b) c;refine .inr ⟨hw,a9s hx hS (b8B hx hn hh hcc hw) (c48 hx hS hn _ _) (b34 hx hn _ _) r1 (.inr ⟨.inl rfl,rfl⟩) hc (by rw[if_pos rfl];exact Cw.set r2) ?_ ?_⟩
   ·rw[hm,f1];rfl
   ·rw[hnm,f2];rfl
 ·exact .inl key
theorem d8(hc:w9 8 a b c=0):(sd x a=0∧Er x ⟨8,a,b,c⟩ 2)∨(sd x a∈lv x.S∧∃e,a3v x (sd x a) (sd x b)=some (x,e)∧Er x ⟨8,a,b,c⟩ e) ∨
  (sd x a∈lv x.S∧∃r,R1 x.T (sd x a) (sd x b)=some r∧r.2.2=0∧Dn x ⟨8,a,b,c⟩ (a5g x (sd x b) r.1 r.2.1) (U5 x (sd x b))):=by
 obtain⟨ha,hb⟩:=d1O hc;have hm:p8 x ⟨8,a,b,c⟩=_:=d1X hc;unfold Y0 at hm;rw[a5e hx.sh,d2I] at hm;have hr:B3 (hO x) ⟨8,a,b,c⟩=_:=c02 (by omega) hc;have hnm:a1k (hO x) ⟨8,a,b,c⟩=(V9 (hO x) a).bind λv4=>if (v4.2 != 0) then some (hO x,0,v4.2) else (a5k (hO x) b).bind λv8=>(a7t (hO x) v4.1 v8).bind λv9=>some (v9.1,v8,v9.2):=rfl
 rw[a9L hx.sh ha,d2I,c4R hx.sh (by omega)] at hnm;by_cases h0:sd x a=0
 ·have has:asd x a=(0,2):=by unfold asd;rw[if_pos h0]
  rw[has,if_pos (by simp)] at hm hnm;refine .inl ⟨h0,by decide,?_,?_⟩
  ·rw[hm,d2I];exact a6B (e:=2) (by decide)
  ·show B3 (hO x) ⟨8,a,b,c⟩=_;rw[hr,hnm,d2I];exact c12 (e:=2) (by decide)
 ·have has:asd x a=(sd x a,0):=by unfold asd;rw[if_neg h0]
  have hl:=(b1V hx.sh a).resolve_left h0;rw[has,if_neg (by simp)] at hm hnm;dsimp only at hm hnm;rw[a6l hx.sh,d2I] at hm;rw[d2I] at hnm;right;rcases c6P hx hS (sd x a) (sd x b) (b1W hx.sh a) (b1W hx.sh b) with ⟨e,he,f1,f2⟩ | ⟨hl,hv,r,r1,r2,f1,f2⟩
  ·refine .inl ⟨hl,e,f1,he,?_,?_⟩;·rw[hm,f1,d2I,d2I,a6B he]
   ·show B3 (hO x) ⟨8,a,b,c⟩=_;rw[hr,hnm,f2,d2I,d2I,c12 he]
  ·refine .inr ⟨hl,r,r1,r2,a9s hx hS (b7Z hx hl hv r1 r2) (c4r hx.sh.sr hS _ _ _) (b7Y hx.sh.sr _ _ _) (a9t _ _ _ _).1 (.inr ⟨.inr rfl,rfl⟩) hc (Cw.same (a9t _ _ _ _).2.1 _) ?_ ?_⟩
   ·rw[hm,f1];rfl
   ·rw[hnm,f2];rfl
theorem d10(hz:zr x = [])(hc:w9 10 a b c=0):Dn x ⟨10,a,b,c⟩ x (if sd x a=sd x b then 1 else 0):=by
 obtain⟨ha,hb⟩:=d0C hc;refine⟨hx,hS,Ev.refl x,Cw.refl x _,?_,?_⟩
 ·rw[d0I hc];unfold M5 doR R5;rw[d2I,if_neg (by simp),a3E hx hS,d2I];simp only[jn];rw[if_neg (by decide),if_neg (by decide),if_neg (by decide),if_pos (by rfl),a6l hx.sh,d2I,a6l hx.sh,d2I];by_cases q:sd x a=sd x b
  ·rw[if_pos (by simpa using q),if_pos q];rfl
  ·rw[if_neg (by simpa using q),if_neg q];rfl
 ·show B3 (hO x) ⟨10,a,b,c⟩=_;rw[c9X hc,show (hO x).Roots=x.Roots from rfl,b1U hx.sh ha,d2I,b1U hx.sh hb,d2I,a1M hz];by_cases q:sd x a=sd x b
  ·rw[if_pos (by simpa using q),if_pos q]
  ·rw[if_neg (by simpa using q),if_neg q]
theorem d1(hb:x.S.Serial<9223372036854775807)(hc:w9 1 a b c=0):(∃e,Q0 x.S b c=some (x.S,0,e)∧Er x ⟨1,a,b,c⟩ e) ∨
  (b.toNat≤4∧(-1≤c∧c≤5)∧∃i,Fst x.S i∧Dn x ⟨1,a,b,c⟩ (u6 (wS x (Y1 x.S i b.toNat c)) a.toNat (J8 x.S i)) (x.S.Serial+1)):=by
 obtain⟨ha,hbb,hcc⟩:=d1K hc;have hR:=hx.sh.sr;have hm:p8 x ⟨1,a,b,c⟩=_:=d1Q hc;unfold Q1 at hm;dsimp only at hm;have hr:B3 (hO x) ⟨1,a,b,c⟩=_:=d1f hc;rw[show (hO x).S=sO x.S from rfl] at hr;rcases d0T hR hb b c with ⟨e,he,f1,f2⟩ | ⟨_,_,i,hF,f1,f2⟩
 ·refine .inl ⟨e,f1,he,?_,?_⟩;·rw[hm,f1,d2I,if_pos (by simpa using he),d2I,a6B he]
  ·show B3 (hO x) ⟨1,a,b,c⟩=_;rw[hr,f2,d2I,if_pos (by simpa using he)]
 ·refine .inr ⟨by omega,hcc,i,hF,?_⟩;obtain⟨hi,h0,_⟩:=hF;have hn:b.toNat≤4:=by omega
  have hy:=c31 hx hi h0 hn hcc;have yS:=d0W hx hS hi h0 hn hcc;have hh:J8 x.S i=0∨J8 x.S i∈lv (wS x (Y1 x.S i b.toNat c)).S:=.inr (by
   show _∈lv (Y1 x.S i b.toNat c);rw[b7Q hR hi h0 hn hcc];exact List.mem_append_right _ (List.mem_singleton.2 rfl))
  have hz:=O6 hy (r:=a.toNat) (by omega) hh;have zS:=a2S hy.sh.sr yS a.toNat (J8 x.S i);obtain⟨e1,e2⟩:=a8p hy ha hh;have e3:U5 (wS x (Y1 x.S i b.toNat c)) (J8 x.S i)=x.S.Serial+1:=by
   show (ob (Y1 x.S i b.toNat c) (J8 x.S i)).Serial=_;rw[a9q hR hi h0 hn hcc]
  refine⟨hz,zS,(d0V hx hi h0 hn hcc).ks (V1 hy.sh.sr a.toNat _),Cw.same (U2 (wS x (Y1 x.S i b.toNat c)) a.toNat _).2.1 _,?_,?_⟩
  ·rw[hm,f1,d2I,if_neg (by simp)];dsimp only;rw[show A2 ⟨⟨Y1 x.S i b.toNat c,x.Roots,x.a8,x.T,x.Q⟩,⟨1,a,b,c⟩⟩ (J8 x.S i) 0=_ from a8x hy yS ha hh,d2I,d2I,c7x hz zS (by omega),e1,e2,e3]
  ·show B3 (hO x) ⟨1,a,b,c⟩=_;rw[hr,f2,d2I,if_neg (by simp)];dsimp only;rw[show V0 ⟨sO (Y1 x.S i b.toNat c),(hO x).Roots,(hO x).a8,(hO x).T,(hO x).Q⟩ a (J8 x.S i)=_ from b9K hy yS a (b0j hy yS hh),if_neg (by omega),if_pos hh,d2I,a5s hz zS,d2I,d0A (a2m hz).sh,e1,e2,e3];rfl
end
theorem c8J{x:Hp}(hx:I8 x)(hS:SL x)(hz:zr x = [])(hb:x.S.Serial<9223372036854775807)(o:c5):(∃e,Er x o e)∨∃z v,Dn x o z v:=by
 obtain⟨k,a,b,c⟩:=o;by_cases hc:w9 k a b c=0
 ·have:=c0C hc;have hk:k=1∨k=2∨k=3∨k=4∨k=5∨k=6∨k=7∨k=8∨k=9∨k=10∨k=11∨k=12:=by omega
  rcases hk with rfl | rfl | rfl | rfl | rfl | rfl | rfl | rfl | rfl | rfl | rfl | rfl
  ·rcases d1 hx hS hb hc with ⟨e,_,h⟩ | ⟨_,_,i,_,h⟩;·exact .inl ⟨e,h⟩
   ·exact .inr ⟨_,_,h⟩
  ·exact .inr ⟨_,_,d2 hx hS hc⟩
  ·exact .inr ⟨_,_,d3 hx hS hc⟩
  ·rcases d4 hx hS hc with ⟨_,h⟩ | ⟨e,_,h⟩ | ⟨_,n,_,_,h⟩;·exact .inl ⟨_,h⟩
   ·exact .inl ⟨_,h⟩
   ·exact .inr ⟨_,_,h⟩
  ·rcases d5 hx hS hc with ⟨_,h⟩ | ⟨e,_,h⟩ | ⟨_,n,_,_,h⟩;·exact .inl ⟨_,h⟩
   ·exact .inl ⟨_,h⟩
   ·exact .inr ⟨_,_,h⟩
  ·rcases d6 hx hS hc with ⟨_,h⟩ | ⟨e,_,h⟩ | ⟨_,h⟩;·exact .inl ⟨_,h⟩
   ·exact .inl ⟨_,h⟩
   ·exact .inr ⟨_,_,h⟩
  ·obtain⟨_,⟨_,h⟩ | ⟨_,h⟩⟩:=d7 hx hS hc;·exact .inl ⟨_,h⟩
   ·exact .inr ⟨_,_,h⟩
  ·rcases d8 hx hS hc with ⟨_,h⟩ | ⟨_,e,_,h⟩ | ⟨_,r,_,_,h⟩;·exact .inl ⟨_,h⟩
   ·exact .inl ⟨_,h⟩
   ·exact .inr ⟨_,_,h⟩
  ·rcases d9 hx hS hc with ⟨_,h⟩ | ⟨_,_,h⟩ | ⟨_,v,_,h⟩;·exact .inl ⟨_,h⟩
   ·exact .inl ⟨_,h⟩
   ·exact .inr ⟨_,_,h⟩
  ·exact .inr ⟨_,_,d10 hx hS hz hc⟩
  ·obtain⟨h1,h2⟩:=b5L (x:=x) (a:=a) (b:=b) (c:=c) (.inl rfl) hc;exact .inl ⟨14,by decide,h1,h2⟩
  ·obtain⟨h1,h2⟩:=b5L (x:=x) (a:=a) (b:=b) (c:=c) (.inr rfl) hc;exact .inl ⟨14,by decide,h1,h2⟩
 ·obtain⟨h1,h2⟩:=b80 (x:=x) (o:=⟨k,a,b,c⟩) hc;exact .inl ⟨_,hc,h1,h2⟩
end Go.Sh
namespace Go.Sh
noncomputable def dov(x:Hp)(o:c5):Hp × Int × Int:=(p8 x o).getD (x,0,0)
structure Nxt (x:Hp) (o:c5) (y:Hp) (v e:Int):Prop where
 rt:I8 y
 sl:SL y
 zr:zr y = []
 ev:Ev x y
 cw:Cw x y (if o.Kind=6 then o.A else -1)
 er:e≠0→y=x∧v=0
 mc:p8 x o=some (y,v,e)
 rf:B3 (hO x) (opR o)=some (hO y,v,e)
theorem Dn.nxt{x z:Hp}{o:c5}{v:Int}(d:Dn x o z v):Nxt x o (V3 z) v 0:=by
 have st:=a2T d.rt;exact⟨a2m d.rt,c1i d.rt d.sl,b5j d.rt,d.ev.stl st,d.cw.trans (st.cw _),λh=>absurd rfl h,d.mc,d.rf⟩
theorem c6B{x:Hp}(hx:I8 x)(hS:SL x)(hz:zr x = [])(hb:x.S.Serial<9223372036854775807)(o:c5):∃y v e,Nxt x o y v e:=by
 rcases c8J hx hS hz hb o with ⟨e,h1,h2,h3⟩ | ⟨z,v,d⟩;·exact⟨x,0,e,hx,hS,hz,Ev.refl x,Cw.refl x _,λ_=>⟨rfl,rfl⟩,h2,h3⟩
 ·exact⟨_,_,_,d.nxt⟩
theorem a58{x:Hp}(hx:I8 x)(hS:SL x)(hz:zr x = [])(hb:x.S.Serial<9223372036854775807)(o:c5):Nxt x o (dov x o).1 (dov x o).2.1 (dov x o).2.2:=by
 obtain⟨y,v,e,h⟩:=c6B hx hS hz hb o;have:dov x o=(y,v,e):=by unfold dov;rw[h.mc];rfl
 rw[this];exact h
noncomputable def runs(x:Hp)(l:List c5):Hp × List Int:=l.foldl (λp o=>((dov p.1 o).1,p.2 ++ [(dov p.1 o).2.1])) (x,[])
theorem a8s(x:Hp)(l:List c5)(o:c5):runs x (l ++ [o])=((dov (runs x l).1 o).1,(runs x l).2 ++ [(dov (runs x l).1 o).2.1]):=by
 unfold runs;rw[List.foldl_append];rfl
theorem b3O{x:Hp}(hx:I8 x)(hS:SL x)(hz:zr x = [])(l:List c5)(hb:x.S.Serial+l.length<9223372036854775807)(P:Hp→Prop)(h0:P x)
  (hs:∀(y:Hp) (o:c5),o∈l→I8 y→Nxt y o (dov y o).1 (dov y o).2.1 (dov y o).2.2→P y→P (dov y o).1):∀k,k≤l.length →
  I8 (runs x (l.take k)).1∧SL (runs x (l.take k)).1∧zr (runs x (l.take k)).1 = []∧(runs x (l.take k)).1.S.Serial≤x.S.Serial+k∧(runs x (l.take k)).2.length=k∧P (runs x (l.take k)).1
 | 0,_=>⟨hx,hS,hz,by show x.S.Serial≤_;omega,rfl,h0⟩
 | k+1,hk=>by
  obtain⟨a1,a2,a3,a4,a5,a6⟩:=b3O hx hS hz l hb P h0 hs k (by omega);have hk':k<l.length:=by omega
  have n:=a58 a1 a2 a3 (by omega) l[k];rw[K5 hk',a8s];exact⟨n.rt,n.sl,n.zr,by have:=n.ev.s2;show (dov _ _).1.S.Serial≤_;omega,by simp[a5],hs _ _ (List.getElem_mem hk') a1 n a6⟩
theorem run_eq{x:Hp}(hx:I8 x)(hS:SL x)(hz:zr x = [])(l:List c5)(hl:l.length≤1000)(hb:x.S.Serial+l.length<9223372036854775807) :
  a2G x l=some (runs x l)∧b2A (hO x) (l.map opR)=some (hO (runs x l).1,(runs x l).2):=by
 have all:=b3O hx hS hz l hb (λ_=>True) trivial (λ_ _ _ _ _ _=>trivial);constructor
 ·unfold a2G;simp only[jn];refine N4 (T:=Hp × List Int) l.length (λk acc=>acc=runs x (l.take k)) (by omega) rfl (λk acc hk hP=>?_) (λacc hP=>?_)
  ·subst hP;obtain⟨a1,a2,a3,a4,a5,_⟩:=all k (by omega);have n:=a58 a1 a2 a3 (by omega) l[k];refine .inl ⟨_,?_,rfl⟩;rw[K5 hk,a8s];show (if _ then _ else _)=_;rw[if_pos (by simpa using hk),n9 hk,d2I,n.mc,d2I,u7 (by omega) (by rw[a5];simp;omega),d2I,k8]
  ·subst hP;refine⟨runs x (l.take l.length),?_,?_⟩
   ·show (if _ then _ else _)=_;rw[if_neg (by simp)]
   ·rw[List.take_length]
 ·unfold b2A;simp only[jn];refine N4 (T:=g8 × List Int) (l.map opR).length (λk acc=>acc=(hO (runs x (l.take k)).1,(runs x (l.take k)).2)) (by simp;omega) rfl (λk acc hk hP=>?_) (λacc hP=>?_)
  ·subst hP;have hk':k<l.length:=by simpa using hk
   obtain⟨a1,a2,a3,a4,a5,_⟩:=all k (by omega);have n:=a58 a1 a2 a3 (by omega) l[k];refine .inl ⟨_,?_,rfl⟩;rw[K5 hk',a8s];show (if _ then _ else _)=_;rw[if_pos (by simpa using hk'),n9 hk,d2I,List.getElem_map];dsimp only;rw[n.rf,d2I,u7 (by omega) (by rw[a5];simp;omega),d2I,k8]
  ·subst hP;refine⟨(hO (runs x (l.take (l.map opR).length)).1,(runs x (l.take (l.map opR).length)).2),?_,?_⟩
   ·show (if _ then _ else _)=_;rw[if_neg (by simp)]
   ·rw[List.length_map,List.take_length]
end Go.Sh
namespace Go.Sh
section
variable{x:Hp}(hB:HB x)
include hB
end
end Go.Sh
namespace Go.Sh
def nwH(k:Nat)(l:Int)(p:Nat):Hp:=⟨⟨⟨List.replicate k ⟨0,0,z0⟩,l⟩,0⟩,List.replicate 6 0,List.replicate 6 ⟨0,false,-1⟩,List.replicate p ⟨0,0,0⟩,⟨[],30⟩⟩
theorem c3F{k p:Nat}{l:Int}(hk:1≤k∧k≤24)(hl:0≤l∧l≤9)(hp:1≤p∧p≤8) :
  a2F k l p=some (nwH k l p)∧b0v k l p=some (hO (nwH k l p))∧I8 (nwH k l p)∧SL (nwH k l p)∧zr (nwH k l p) = []:=by
 have e1:a3F k l=some (nwH k l p).S:=by
  unfold a3F U3;rw[if_neg (by simp;omega),a7l (by omega) (by omega)];rfl
 obtain⟨a,h1,h2,h3,_⟩:=d02 k l;rw[e1] at h1;have ha:=Option.some.inj h1;subst ha;have hR:SR (nwH k l p).S:=p9.1 h3;have hce:∀i,ce (nwH k l p).S i=⟨0,0,z0⟩:=λi=>by
  unfold ce nwH;dsimp only;rw[List.getD_eq_getElem?_getD,List.getElem?_replicate];split <;> rfl
 have hlv:lv (nwH k l p).S = []:=List.eq_nil_iff_forall_not_mem.2 λh hh=>by
  obtain⟨i,q⟩:=(a1Y hR).1 hh;have:=q.2.1;rw[hce] at this;cases this
 refine⟨?_,?_,⟨⟨hR,(d0e (V:=Int) (λ_ _=>True) hp.1 hp.2).1,rfl,rfl,rfl,Nat.zero_le _,(λt ht=>nomatch ht),List.Pairwise.nil,(λh hh=>.inl (List.mem_replicate.1 hh).2),λh hh=>?_,λa v hv=>?_,λi hi=>?_⟩,λi hi ht=>?_,λh hh=>?_⟩,λh hh=>?_,?_⟩
 ·unfold a2F;rw[if_neg (by simp;omega),e1,d2I,show mk 8 6 (0:Int)=some (List.replicate 6 0) from rfl,d2I];refine bnd (a:=List.replicate 6 ⟨0,false,-1⟩) (by kernel_rfl) ?_;rw[c9n hp.1 hp.2,d2I];refine bnd (a:=⟨[],30⟩) (by kernel_rfl) ?_;rfl
 ·unfold b0v;rw[if_neg (by simp;omega),h2,d2I,show mk 8 6 (0:Int)=some (List.replicate 6 0) from rfl,d2I];refine bnd (a:=List.replicate 6 ⟨0,false,-1⟩) (by kernel_rfl) ?_;unfold c0X;rw[if_neg (by simp;omega),a7l (by omega) (by omega),d2I,d2I];refine bnd (a:=⟨[],30⟩) (by kernel_rfl) ?_;unfold hO nwH;dsimp only;rw[List.map_replicate,List.map_replicate];rfl
 ·rw[hlv] at hh;cases hh
 ·obtain⟨i,hi,_⟩:=hv;have:=hi.2.1;rw[show (nwH k l p).T=List.replicate p ⟨0,0,0⟩ from rfl,b3q] at this;cases this
 ·have:(nwH k l p).a8[i]=⟨0,false,-1⟩:=List.getElem_replicate ..;rw[this];exact⟨by decide,by decide,λ_=>rfl,λh=>absurd rfl h,λh=>by cases h⟩
 ·rw[hce] at ht;rcases ht with h | h <;> cases h
 ·rw[hlv] at hh;cases hh
 ·rw[hlv] at hh;cases hh
 ·unfold zr;rw[hlv];rfl
end Go.Sh
namespace Go.Sh
end Go.Sh
namespace Go.Sh
section
variable{x:Hp}(hB:HB x)
include hB
end
end Go.Sh
namespace Go.Sh
def b17(o:c5):o8:=⟨o.Kind,o.A,o.B,o.C⟩
abbrev b5B(o:c5):Int:=w9 o.Kind o.A o.B o.C
theorem c0p(k a b c:Int):T5 [k,a,b,c]=some (if w9 k a b c≠0 then (⟨0,0,0,0⟩,w9 k a b c) else (⟨k,a,b,c⟩,0)):=by
 unfold T5;rw[if_neg (by simp)];show (P3 ⟨k,a,b,c⟩).bind _=_;rw[a61,d2I];by_cases h:w9 k a b c=0
 ·rw[if_neg (by simpa using h),if_neg (by simpa using h)]
 ·rw[if_pos (by simpa using h),if_pos h]
theorem c3e(k a b c:Int):a2g [k,a,b,c]=some (if w9 k a b c≠0 then (⟨0,0,0,0⟩,w9 k a b c) else (⟨k,a,b,c⟩,0)):=by
 unfold a2g;rw[if_neg (by simp)];show (a0k ⟨k,a,b,c⟩).bind _=_;rw[a4k,d2I];by_cases h:w9 k a b c=0
 ·rw[if_neg (by simpa using h),if_neg (by simpa using h)]
 ·rw[if_pos (by simpa using h),if_pos h]
theorem four(l:List Int):(∃k a b c,l = [k,a,b,c])∨l.length≠4:=by
 match l with
 | []=>exact .inr (by simp)
 | [_]=>exact .inr (by simp)
 | [_,_]=>exact .inr (by simp)
 | [_,_,_]=>exact .inr (by simp)
 | [k,a,b,c]=>exact .inl ⟨k,a,b,c,rfl⟩
 | _::_::_::_::_::l=>exact .inr (by simp)
theorem b5I{l:List Int}(h:l.length≠4):T5 l=some (⟨0,0,0,0⟩,14)∧a2g l=some (⟨0,0,0,0⟩,14):=by
 unfold T5 a2g;have:(((l.length:Int) != 4))=true:=by simp;omega
 rw[if_pos this,if_pos this];exact⟨rfl,rfl⟩
def T6(l:List Int):c5 × Int:=(T5 l).getD (⟨0,0,0,0⟩,0)
theorem b7p(l:List Int):T5 l=some (T6 l)∧a2g l=some (b17 (T6 l).1,(T6 l).2):=by
 unfold T6;rcases four l with ⟨k,a,b,c,rfl⟩ | h
 ·rw[c0p,c3e];refine⟨rfl,?_⟩;rw[Option.getD_some];by_cases h:w9 k a b c≠0
  ·rw[if_pos h,if_pos h];rfl
  ·rw[if_neg h,if_neg h];rfl
 ·rw[(b5I h).1,(b5I h).2];exact⟨rfl,rfl⟩
def b0o(o:c5):Bool:=((decide (o.Kind≥1))&&(decide (o.Kind≤10)))&&(b5B o==0)
def b1Q(p:List c5):Bool:=decide (p.length≤6)&&p.all b0o
def a24(l:List (List c5)):Bool:=decide (l.length≤6)&&l.all b1Q
section
variable{l:List (List c5)}(hl:l.length≤12)(hp:∀p∈l,p.length≤12)
include hl hp
theorem b73:a0Y l=some (a24 l):=by
 unfold a0Y a24;by_cases h6:l.length > 6
 ·rw[if_pos (by simp;omega),decide_eq_false (by omega)];rfl
 ·rw[if_neg (by simp;omega),decide_eq_true (by omega),Bool.true_and];simp only[jn];have key:=b59 (f:=λ(s23:Int)=>
   if (decide (s23<(l.length:Int))) then
     (ix l s23).bind λv34=>
     if (decide ((v34.length:Int) > 6)) then
      some (.inr (.inl false))
     else
     (lp (S:=Int) (E:=Bool ⊕ Unit) (λ(s36:Int)=>
      if (decide (s36<(v34.length:Int))) then
       (ix v34 s36).bind λv38=>
       (a14 v38).bind λv39=>
       (y7 ((!v39)==false) 0 (P3 v38)).bind λv40=>
       if ((!v39)||(v40 != 0)) then
        some (.inr (.inl false))
       else
       some (.inl (u5 (s36+1)))
      else
      some (.inr (.inr ()))) 0).bind λe35=>
     match e35 with
     | .inl w=>some (.inr (.inl w))
     | .inr w=>some (Sum.inl (u5 (s23+1)))
   else
   some (.inr (.inr ()))) l b1Q (.inr ()) (Sum.inl (β:=Unit) false) (by omega) (λk hk=>?_) (by simp)
  ·refine bnd key ?_;cases l.all b1Q <;> rfl
  ·rw[if_pos (by simpa using hk),n9 hk,d2I];unfold b1Q;have hm:=hp _ (List.getElem_mem hk);generalize l[k]=p at hm ⊢;by_cases hq:p.length > 6
   ·rw[if_pos (by simp;omega),decide_eq_false (by omega)];rfl
   ·rw[if_neg (by simp;omega),decide_eq_true (by omega),Bool.true_and];have k2:=b59 (f:=λ(s36:Int)=>
      if (decide (s36<(p.length:Int))) then
       (ix p s36).bind λv38=>
       (a14 v38).bind λv39=>
       (y7 ((!v39)==false) 0 (P3 v38)).bind λv40=>
       if ((!v39)||(v40 != 0)) then
        some (.inr (.inl false))
       else
       some (Sum.inl (u5 (s36+1)))
      else
      some (.inr (.inr ()))) p b0o (.inr ()) (Sum.inl (β:=Unit) false) (by omega) (λj hj=>?_) (by simp)
    ·refine Eq.trans (bnd k2 (r:=if p.all b0o=true then some (.inl (u5 ((k:Int)+1))) else some (.inr (.inl false))) ?_) ?_;·cases p.all b0o <;> rfl
     ·rw[k8]
    ·rw[if_pos (by simpa using hj),n9 hj,d2I,a61];unfold b0o a14;rw[d2I,k8];cases ((decide (p[j].Kind≥1))&&(decide (p[j].Kind≤10)));·rfl
     ·by_cases h:b5B p[j]=0
      ·have e:w9 p[j].Kind p[j].A p[j].B p[j].C=0:=h;rw[e,h];rfl
      ·have e1:(w9 p[j].Kind p[j].A p[j].B p[j].C != 0)=true:=by simpa using h
       have e2:(b5B p[j]==0)=false:=by simpa using h
       rw[e2];refine bnd (a:=b5B p[j]) rfl ?_;rw[show (b5B p[j] != 0)=true from e1];rfl
theorem b3p:a2h (l.map (List.map b17))=some (a24 l):=by
 unfold a2h a24;rw[List.length_map];by_cases h6:l.length > 6
 ·rw[if_pos (by simp;omega),decide_eq_false (by omega)];rfl
 ·rw[if_neg (by simp;omega),decide_eq_true (by omega),Bool.true_and];simp only[jn];have key:=b59 (f:=λ(s23:Int)=>
   if (decide (s23<(l.length:Int))) then
     (ix (l.map (List.map b17)) s23).bind λv34=>
     if (decide ((v34.length:Int) > 6)) then
      some (.inr (.inl false))
     else
     (lp (S:=Int) (E:=Bool ⊕ Unit) (λ(s36:Int)=>
      if (decide (s36<(v34.length:Int))) then
       (ix v34 s36).bind λv38=>
       (N9 v38).bind λv39=>
       (y7 ((!v39)==false) 0 (a0k v38)).bind λv40=>
       if ((!v39)||(v40 != 0)) then
        some (.inr (.inl false))
       else
       some (.inl (u5 (s36+1)))
      else
      some (.inr (.inr ()))) 0).bind λe35=>
     match e35 with
     | .inl w=>some (.inr (.inl w))
     | .inr w=>some (Sum.inl (u5 (s23+1)))
   else
   some (.inr (.inr ()))) l b1Q (.inr ()) (Sum.inl (β:=Unit) false) (by omega) (λk hk=>?_) (by simp)
  ·refine bnd key ?_;cases l.all b1Q <;> rfl
  ·rw[if_pos (by simpa using hk),a0U,n9 hk,Option.map_some,d2I,List.length_map];unfold b1Q;have hm:=hp _ (List.getElem_mem hk);generalize l[k]=p at hm ⊢;by_cases hq:p.length > 6
   ·rw[if_pos (by simp;omega),decide_eq_false (by omega)];rfl
   ·rw[if_neg (by simp;omega),decide_eq_true (by omega),Bool.true_and];have k2:=b59 (f:=λ(s36:Int)=>
      if (decide (s36<(p.length:Int))) then
       (ix (p.map b17) s36).bind λv38=>
       (N9 v38).bind λv39=>
       (y7 ((!v39)==false) 0 (a0k v38)).bind λv40=>
       if ((!v39)||(v40 != 0)) then
        some (.inr (.inl false))
       else
       some (Sum.inl (u5 (s36+1)))
      else
      some (.inr (.inr ()))) p b0o (.inr ()) (Sum.inl (β:=Unit) false) (by omega) (λj hj=>?_) (by simp)
    ·refine Eq.trans (bnd k2 (r:=if p.all b0o=true then some (.inl (u5 ((k:Int)+1))) else some (.inr (.inl false))) ?_) ?_;·cases p.all b0o <;> rfl
     ·rw[k8]
    ·rw[if_pos (by simpa using hj),a0U,n9 hj,Option.map_some,d2I,a4k];unfold b0o N9;rw[d2I,k8];rw[show (b17 p[j]).Kind=p[j].Kind from rfl];cases ((decide (p[j].Kind≥1))&&(decide (p[j].Kind≤10)));·rfl
     ·by_cases h:b5B p[j]=0
      ·have e:w9 p[j].Kind (b17 p[j]).A (b17 p[j]).B (b17 p[j]).C=0:=h;rw[e,h];rfl
      ·have e1:(w9 p[j].Kind p[j].A p[j].B p[j].C != 0)=true:=by simpa using h
       have e2:(b5B p[j]==0)=false:=by simpa using h
       rw[e2];refine bnd (a:=b5B p[j]) rfl ?_;rw[show (b5B p[j] != 0)=true from e1];rfl
end
end Go.Sh
namespace Go.Sh
noncomputable def hdx(x:Hp):List Int:=hld x.S x.T
noncomputable def gbg(x:Hp):List Int:=fls x.S x.T (hdx x)
theorem a0d{x:Hp}{h:Int}:h∈gbg x↔h∈lv x.S∧¬a0v x.S x.T (hdx x) h:=by
 classical
 unfold gbg fls;rw[List.mem_filter,decide_eq_true_iff]
section
variable{x:Hp}(hx:I8 x)
include hx
theorem a2Y:(gbg x).Nodup:=List.Pairwise.filter _ (b0k (p9.2 hx.sh.sr))
theorem a19:∀d∈gbg x,d∈lv x.S:=λd hd=>(a0d.1 hd).1
theorem c1b{h:Int}(hl:h∈lv x.S)(hs:(ob x.S h).Strong<12):rst x.S x.T h=(X4 (otr x) h:Int):=c3p.2 hx.fair h hl hs
theorem c0w{h:Int}(hl:h∈lv x.S)(ho:h∈otr x):h∈hdx x:=by
 refine b2l.2 ⟨hl,?_⟩;by_cases hs:(ob x.S h).Strong<12
 ·left;rw[c1b hx hl hs];have:=a1Q.2 ⟨λe=>a3S hx.sh.sr (e▸hl),ho⟩;omega
 ·exact .inr (by omega)
theorem c3E{h:Int}(hh:h∈hdx x):h∈lv x.S∧(h∈otr x∨12≤(ob x.S h).Strong):=by
 obtain⟨hl,hs⟩:=b2l.1 hh;refine⟨hl,?_⟩;by_cases q:(ob x.S h).Strong<12
 ·rcases hs with hs | hs
  ·rw[c1b hx hl q] at hs;exact .inl (a1Q.1 (by omega)).2
  ·omega
 ·exact .inr (by omega)
theorem c6b:∀d∈gbg x,d∉otr x:=λd hd q=>by
 obtain⟨a,b⟩:=a0d.1 hd;exact b (.base (c0w hx a q) a)
theorem c6a:∀h∈lv x.S,h∉gbg x→∀v∈(ob x.S h).Fields,v∉gbg x:=λh hh hn v hv q=>by
 obtain⟨a,b⟩:=a0d.1 q;have hr:a0v x.S x.T (hdx x) h:=Classical.byContradiction λr=>hn (a0d.2 ⟨hh,r⟩);exact b (.step hr (a59.2 ⟨hv,λe=>a3S hx.sh.sr (e▸a)⟩) a)
theorem c6c:∀k v,Has x.T k v→k∉gbg x→v∉gbg x:=λk v hk hn q=>by
 obtain⟨a,b⟩:=a0d.1 q;have hr:a0v x.S x.T (hdx x) k:=Classical.byContradiction λr=>hn (a0d.2 ⟨(hx.sh.pr k v hk).1,r⟩);exact b (.pair hk hr a)
theorem V5:I8 (buH x (gbg x)):=b4G hx (a2Y hx) (a19 hx) (c6b hx) (c6a hx) (c6c hx)
end
theorem b3J:∀(l:List Int) {x:Hp} (hR:SR x.S) {h:Int} (hh:h∈lv x.S) (hs:12≤(ob x.S h).Strong),12≤(ob (l.foldl M9 x).S h).Strong
 | [],_,_,_,_,hs=>hs
 | v::l,x,hR,h,hh,hs=>by
  have k1:=B5 hR v (f:=a1T) λc=>E2;refine b3J l (x:=M9 x v) k1.sr (by
   show h∈lv (stO x v a1T).S;rw[k1.lv];exact hh) ?_
  show 12≤(ob (stO x v a1T).S h).Strong;rw[a3a (x:=x) hR (h:=v) (f:=a1T) (λc=>E2) hh];split
  ·unfold a1T;rw[if_pos hs];omega
  ·exact hs
section
variable{x:Hp}(hx:I8 x)
include hx
theorem b27{h:Int}:h∈lv (buH x (gbg x)).S↔a0v x.S x.T (hdx x) h:=by
 rw[b5z hx.sh.sr (a2Y hx) (a19 hx),List.mem_filter,decide_eq_true_iff,a0d];constructor
 ·rintro⟨a,b⟩;exact Classical.byContradiction λr=>b ⟨a,r⟩
 ·intro r;exact⟨r.live,λq=>q.2 r⟩
theorem d0N{h:Int}(hh:h∈lv (buH x (gbg x)).S):(ob (buH x (gbg x)).S h).Serial=(ob x.S h).Serial∧(ob (buH x (gbg x)).S h).Prog=(ob x.S h).Prog∧(ob (buH x (gbg x)).S h).Fields=(ob x.S h).Fields∧(ob (buH x (gbg x)).S h).Started=(ob x.S h).Started:=by
 have r:=(b27 hx).1 hh;obtain⟨n,e⟩:=b8W hx.sh.sr (a2Y hx) (a19 hx) r.live (λq=>(a0d.1 q).2 r);rw[e];exact⟨rfl,rfl,rfl,rfl⟩
theorem c3y{h:Int}(hh:h∈lv (buH x (gbg x)).S)(hs:12≤(ob x.S h).Strong):12≤(ob (buH x (gbg x)).S h).Strong:=by
 have r:=(b27 hx).1 hh;have g:=a1w (gbg x) hx.sh.sr (a2Y hx) (a19 hx);have hn:h∉gbg x:=λq=>(a0d.1 q).2 r;refine b3J _ (x:=a4d x (gbg x) (wot x.T (gbg x)).1) g.sr ?_ ?_
 ·show h∈lv (gnL x.S (gbg x));rw[g.lv,List.mem_filter];exact⟨r.live,by simpa using hn⟩
 ·show 12≤(ob (gnL x.S (gbg x)) h).Strong;rw[g.ob h r.live hn];exact hs
theorem c8U:otr (buH x (gbg x))=otr x:=by
 obtain⟨e1,_,_,e4⟩:=a9N hx.sh.sr (a2Y hx) (a19 hx);unfold otr;rw[e1,e4,b3b _ _ _ λt ht=>by
  obtain⟨w,_,rfl,_⟩:=a3j.1 ht;simp]
theorem c59{h:Int}(hh:a0v x.S x.T (hdx x) h):a0v (buH x (gbg x)).S (buH x (gbg x)).T (hdx (buH x (gbg x))) h:=by
 have w:=V5 hx;obtain⟨_,_,e3,_⟩:=a9N hx.sh.sr (a2Y hx) (a19 hx);have hlen:(gbg x).length≤1000:=by
  have:=a3V (a2Y hx) (a19 hx);have:=D9 (p9.2 hx.sh.sr);omega
 obtain⟨_,_,_,_,w5,_⟩:=a4c hx.sh.hr (gbg x) hlen;induction hh with
 | base h1 h2=>
  have hl:=(b27 hx).2 (.base h1 h2);refine .base ?_ hl;rcases (c3E hx h1).2 with q | q
  ·exact c0w w hl (by rw[c8U hx];exact q)
  ·exact b2l.2 ⟨hl,.inr (c3y hx hl q)⟩
 | step q0 q1 q2 ih=>
  refine .step ih ?_ ((b27 hx).2 (.step q0 q1 q2));unfold outs at q1 ⊢;rw[(d0N hx ((b27 hx).2 q0)).2.2.1];exact q1
 | pair q1 q0 q2 ih=>
  refine .pair ?_ ih ((b27 hx).2 (.pair q1 q0 q2));rw[e3];exact (w5 _ _).2 ⟨λq=>(a0d.1 q).2 q0,q1⟩
theorem b7y:gbg (buH x (gbg x)) = []:=List.eq_nil_iff_forall_not_mem.2 λh hh=>by
 obtain⟨a,b⟩:=a0d.1 hh;exact b (c59 hx ((b27 hx).1 a))
end
theorem b7l{x:Hp}(hx:I8 x)(hg:gbg x = []):zr x = []:=List.eq_nil_iff_forall_not_mem.2 λh hh=>by
 have hl:=(X5.1 hh).1;have hs:=(X5.1 hh).2;have hf:=b66 hx hh;have h0:h≠0:=λe=>a3S hx.sh.sr (e▸hl);have r:a0v x.S x.T (hdx x) h:=Classical.byContradiction λr=>by
  have:h∈gbg x:=a0d.2 ⟨hl,r⟩;rw[hg] at this;cases this
 unfold nms at hf;cases r with
 | base h1 h2=>
  rcases (c3E hx h1).2 with q | q
  ·have:=a1Q.2 ⟨h0,q⟩;omega
  ·omega
 | step q0 q1 q2=>
  have:=b56 (y:=h) q0.live;have h1:=a1Q.2 ⟨h0,q1⟩;omega
 | pair q1 q0 q2=>
  have:=b6k q1 h0;omega
theorem b28{x:Hp}(hx:I8 x):V3 (buH x (gbg x))=buH x (gbg x):=a1M (b7l (V5 hx) (b7y hx))
end Go.Sh
